/- MADE SMALL. -/
import Derived.Test.YtfhdojnobmfefaaGreatDoorG1
import Derived.Maps.RangeWalk
import Derived.WalkArith
import Derived.OpenShut
import Derived.Deep.Draws
import Derived.Test.YtfhdojnobmfefaaGreatDoorG0
namespace Go.Inc
open Go.RowKit Go.Maps
structure Mv (F:Nat->Prop) (w w':World):Prop where
 os:w'.os=w.os
 tape:w'.tape=w.tape
 output:w'.output=w.output
 size:w.heap.size<=w'.heap.size
 block:∀ k,k < w.heap.size->¬ F k->w'.heap[k]?=w.heap[k]?
section
variable {F F':Nat->Prop} {w w' a b c:World}
theorem Mv.refl (F:Nat->Prop) (w:World):Mv F w w:=⟨rfl,rfl,rfl,Nat.le_refl _,fun _ _ _=>rfl⟩
theorem Mv.trans' (h:Mv F a b) (k:Mv F' b c) (hF:∀ i,i < a.heap.size->F' i->F i):Mv F a c:=
 ⟨k.os.trans h.os,k.tape.trans h.tape,k.output.trans h.output,Nat.le_trans h.size k.size,
  fun i hi hn=>(k.block i (Nat.lt_of_lt_of_le hi h.size) (fun hf=>hn (hF i hi hf))).trans (h.block i hi hn)⟩
theorem Mv.trans (h:Mv F a b) (k:Mv F b c):Mv F a c:=h.trans' k fun _ _ h=>h
theorem Mv.of_below (h:Below w.heap.size w w'):Mv F w w':=⟨h.os,h.tape,h.output,h.size,fun i hi _=>h.block i hi⟩
theorem Mv.of_grown {r:Option Nat} (h:w.grownBy w' r) (hr:∀ g,r=some g->g < w.heap.size->F g):Mv F w w':=
 ⟨h.os,h.tape,h.output,h.size,fun i hi hn=>h.block i hi (by intro e;exact hn (hr i e.symm hi))⟩
theorem Mv.below (h:Mv F w w') {B:Nat} (hB:B<=w.heap.size) (hF:∀ i,F i->B<=i):Below B w w':=
 ⟨h.os,h.tape,h.output,h.size,fun i hi=>h.block i (by omega) (fun hf=>by have:=hF i hf;omega)⟩
theorem Mv.drew (h:Mv F w w'):Mv F w w'.drew:=⟨h.os,h.tape,h.output,h.size,h.block⟩
theorem Mv.sub (h:Mv F w w') (hF:∀ i,i < w.heap.size->F i->F' i):Mv F' w w':=
 ⟨h.os,h.tape,h.output,h.size,fun i hi hn=>h.block i hi (fun hf=>hn (hF i hi hf))⟩
theorem Sl.mv {ok:Nat->Prop} {p:Option Addr} {bs:List Nat} (h:Sl ok w p bs) (hm:Mv F w w') (hk:∀ i,ok i->¬ F i):Sl ok w' p bs:=
 h.kept fun i hi hlt=>hm.block i hlt (hk i hi)
theorem Mv.cell (h:Mv F w w') {p:Addr} {v:Value} (hc:w.cell? p=some v) (hF:¬ F p.block):w'.cell? p=some v:=by
 rw [<- hc];exact World.cell?_of_block (h.block _ (AA hc) hF)
theorem Mv.row (h:Mv F w w') {g:Nat} {o:Obj} (hc:w.heap[g]?=some o) (hF:¬ F g):w'.heap[g]?=some o:=by
 rw [h.block g (Aj hc) hF];exact hc
theorem Ag {B e s n:Nat} {v:Value} {x:List Value} (h:w.ownsRow B e s v n x) (hm:Mv F w w') (hk:∀ i,v.ownBlock=some i->¬ F i):w'.ownsRow B e s v n x:=by
 refine ⟨h.1,h.2.imp id ?_⟩;rintro ⟨g,cap,cur,rfl,hb,hg,r⟩;exact ⟨g,cap,cur,rfl,hb,hm.row hg (hk g rfl),r⟩
end
def JL (v:Value):Option (DataW Value×List MemPlace):=some (.held v,[])
def Says (D:DataW Value) (f:Int->Option Value):Prop:=
 ∀ x,(∀ v,f x=some v->has D (.int .i64 x)=true/\∀ zd,D.atKey (.int .i64 x) zd=.held v)/\(f x=none->has D (.int .i64 x)=false)
def Mp (P:Program) (k:TypeId) (w:World) (b n:Nat) (f:Int->Option Value):Prop:=∃ D,w.ownsMap P k JL b n D/\Says D f
def put (f:Int->Option Value) (x:Int) (v:Value):Int->Option Value:=fun y=>if y=x then some v else f y
def Jh:Int->Option Value:=fun _=>none
section
variable {P:Program} {k:TypeId} {w w':World} {b r n:Nat} {f:Int->Option Value} {left:Int->Bool} {cnt:Nat}
theorem OG (q:IntKind) (x:Int):WideAt.IsKeyLit (.int q x):=trivial
theorem Says.none:Says (.map []) Jh:=fun x=>⟨fun v h=>(by cases h),fun _=>rfl⟩
theorem Tq {x y:Int} (h:y≠x):Lit.int .i64 y≠Lit.int .i64 x:=by intro e;cases e;exact h rfl
theorem Says.put {D:DataW Value} (h:Says D f) (hD:IsMap D) (x:Int) (v:Value):Says (D.put (.int .i64 x) (.held v)) (put f x v):=by
 intro y;unfold Go.Inc.put;by_cases hy:y=x
 ·subst hy;rw [if_pos rfl];refine ⟨fun u hu=>?_,fun hu=>(by cases hu)⟩;cases hu;exact ⟨has_put_same hD (OG _ _) _,fun zd=>atKey_put_same hD (OG _ _) _ zd⟩
 ·rw [if_neg hy];refine ⟨fun u hu=>?_,fun hu=>?_⟩
  ·have:=(h y).1 u hu;exact ⟨by rw [has_put_other (Tq hy)];exact this.1,fun zd=>by rw [atKey_put_other (Tq hy)];exact this.2 zd⟩
  ·rw [has_put_other (Tq hy)];exact (h y).2 hu
theorem Says.at {D:DataW Value} (h:Says D f) (x:Int) (z:Value):D.atKey (.int .i64 x) (.held z)=.held ((f x).getD z):=by
 cases hf:f x with
 | none=>exact atKey_of_not_has ((h x).2 hf) _
 | some v=>exact ((h x).1 v hf).2 _
theorem Mp.lt (h:Mp P k w b n f):b < w.heap.size:=let ⟨_,h,_⟩:=h;h.lt
theorem Mp.mono (h:Mp P k w b n f) {n':Nat} (hn:n<=n'):Mp P k w b n' f:=let ⟨D,h,s⟩:=h;⟨D,h.mono hn,s⟩
theorem IG {D:DataW Value} {R:Value->Option (DataW Value×List MemPlace)} (h:w.ownsMap P k R b n D) (hb:w'.heap[b]?=w.heap[b]?):w'.ownsMap P k R b n D:=by
 obtain ⟨es,clock,h1,r⟩:=h;exact ⟨es,clock,hb.trans h1,r⟩
theorem Mp.same (h:Mp P k w b n f) (hb:w'.heap[b]?=w.heap[b]?):Mp P k w' b n f:=let ⟨D,h,s⟩:=h;⟨D,IG h hb,s⟩
theorem Mp.mv {F:Nat->Prop} (h:Mp P k w b n f) (hm:Mv F w w') (hb:¬ F b):Mp P k w' b n f:=h.same (hm.block b h.lt hb)
theorem Mp.below (h:Mp P k w b n f) (hb:Below w.heap.size w w'):Mp P k w' b n f:=h.same (hb.block b h.lt)
theorem Mp.grown {o:Option Nat} (h:Mp P k w b n f) (hg:w.grownBy w' o) (hr:o≠some b):Mp P k w' b n f:=h.same (hg.block b h.lt hr.symm)
theorem Mp.made (w:World) (P:Program) (k:TypeId):Mp P k (w.alloc (.map #[] 0)) w.heap.size 0 Jh:=⟨.map [],World.ownsMap_made w P k JL,Says.none⟩
end
section
variable {P:Program} (w:World) {ops:Array Oper} {rest:List Oper} {o:Oper} {a:Act} {Q:Exit->Act->World->Prop}
theorem Hl (hg:o.guard=none) (m x:Operand) (t:TypeId) (hop:o.op=Op.lookup t m x false) (k e:TypeId) (hk:P.underlying k=some (.int .i64)) (ht:P.underlying t=some (.map k e)) (z:Value) (hz:(P.info? e).bind (·.zero)=some z)
  (b n:Nat) (f:Int->Option Value) (hm:a.eval m=.map (some b)) (hown:Mp P k w b n f) (y:Int) (hx:a.eval x=.int .i64 y) (hw:-9223372036854775808<=y/\y<=9223372036854775807)
  (hK:wpList P ops Q rest (a.put o.dst ((f y).getD z)) w):wpList P ops Q (o::rest) a w:=by
 obtain ⟨D,hD,hs⟩:=hown;refine wpList_plain hg fun K' hK'=>?_;have hz':(zeroValue e).run P w=.ok z w:=by
  obtain ⟨i,hi,hz⟩:=Option.bind_eq_some_iff.1 hz;simp [zeroValue,typeInfo,hi,hz]
 obtain ⟨v,ps,hrun,hv⟩:=hD.lookup (int_keyed hk) ht hz' (zd:=.held z) (zp:=[]) rfl (keyOf_int_mk hk (a:=y) (Go.WalkArith.wf_i64 hw));rw [hs.at] at hv;unfold JL at hv;simp only [Option.some.injEq,Prod.mk.injEq,DataW.held.injEq] at hv;obtain ⟨rfl,_⟩:=hv;unfold Oper.wp;simp [execOp,hop,hm,hx,hrun,Result.andThen];exact hK' _ _ hK
theorem RY (hg:o.guard=none) (m x v:Operand) (t:TypeId) (hop:o.op=Op.mapUpdate t m x v) (k e:TypeId) (hk:P.underlying k=some (.int .i64)) (ht:P.underlying t=some (.map k e))
  (b n:Nat) (f:Int->Option Value) (hm:a.eval m=.map (some b)) (hown:Mp P k w b n f) (hn:n < maxLen) (y:Int) (hx:a.eval x=.int .i64 y) (hw:-9223372036854775808<=y/\y<=9223372036854775807) (u:Value) (hv:a.eval v=u)
  (hK:∀ w',Mp P k w' b (n+1) (put f y u)->w.grownBy w' (some b)->wpList P ops Q rest (a.put o.dst undef) w'):wpList P ops Q (o::rest) a w:=by
 obtain ⟨D,hD,hs⟩:=hown;exact wpList_mapUpdate_own w hg m x v t hop k e (int_keyed hk) ht JL b n D hm hD hn _ _ _ hx hv (keyOf_int_mk hk (a:=y) (Go.WalkArith.wf_i64 hw)) (.held u) [] rfl
  fun w' h hg=>hK w' ⟨_,h,hs.put hD.isMap y u⟩ hg
end
end Go.Inc
namespace Go.Inc
open Go.RowKit
theorem snocMem {α:Type} {l:List α} {z i:α}:i∈l++[z]↔i∈l\/i=z:=by simp
theorem CX {α:Type} {zs:List α} {d:α} {k:Nat} (h:k < zs.length):zs.getD k d∈zs:=by
 rw [List.getD_eq_getElem?_getD,List.getElem?_eq_getElem h];exact List.getElem_mem h
theorem DK {α:Type} {bs:List α} {d:α} {k:Nat} (h:k < bs.length):bs.take (k+1)=bs.take k++[bs.getD k d]:=by
 rw [List.take_succ_eq_append_getElem h,List.getD_eq_getElem?_getD,List.getElem?_eq_getElem h];rfl
theorem Pm {okz:Nat->Prop} {w:World} {a:Option Addr} {zs:List Int} (h:Si okz w a zs) {k:Nat} (hk:k < zs.length):∃ b o,a=some ⟨b,o,none⟩/\w.cell? ⟨b,o+k,none⟩=some (.int .i64 (zs.getD k 0)):=by
 rcases h with h | ⟨b,o,h,_,hc⟩
 ·rw [h] at hk;simp at hk
 ·exact ⟨b,o,h,hc k hk⟩
theorem aG {F:Nat->Prop} {ok:Nat->Prop} {w w':World} {p:Option Addr} {zs:List Int} (h:Si ok w p zs) (hm:Mv F w w') (hk:∀ i,ok i->¬ F i):Si ok w' p zs:=
 h.kept fun i hi hlt=>hm.block i hlt (hk i hi)
theorem Ad (w:World) (o:Obj):Below w.heap.size w (w.alloc o):=(Below.refl _ _).alloc (Nat.le_refl _) _
theorem BX (w:World) (n:Nat):Below w.heap.size w (w.drewN n):=⟨rfl,rfl,rfl,Nat.le_refl _,fun _ _=>rfl⟩
theorem Yw (w:World) (l:List Value) (T:TypeId):∀ j u,l[j]?=some u->(w.alloc (.cells l.toArray T)).cell? ((⟨w.heap.size,0,none⟩:Addr).add j)=some u:=by
 intro j u hu;rw [Addr.add_lit,cell_of_row _ _ _ _ _ _ (heap_alloc_new w _)];simpa using hu
end Go.Inc
namespace Go.Inc
open Go.RowKit
abbrev Ky:=Int×Int
abbrev Et:=Ky×Int
abbrev et0:Et:=((0,0),0)
def plK (k:Ky):Int:=65536 * k.1+k.2
def okK (k:Ky):Bool:=decide (0<=k.1) && decide (k.1 < 16) && decide (0<=k.2) && decide (k.2 < 65536)
def okE (e:Et):Bool:=okK e.1 && decide (1 < e.2) && decide (e.2 < 2048)
theorem okK_iff {k:Ky}:okK k=true↔0<=k.1/\k.1 < 16/\0<=k.2/\k.2 < 65536:=by
 unfold okK;simp only [Bool.and_eq_true,decide_eq_true_eq];constructor
 ·rintro ⟨⟨⟨h1,h2⟩,h3⟩,h4⟩;exact ⟨h1,h2,h3,h4⟩
 ·rintro ⟨h1,h2,h3,h4⟩;exact ⟨⟨⟨h1,h2⟩,h3⟩,h4⟩
theorem okE_iff {e:Et}:okE e=true↔(0<=e.1.1/\e.1.1 < 16/\0<=e.1.2/\e.1.2 < 65536)/\1 < e.2/\e.2 < 2048:=by
 unfold okE;simp only [Bool.and_eq_true,decide_eq_true_eq,okK_iff];constructor
 ·rintro ⟨⟨h1,h2⟩,h3⟩;exact ⟨h1,h2,h3⟩
 ·rintro ⟨h1,h2,h3⟩;exact ⟨⟨h1,h2⟩,h3⟩
theorem Bj {e:Et} (h:okE e=true):okK e.1=true:=okK_iff.2 (okE_iff.1 h).1
theorem Td {a b:Ky} (ha:okK a=true) (hb:okK b=true) (h:plK a=plK b):a=b:=by
 have h1:=okK_iff.1 ha;have h2:=okK_iff.1 hb;unfold plK at h;have e1:a.1=b.1:=by omega
 have e2:a.2=b.2:=by omega
 exact Prod.ext e1 e2
def CZ (a b:Ky):Bool:=decide (a.1 < b.1)||(decide (a.1=b.1) && decide (a.2 < b.2))
theorem GV {a b:Ky} (ha:okK a=true) (hb:okK b=true):CZ a b=decide (plK a < plK b):=by
 have h1:=okK_iff.1 ha;have h2:=okK_iff.1 hb;unfold CZ plK;rw [Bool.eq_iff_iff,Bool.or_eq_true,Bool.and_eq_true,decide_eq_true_eq,decide_eq_true_eq,decide_eq_true_eq,decide_eq_true_eq];omega
def DZ (es:List Et):Bool:=es.any fun e=>!okE e
def EX (es:List Et) (i:Nat):Bool:=decide (plK (es.getD (i - 1) et0).1 < plK (es.getD i et0).1)
def D9 (es:List Et):Bool:=(List.range es.length).any fun i=>decide (0 < i) && !EX es i
def AL (lf:Bool) (es:List Et):Int:=if 16 < es.length then 2 else if DZ es=true then 10 else if D9 es=true then 3 else if lf=false/\es=[] then 3 else 0
theorem badN_false {es:List Et}:DZ es=false↔∀ e∈es,okE e=true:=by
 unfold DZ;rw [List.any_eq_false];constructor
 ·intro h e he;have:=h e he;simpa using this
 ·intro h e he;rw [h e he];decide
theorem TQ {es:List Et} {i:Nat} (h:i < es.length) (h0:0 < i) (hr:EX es i=false):D9 es=true:=by
 unfold D9;rw [List.any_eq_true];exact ⟨i,List.mem_range.2 h,by rw [hr,decide_eq_true h0];rfl⟩
theorem fallN_false {es:List Et}:D9 es=false↔∀ i,0 < i->i < es.length->EX es i=true:=by
 unfold D9;rw [List.any_eq_false];constructor
 ·intro h i h0 hi;have:=h i (List.mem_range.2 hi);simpa [h0] using this
 ·intro h i hi;by_cases h0:0 < i
  ·rw [h i h0 (List.mem_range.1 hi)];simp
  ·simp [h0]
theorem OY {lf:Bool} {es:List Et} (h:16 < es.length):AL lf es=2:=if_pos h
theorem NF {lf:Bool} {es:List Et} (h:es.length<=16) (h1:DZ es=true):AL lf es=10:=by
 unfold AL;rw [if_neg (by omega),if_pos h1]
theorem OZ {lf:Bool} {es:List Et} (h:es.length<=16) (h1:DZ es=false) (h2:D9 es=true):AL lf es=3:=by
 unfold AL;rw [if_neg (by omega),if_neg (by rw [h1];decide),if_pos h2]
theorem OX {lf:Bool} {es:List Et} (h:es.length<=16) (h1:DZ es=false) (h2:D9 es=false) (h3:lf=false/\es=[]):AL lf es=3:=by
 unfold AL;rw [if_neg (by omega),if_neg (by rw [h1];decide),if_neg (by rw [h2];decide),if_pos h3]
theorem IX {lf:Bool} {es:List Et} (h:es.length<=16) (h1:DZ es=false) (h2:D9 es=false) (h3:¬ (lf=false/\es=[])):AL lf es=0:=by
 unfold AL;rw [if_neg (by omega),if_neg (by rw [h1];decide),if_neg (by rw [h2];decide),if_neg h3]
theorem Ba {lf:Bool} {es:List Et} (h:AL lf es=0):es.length<=16/\DZ es=false/\D9 es=false/\¬ (lf=false/\es=[]):=by
 unfold AL at h;split at h
 ·cases h
 ·rename_i h1
  split at h
  ·cases h
  ·rename_i h2
   split at h
   ·cases h
   ·rename_i h3
    split at h
    ·cases h
    ·rename_i h4
     exact ⟨by omega,by simpa using h2,by simpa using h3,h4⟩
theorem Qn {es:List Et} (h:D9 es=false):∀ d i,i+d+1 < es.length->plK (es.getD i et0).1 < plK (es.getD (i+d+1) et0).1
 | 0,i,hi=>by
  have:=fallN_false.1 h (i+1) (by omega) (by omega);unfold EX at this;rw [Nat.add_sub_cancel] at this;exact of_decide_eq_true this
 | d+1,i,hi=>by
  have h1:=Qn h d i (by omega);have:=fallN_false.1 h (i+d+1+1) (by omega) (by omega);unfold EX at this;rw [Nat.add_sub_cancel] at this;have h2:=of_decide_eq_true this;rw [show i+(d+1)+1=i+d+1+1 by omega];omega
theorem LV {es:List Et} (h:D9 es=false) {i j:Nat} (hij:i < j) (hj:j < es.length):plK (es.getD i et0).1 < plK (es.getD j et0).1:=by
 obtain ⟨d,rfl⟩:∃ d,j=i+d+1:=⟨j - i - 1,by omega⟩
 exact Qn h d i hj
def atK (es:List Et) (k:Ky):Nat:=(es.takeWhile fun e=>decide (plK e.1 < plK k)).length
theorem Un (es:List Et) (k:Ky):atK es k<=es.length:=by
 unfold atK;exact (List.takeWhile_prefix _).length_le
theorem ZF {k:Ky}:∀ {es:List Et} {i:Nat},i < atK es k->plK (es.getD i et0).1 < plK k
 | [],i,h=>by simp [atK] at h
 | e::r,i,h=>by
  unfold atK at h;by_cases he:plK e.1 < plK k
  ·rw [List.takeWhile_cons,if_pos (decide_eq_true he),List.length_cons] at h;cases i with
   | zero=>exact he
   | succ i=>exact ZF (es:=r) (by unfold atK;omega)
  ·rw [List.takeWhile_cons,if_neg (by simpa using he)] at h;simp at h
theorem ZG {k:Ky}:∀ {es:List Et},atK es k < es.length->¬ plK (es.getD (atK es k) et0).1 < plK k
 | [],h=>by simp [atK] at h
 | e::r,h=>by
  by_cases he:plK e.1 < plK k
  ·have e1:atK (e::r) k=atK r k+1:=by
    unfold atK;rw [List.takeWhile_cons,if_pos (decide_eq_true he),List.length_cons]
   rw [e1] at h ⊢;exact ZG (es:=r) (by simpa using h)
  ·have e1:atK (e::r) k=0:=by
    unfold atK;rw [List.takeWhile_cons,if_neg (by simpa using he)];rfl
   rw [e1];exact he
theorem fZ {es:List Et} {k:Ky} {p:Nat} (hp:p<=es.length) (h1:∀ i,i < p->plK (es.getD i et0).1 < plK k) (h2:p < es.length->¬ plK (es.getD p et0).1 < plK k):atK es k=p:=by
 rcases Nat.lt_trichotomy (atK es k) p with h | h | h
 ·exact absurd (h1 _ h) (ZG (by omega))
 ·exact h
 ·exact absurd (ZF h) (h2 (by have:=Un es k;omega))
def inK (es:List Et) (k:Ky):Bool:=decide (atK es k < es.length) && decide ((es.getD (atK es k) et0).1=k)
theorem Ij {es:List Et} {k:Ky} (h:inK es k=true):atK es k < es.length/\(es.getD (atK es k) et0).1=k:=by
 unfold inK at h;simpa using h
def Gf (es:List Et) (k:Ky):Nat:=if inK es k=true then atK es k else atK es k - 1
def BN (es:List Et) (e:Et):List Et:=es.take (atK es e.1)++[e]++es.drop (if inK es e.1=true then atK es e.1+1 else atK es e.1)
def Eo (es:List Et) (k:Ky):List Et:=es.take (atK es k)++es.drop (atK es k+1)
theorem Dp (es:List Et) (e:Et):(BN es e).length=if inK es e.1=true then es.length else es.length+1:=by
 have:=Un es e.1;unfold BN;rw [List.length_append,List.length_append,List.length_take,List.length_drop];split
 ·rename_i h
  have:=(Ij h).1;simp;omega
 ·simp;omega
def wiE (lf:Bool) (es:List Et) (e:Et):Int:=if AL lf es≠0 then AL lf es else if okE e=false then 10 else if inK es e.1=false/\16<=es.length then 6 else 0
def woE (lf:Bool) (es:List Et) (k:Ky):Int:=if AL lf es≠0 then AL lf es else if inK es k=false then 7 else 0
def spE (lf:Bool) (es:List Et):Int:=if AL lf es≠0 then AL lf es else if es.length < 2 then 11 else 0
theorem Kw {es:List Et} {n i:Nat} (h:i < n):(es.take n).getD i et0=es.getD i et0:=by
 rw [List.getD_eq_getElem?_getD,List.getD_eq_getElem?_getD,List.getElem?_take,if_pos h]
theorem Kz {es:List Et} {n i:Nat}:(es.drop n).getD i et0=es.getD (n+i) et0:=by
 rw [List.getD_eq_getElem?_getD,List.getD_eq_getElem?_getD,List.getElem?_drop]
theorem Zp {lf:Bool} {es:List Et} {n:Nat} (h:AL lf es=0) (h1:0 < n) (h2:n<=es.length):AL lf (es.take n)=0:=by
 obtain ⟨c1,c2,c3,c4⟩:=Ba h;refine IX (by rw [List.length_take];omega) (badN_false.2 fun e he=>badN_false.1 c2 e (List.mem_of_mem_take he)) (fallN_false.2 fun i h0 hi=>?_) (fun hh=>?_)
 ·rw [List.length_take] at hi;have:=fallN_false.1 c3 i h0 (by omega);unfold EX at this ⊢;rw [Kw (by omega),Kw (by omega)];exact this
 ·have h5:(es.take n).length=0:=by rw [hh.2];rfl
  rw [List.length_take] at h5;omega
theorem Zr {lf:Bool} {es:List Et} {n:Nat} (h:AL lf es=0) (h2:n < es.length):AL lf (es.drop n)=0:=by
 obtain ⟨c1,c2,c3,c4⟩:=Ba h;refine IX (by rw [List.length_drop];omega) (badN_false.2 fun e he=>badN_false.1 c2 e (List.mem_of_mem_drop he)) (fallN_false.2 fun i h0 hi=>?_) (fun hh=>?_)
 ·rw [List.length_drop] at hi;have:=fallN_false.1 c3 (n+i) (by omega) (by omega);unfold EX at this ⊢;rw [Kz,Kz,show n+(i - 1)=n+i - 1 by omega];exact this
 ·have h5:(es.drop n).length=0:=by rw [hh.2];rfl
  rw [List.length_drop] at h5;omega
end Go.Inc
namespace Go.Inc
open Go.RowKit
def Srt (es:List Et):Prop:=es.Pairwise fun a b=>plK a.1 < plK b.1
theorem srt_fall {es:List Et}:D9 es=false↔Srt es:=by
 unfold Srt;rw [List.pairwise_iff_getElem,fallN_false];constructor
 ·intro h i j hi hj hij;have h2:=LV (fallN_false.2 h) hij hj;rw [List.getD_eq_getElem?_getD,List.getD_eq_getElem?_getD,List.getElem?_eq_getElem hi,List.getElem?_eq_getElem hj] at h2;exact h2
 ·intro h i h0 hi;have h2:=h (i - 1) i (by omega) hi (by omega);unfold EX;rw [List.getD_eq_getElem?_getD,List.getD_eq_getElem?_getD,List.getElem?_eq_getElem (by omega),List.getElem?_eq_getElem hi];exact decide_eq_true h2
def FU (es:List Et) (e:Et):List Et:=es.filter (fun x=>decide (plK x.1 < plK e.1))++[e]++es.filter (fun x=>decide (plK e.1 < plK x.1))
def Fp (es:List Et) (k:Ky):List Et:=es.filter (fun x=>decide (plK x.1≠plK k))
theorem Ce {es:List Et} {p:Et->Bool} (h:∀ x∈es,p x=true):es.filter p=es:=List.filter_eq_self.2 h
theorem Ir {es:List Et} {p:Et->Bool} (h:∀ x∈es,p x=false):es.filter p=[]:=List.filter_eq_nil_iff.2 fun x hx=>by rw [h x hx];decide
theorem FQ {x:Et} {r:List Et} {k:Ky} (h:plK x.1 < plK k):atK (x::r) k=atK r k+1:=by
 unfold atK;rw [List.takeWhile_cons,if_pos (decide_eq_true h),List.length_cons]
theorem FP {x:Et} {r:List Et} {k:Ky} (h:¬ plK x.1 < plK k):atK (x::r) k=0:=by
 unfold atK;rw [List.takeWhile_cons,if_neg (by simpa using h)];rfl
theorem Gq {x:Et} {r:List Et} {k:Ky} (h:plK x.1 < plK k):inK (x::r) k=inK r k:=by
 unfold inK;rw [FQ h,List.length_cons];have:(x::r).getD (atK r k+1) et0=r.getD (atK r k) et0:=by simp [List.getD_eq_getElem?_getD]
 rw [this]
 congr 1
 rw [Bool.eq_iff_iff,decide_eq_true_eq,decide_eq_true_eq];omega
theorem EQ {x:Et} {r:List Et} {k:Ky} (h:¬ plK x.1 < plK k):inK (x::r) k=decide (x.1=k):=by
 unfold inK;rw [FP h];simp
theorem JK {e:Et} (he:okK e.1=true):∀ {es:List Et},Srt es->(∀ x∈es,okE x=true)->BN es e=FU es e
 | [],_,_=>rfl
 | x::r,hs,hok=>by
  have hs':=List.pairwise_cons.1 hs;by_cases h:plK x.1 < plK e.1
  ·have ih:=JK he hs'.2 fun y hy=>hok y (List.mem_cons_of_mem _ hy);have e1:BN (x::r) e=x::BN r e:=by
    unfold BN;rw [FQ h,Gq h];split
    ·rw [show atK r e.1+1+1=(atK r e.1+1)+1 from rfl,List.take_succ_cons,List.drop_succ_cons];rfl
    ·rw [List.take_succ_cons,List.drop_succ_cons];rfl
   rw [e1,ih];unfold FU;rw [List.filter_cons,List.filter_cons,if_pos (decide_eq_true h),if_neg (by simp;omega)];rfl
  ·have hgt:∀ y∈r,plK e.1 < plK y.1:=fun y hy=>by have:=hs'.1 y hy;omega
   have f1:(x::r).filter (fun y=>decide (plK y.1 < plK e.1))=[]:=Ir fun y hy=>decide_eq_false (by
    rcases List.mem_cons.1 hy with rfl | hy
    ·exact h
    ·have:=hgt y hy;omega)
   by_cases hk:x.1=e.1
   ·have f2:(x::r).filter (fun y=>decide (plK e.1 < plK y.1))=r:=by
     rw [List.filter_cons,if_neg (by rw [hk];simp),Ce fun y hy=>decide_eq_true (hgt y hy)]
    unfold BN FU;rw [f1,f2,FP h,EQ h,if_pos (decide_eq_true hk)];rfl
   ·have f2:(x::r).filter (fun y=>decide (plK e.1 < plK y.1))=x::r:=Ce fun y hy=>decide_eq_true (by
     rcases List.mem_cons.1 hy with rfl | hy
     ·have h2:plK y.1≠plK e.1:=fun h3=>hk (Td (Bj (hok y (List.mem_cons_self ..))) he h3);omega
     ·exact hgt y hy)
    unfold BN FU;rw [f1,f2,FP h,EQ h,if_neg (by simpa using hk)];rfl
theorem PP {k:Ky} (hk:okK k=true):∀ {es:List Et},Srt es->(∀ x∈es,okE x=true)->(inK es k=true↔∃ x∈es,plK x.1=plK k)
 | [],_,_=>by simp [inK,atK]
 | x::r,hs,hok=>by
  have hs':=List.pairwise_cons.1 hs;by_cases h:plK x.1 < plK k
  ·rw [Gq h,PP hk hs'.2 fun y hy=>hok y (List.mem_cons_of_mem _ hy)];constructor
   ·rintro ⟨y,hy,e⟩;exact ⟨y,List.mem_cons_of_mem _ hy,e⟩
   ·rintro ⟨y,hy,e⟩;rcases List.mem_cons.1 hy with rfl | hy
    ·omega
    ·exact ⟨y,hy,e⟩
  ·rw [EQ h,decide_eq_true_eq];constructor
   ·intro e;exact ⟨x,List.mem_cons_self ..,by rw [e]⟩
   ·rintro ⟨y,hy,e⟩;rcases List.mem_cons.1 hy with rfl | hy
    ·exact Td (Bj (hok _ (List.mem_cons_self ..))) hk e
    ·have:=hs'.1 y hy;omega
theorem Qs {k:Ky} (hk:okK k=true):∀ {es:List Et},Srt es->(∀ x∈es,okE x=true)->inK es k=true->Eo es k=Fp es k
 | [],_,_,h=>by simp [inK,atK] at h
 | x::r,hs,hok,hin=>by
  have hs':=List.pairwise_cons.1 hs;by_cases h:plK x.1 < plK k
  ·rw [Gq h] at hin;have ih:=Qs hk hs'.2 (fun y hy=>hok y (List.mem_cons_of_mem _ hy)) hin;have e1:Eo (x::r) k=x::Eo r k:=by
    unfold Eo;rw [FQ h,List.take_succ_cons,List.drop_succ_cons];rfl
   rw [e1,ih];unfold Fp;rw [List.filter_cons,if_pos (decide_eq_true (by omega))]
  ·rw [EQ h,decide_eq_true_eq] at hin;have hgt:∀ y∈r,plK k < plK y.1:=fun y hy=>by have:=hs'.1 y hy;omega
   unfold Eo Fp;rw [FP h,List.filter_cons,if_neg (by rw [hin];simp),Ce fun y hy=>decide_eq_true (by have:=hgt y hy;omega)];rfl
theorem OH {A B:List Et} {e:Et} (h:∀ b∈B,plK e.1 < plK b.1):FU (A++B) e=FU A e++B:=by
 unfold FU;rw [List.filter_append,List.filter_append,Ir (es:=B) fun b hb=>decide_eq_false (by have:=h b hb;omega),Ce (es:=B) fun b hb=>decide_eq_true (h b hb)];simp
theorem MV {A B:List Et} {e:Et} (h:∀ a∈A,plK a.1 < plK e.1):FU (A++B) e=A++FU B e:=by
 unfold FU;rw [List.filter_append,List.filter_append,Ce (es:=A) fun b hb=>decide_eq_true (h b hb),Ir (es:=A) fun b hb=>decide_eq_false (by have:=h b hb;omega)];simp
theorem VN {A B:List Et} {k:Ky} (h:∀ b∈B,plK k < plK b.1):Fp (A++B) k=Fp A k++B:=by
 unfold Fp;rw [List.filter_append,Ce (es:=B) fun b hb=>decide_eq_true (by have:=h b hb;omega)]
theorem SV {A B:List Et} {k:Ky} (h:∀ a∈A,plK a.1 < plK k):Fp (A++B) k=A++Fp B k:=by
 unfold Fp;rw [List.filter_append,Ce (es:=A) fun b hb=>decide_eq_true (by have:=h b hb;omega)]
theorem QR {es:List Et} {e x:Et} (h:x∈FU es e):x=e\/x∈es:=by
 unfold FU at h;rcases List.mem_append.1 h with h | h
 ·rcases List.mem_append.1 h with h | h
  ·exact .inr (List.mem_filter.1 h).1
  ·exact .inl (List.mem_singleton.1 h)
 ·exact .inr (List.mem_filter.1 h).1
theorem YM {es:List Et} {e:Et} (h:Srt es):Srt (FU es e):=by
 unfold Srt FU at *
 rw [List.pairwise_append,List.pairwise_append];refine ⟨⟨h.filter _,List.pairwise_singleton _ _,?_⟩,h.filter _,?_⟩
 ·intro a ha b hb;rw [List.mem_singleton] at hb;subst hb;exact of_decide_eq_true (List.mem_filter.1 ha).2
 ·intro a ha b hb;have h2:=of_decide_eq_true (List.mem_filter.1 hb).2;rcases List.mem_append.1 ha with ha | ha
  ·have:=of_decide_eq_true (List.mem_filter.1 ha).2;omega
  ·rw [List.mem_singleton] at ha;subst ha;exact h2
theorem Ye {es:List Et} {k:Ky} (h:Srt es):Srt (Fp es k):=by
 unfold Srt Fp at *
 exact h.filter _
theorem bU {es:List Et} {e:Et} (h:∀ x∈es,okE x=true) (he:okE e=true):∀ x∈FU es e,okE x=true:=fun x hx=>by
 rcases QR hx with rfl | hx
 ·exact he
 ·exact h x hx
theorem aQ {es:List Et} {k:Ky} (h:∀ x∈es,okE x=true):∀ x∈Fp es k,okE x=true:=fun x hx=>h x (List.mem_filter.1 hx).1
abbrev Sh:Nat->Type
 | 0=>List Et
 | D+1=>List (Sh D)
def enS:(D:Nat)->Sh D->List Et
 | 0,es=>es
 | D+1,cs=>List.flatMap (enS D) cs
def okS:(D:Nat)->Sh D->Prop
 | 0,es=>es≠[]/\es.length<=16
 | D+1,cs=>(cs:List (Sh D))≠[]/\List.length (cs:List (Sh D))<=16/\∀ c∈(cs:List (Sh D)),okS D c
def enL (D:Nat) (l:List (Sh D)):List Et:=l.flatMap (enS D)
theorem Cb (D:Nat) (c:Sh D) (l:List (Sh D)):enL D (c::l)=enS D c++enL D l:=by unfold enL;rw [List.flatMap_cons]
theorem G7 (D:Nat) (a b:List (Sh D)):enL D (a++b)=enL D a++enL D b:=by unfold enL;rw [List.flatMap_append]
theorem CP (D:Nat) (c:Sh D):enL D [c]=enS D c:=by rw [Cb];unfold enL;simp
theorem MC:∀ (D:Nat) (s:Sh D),okS D s->enS D s≠[]
 | 0,es,h=>h.1
 | D+1,cs,h=>by
  obtain ⟨h1,-,h3⟩:=h;cases hc:(cs:List (Sh D)) with
  | nil=>exact absurd hc h1
  | cons c r=>
   have h4:=MC D c (h3 c (by rw [hc];exact List.mem_cons_self ..));show List.flatMap (enS D) (c::r)≠[];rw [List.flatMap_cons];intro h5;exact h4 (List.append_eq_nil_iff.1 h5).1
def low (D:Nat) (s:Sh D):Int:=plK ((enS D s).getD 0 et0).1
theorem bM {D:Nat} {s:Sh D} (h:enS D s≠[]):∃ x∈enS D s,plK x.1=low D s:=by
 unfold low;cases he:enS D s with
 | nil=>exact absurd he h
 | cons x r=>exact ⟨x,List.mem_cons_self ..,rfl⟩
theorem fF {D:Nat} {s:Sh D} (h:Srt (enS D s)):∀ x∈enS D s,low D s<=plK x.1:=by
 unfold low;cases he:enS D s with
 | nil=>intro x hx;cases hx
 | cons y r=>
  rw [he] at h;intro x hx;rcases List.mem_cons.1 hx with rfl | hx
  ·exact Int.le_refl _
  ·have:=(List.pairwise_cons.1 h).1 x hx;show plK y.1<=_;omega
def chI (D:Nat):List (Sh D)->Int->Nat
 | [],_=>0
 | [_],_=>0
 | _::b::r,k=>if low D b<=k then chI D (b::r) k+1 else 0
theorem IZ {D:Nat} {k:Int}:∀ {cs:List (Sh D)},cs≠[]->(∀ c∈cs,okS D c)->Srt (enL D cs)->
  ∃ X c Y,cs=X++c::Y/\X.length=chI D cs k/\(∀ x∈enL D X,plK x.1 < k)/\(∀ y∈enL D Y,k < plK y.1)/\(X≠[]->low D c<=k)
 | [],h,_,_=>absurd rfl h
 | [c],_,_,_=>⟨[],c,[],rfl,rfl,(fun x hx=>by cases hx),(fun x hx=>by cases hx),fun h=>absurd rfl h⟩
 | a::b::r,_,hok,hs=>by
  have hs':=hs;unfold Srt at hs';rw [Cb,List.pairwise_append] at hs';obtain ⟨s1,s2,s3⟩:=hs';have s2':=s2;rw [Cb,List.pairwise_append] at s2';obtain ⟨t1,t2,t3⟩:=s2';obtain ⟨y,hy,hl⟩:=bM (MC D b (hok b (by simp)));by_cases h:low D b<=k
  ·obtain ⟨X,c,Y,h1,h2,h3,h4,h5⟩:=IZ (k:=k) (cs:=b::r) (by simp) (fun c hc=>hok c (List.mem_cons_of_mem _ hc)) s2;refine ⟨a::X,c,Y,by rw [h1];rfl,by unfold chI;rw [if_pos h,List.length_cons,h2],?_,h4,fun _=>?_⟩
   ·intro x hx;rw [Cb] at hx;rcases List.mem_append.1 hx with hx | hx
    ·have:=s3 x hx y (by rw [Cb];exact List.mem_append_left _ hy);omega
    ·exact h3 x hx
   ·by_cases hX:X=[]
    ·subst hX;simp only [List.nil_append,List.cons.injEq] at h1;rw [<- h1.1];exact h
    ·exact h5 hX
  ·refine ⟨[],a,b::r,rfl,by unfold chI;rw [if_neg h];rfl,(fun x hx=>by cases hx),?_,fun h=>absurd rfl h⟩;intro x hx;rw [Cb] at hx;rcases List.mem_append.1 hx with hx | hx
   ·have:=fF (D:=D) (s:=b) t1 x hx;omega
   ·have:=t3 y hy x hx;omega
def Ea {α:Type} (l:List α):List (List α):=if l.length<=16 then [l] else [l.take 8,l.drop 8]
def BG:(D:Nat)->Sh D->Et->List (Sh D)
 | 0,es,e=>if inK es e.1=true\/List.length es < 16 then [BN es e] else if plK e.1 < plK (List.getD es 8 et0).1 then [BN (List.take 8 es) e,List.drop 8 es] else [List.take 8 es,BN (List.drop 8 es) e]
 | D+1,cs,e=>match List.drop (chI D cs (plK e.1)) cs with
  | []=>[cs]
  | c::Y=>Ea (List.take (chI D cs (plK e.1)) cs++BG D c e++Y)
def AY:(D:Nat)->Sh D->Ky->List (Sh D)
 | 0,es,k=>if Eo es k=[] then [] else [Eo es k]
 | D+1,cs,k=>match List.drop (chI D cs (plK k)) cs with
  | []=>[cs]
  | c::Y=>if List.take (chI D cs (plK k)) cs++AY D c k++Y=[] then [] else [List.take (chI D cs (plK k)) cs++AY D c k++Y]
theorem VT (D:Nat) (cs:List (Sh D)) (e:Et):BG (D+1) cs e=match List.drop (chI D cs (plK e.1)) cs with
  | []=>[cs]
  | c::Y=>Ea (List.take (chI D cs (plK e.1)) cs++BG D c e++Y):=rfl
theorem TT (D:Nat) (cs:List (Sh D)) (k:Ky):AY (D+1) cs k=match List.drop (chI D cs (plK k)) cs with
  | []=>[cs]
  | c::Y=>if List.take (chI D cs (plK k)) cs++AY D c k++Y=[] then [] else [List.take (chI D cs (plK k)) cs++AY D c k++Y]:=rfl
theorem Ep {D:Nat} {X Y:List (Sh D)} {c:Sh D} {e:Et} (h:X.length=chI D (X++c::Y) (plK e.1)):BG (D+1) (X++c::Y) e=Ea (X++BG D c e++Y):=by
 rw [VT,<- h];simp only [List.drop_left,List.take_left]
theorem Ez {D:Nat} {X Y:List (Sh D)} {c:Sh D} {k:Ky} (h:X.length=chI D (X++c::Y) (plK k)):AY (D+1) (X++c::Y) k=if X++AY D c k++Y=[] then [] else [X++AY D c k++Y]:=by
 rw [TT,<- h];simp only [List.drop_left,List.take_left]
theorem di (D:Nat) (l:List (Sh D)):enL (D+1) (Ea l:List (List (Sh D)))=enL D l:=by
 unfold Ea;split
 ·rw [CP];rfl
 ·rw [Cb,CP];show enL D (l.take 8)++enL D (l.drop 8)=_;rw [<- G7,List.take_append_drop]
theorem JP {D:Nat} {X Y:List (Sh D)} {c:Sh D}:enS (D+1) (X++c::Y)=enL D X++(enS D c++enL D Y):=by
 show enL D (X++c::Y)=_;rw [G7,Cb]
theorem JA {A B C:List Et} (h:Srt (A++(B++C))):Srt A/\Srt B/\Srt C:=by
 unfold Srt at *
 rw [List.pairwise_append,List.pairwise_append] at h;exact ⟨h.1,h.2.1.1,h.2.1.2.1⟩
theorem UQ {e:Et} (he:okK e.1=true):∀ (D:Nat) (s:Sh D),okS D s->Srt (enS D s)->(∀ x∈enS D s,okE x=true)->enL D (BG D s e)=FU (enS D s) e
 | 0,es,h,hs,hok=>by
  show enL 0 (BG 0 es e)=FU es e;have hs0:Srt es:=hs;have hok0:∀ x∈(es:List Et),okE x=true:=hok;unfold BG;split
  ·rw [CP];exact JK he hs0 hok0
  ·rename_i hn
   have hl:8 < List.length (es:List Et):=by have:=Nat.le_of_not_lt fun h=>hn (.inr h);omega
   have hsp:List.take 8 es++List.drop 8 es=es:=List.take_append_drop 8 es;have hs1:=hs0;unfold Srt at hs1;rw [<- hsp,List.pairwise_append] at hs1;obtain ⟨p1,p2,p3⟩:=hs1;have hm:List.getD es 8 et0∈List.drop 8 es:=by
    rw [List.getD_eq_getElem?_getD,List.getElem?_eq_getElem hl];exact List.mem_iff_getElem.2 ⟨0,by rw [List.length_drop];omega,by simp⟩
   have hd:∀ b∈List.drop 8 es,plK (List.getD es 8 et0).1<=plK b.1:=fun b hb=>by
    obtain ⟨i,hi,rfl⟩:=List.mem_iff_getElem.1 hb;rw [List.length_drop] at hi;rw [List.getElem_drop];by_cases h0:i=0
    ·subst h0;rw [List.getD_eq_getElem?_getD,List.getElem?_eq_getElem hl];exact Int.le_refl _
    ·have:=LV (srt_fall.2 hs0) (i:=8) (j:=8+i) (by omega) (by omega);rw [List.getD_eq_getElem?_getD (i:=8+i),List.getElem?_eq_getElem (by omega)] at this;exact Int.le_of_lt this
   split
   ·rename_i hlt
    rw [Cb,CP];show BN (List.take 8 es) e++List.drop 8 es=_;rw [JK he p1 fun x hx=>hok0 x (List.mem_of_mem_take hx),<- OH (fun b hb=>by have:=hd b hb;omega),hsp]
   ·rename_i hge
    rw [Cb,CP];show List.take 8 es++BN (List.drop 8 es) e=_;rw [JK he p2 fun x hx=>hok0 x (List.mem_of_mem_drop hx),<- MV (fun a ha=>by have:=p3 a ha _ hm;omega),hsp]
 | D+1,cs,h,hs,hok=>by
  obtain ⟨X,c,Y,rfl,h2,h3,h4,-⟩:=IZ (D:=D) (k:=plK e.1) (cs:=cs) h.1 h.2.2 hs;rw [JP] at hs hok ⊢;obtain ⟨-,q2,-⟩:=JA hs;have ih:=UQ he D c (h.2.2 c (List.mem_append_right _ (List.mem_cons_self ..))) q2 fun x hx=>hok x (List.mem_append_right _ (List.mem_append_left _ hx));rw [Ep h2];show enL (D+1) (Ea _:List (List (Sh D)))=_;rw [di,G7,G7,ih,MV h3,OH h4,List.append_assoc]
theorem Q9 {k:Ky} (hk:okK k=true):∀ (D:Nat) (s:Sh D),okS D s->Srt (enS D s)->(∀ x∈enS D s,okE x=true)->(∃ x∈enS D s,plK x.1=plK k)->enL D (AY D s k)=Fp (enS D s) k
 | 0,es,h,hs,hok,hin=>by
  show enL 0 (AY 0 es k)=Fp es k;have hs0:Srt es:=hs;have hok0:∀ x∈(es:List Et),okE x=true:=hok;have e1:Eo es k=Fp es k:=Qs hk hs0 hok0 ((PP hk hs0 hok0).2 hin);unfold AY;rw [e1];split
  ·rename_i h0;rw [h0];rfl
  ·rw [CP];rfl
 | D+1,cs,h,hs,hok,hin=>by
  obtain ⟨X,c,Y,rfl,h2,h3,h4,-⟩:=IZ (D:=D) (k:=plK k) (cs:=cs) h.1 h.2.2 hs;rw [JP] at hs hok hin ⊢;obtain ⟨-,q2,-⟩:=JA hs;have hin':∃ x∈enS D c,plK x.1=plK k:=by
   obtain ⟨x,hx,e⟩:=hin;rcases List.mem_append.1 hx with hx | hx
   ·have:=h3 x hx;omega
   ·rcases List.mem_append.1 hx with hx | hx
    ·exact ⟨x,hx,e⟩
    ·have:=h4 x hx;omega
  have ih:=Q9 hk D c (h.2.2 c (List.mem_append_right _ (List.mem_cons_self ..))) q2 (fun x hx=>hok x (List.mem_append_right _ (List.mem_append_left _ hx))) hin';rw [Ez h2];have e1:enL D (X++AY D c k++Y)=Fp (enL D X++(enS D c++enL D Y)) k:=by
   rw [G7,G7,ih,SV h3,VN h4,List.append_assoc]
  split
  ·rename_i h0
   rw [<- e1,h0];rfl
  ·rw [CP];exact e1
end Go.Inc
namespace Go.Inc
open Go.RowKit
theorem Zw {D:Nat} {k:Int}:∀ {cs:List (Sh D)},cs≠[]->chI D cs k < cs.length
 | [],h=>absurd rfl h
 | [_],_=>by simp [chI]
 | a::b::r,_=>by
  unfold chI;split
  ·have:=Zw (D:=D) (k:=k) (cs:=b::r) (by simp);simp only [List.length_cons] at this ⊢;omega
  ·simp
theorem Gg {D:Nat} {k:Int} {cs:List (Sh D)} (h:cs≠[]):∃ X c Y,cs=X++c::Y/\X.length=chI D cs k:=by
 have hl:=Zw (D:=D) (k:=k) h;refine ⟨cs.take (chI D cs k),cs[chI D cs k],cs.drop (chI D cs k+1),?_,by rw [List.length_take];omega⟩;rw [<- List.drop_eq_getElem_cons hl,List.take_append_drop]
theorem WV {α:Type} (l:List α):1<=(Ea l).length/\(Ea l).length<=2:=by
 unfold Ea;split<;>simp
theorem Di:∀ (D:Nat) (s:Sh D) (e:Et),okS D s->1<=(BG D s e).length/\(BG D s e).length<=2
 | 0,es,e,_=>by
  unfold BG;split
  ·simp
  ·split<;>simp
 | D+1,cs,e,h=>by
  obtain ⟨X,c,Y,rfl,h2⟩:=Gg (D:=D) (k:=plK e.1) (cs:=cs) h.1;rw [Ep h2];exact WV _
theorem FX (es:List Et) (e:Et):BN es e≠[]:=by
 unfold BN;simp
theorem Zm {D:Nat} {l:List (Sh D)} (h:∀ c∈l,okS D c) (h0:l≠[]) (h17:l.length<=17):∀ c∈Ea l,okS (D+1) c:=by
 intro c hc;unfold Ea at hc;split at hc
 ·rw [List.mem_singleton] at hc;subst hc
  rename_i h16
  exact ⟨h0,h16,h⟩
 ·rename_i h16
  rcases List.mem_cons.1 hc with rfl | hc
  ·refine ⟨fun h1=>?_,by rw [List.length_take];omega,fun c hc=>h c (List.mem_of_mem_take hc)⟩;have:=congrArg List.length h1;rw [List.length_take,List.length_nil] at this;omega
  ·rw [List.mem_singleton] at hc;subst hc;refine ⟨fun h1=>?_,by rw [List.length_drop];omega,fun c hc=>h c (List.mem_of_mem_drop hc)⟩;have:=congrArg List.length h1;rw [List.length_drop,List.length_nil] at this;omega
theorem Lp:∀ (D:Nat) (s:Sh D) (e:Et),okS D s->∀ c∈BG D s e,okS D c
 | 0,es,e,h,c,hc=>by
  have hl:List.length (es:List Et)<=16:=h.2;unfold BG at hc;split at hc
  ·rename_i hn
   rw [List.mem_singleton] at hc;subst hc;refine ⟨FX _ _,?_⟩;have h1:=Dp es e;split at h1
   ·exact h1 ▸ hl
   ·rename_i hk
    rcases hn with hn | hn
    ·exact absurd hn hk
    ·show (BN es e).length<=16;omega
  ·rename_i hn
   have h8:16<=List.length (es:List Et):=Nat.le_of_not_lt fun h=>hn (.inr h);have e1:(List.take 8 es).length=8:=by rw [List.length_take];omega
   have e2:(List.drop 8 es).length=8:=by rw [List.length_drop];omega
   have n1:(List.take 8 es)≠[]:=fun h=>by rw [h] at e1;simp at e1
   have n2:(List.drop 8 es)≠[]:=fun h=>by rw [h] at e2;simp at e2
   have i1:=Dp (List.take 8 es) e;have i2:=Dp (List.drop 8 es) e;split at hc
   ·rcases List.mem_cons.1 hc with rfl | hc
    ·exact ⟨FX _ _,by show (BN _ e).length<=16;split at i1<;>omega⟩
    ·rw [List.mem_singleton] at hc;subst hc;exact ⟨n2,by show (List.drop 8 es).length<=16;omega⟩
   ·rcases List.mem_cons.1 hc with rfl | hc
    ·exact ⟨n1,by show (List.take 8 es).length<=16;omega⟩
    ·rw [List.mem_singleton] at hc;subst hc;exact ⟨FX _ _,by show (BN _ e).length<=16;split at i2<;>omega⟩
 | D+1,cs,e,h,c,hc=>by
  obtain ⟨X,d,Y,rfl,h2⟩:=Gg (D:=D) (k:=plK e.1) (cs:=cs) h.1;rw [Ep h2] at hc;have hd:=h.2.2 d (List.mem_append_right _ (List.mem_cons_self ..));have hlen:=Di D d e hd;have h16:=h.2.1;simp only [List.length_append,List.length_cons] at h16;refine Zm ?_ ?_ ?_ c hc
  ·intro x hx;rcases List.mem_append.1 hx with hx | hx
   ·rcases List.mem_append.1 hx with hx | hx
    ·exact h.2.2 x (List.mem_append_left _ hx)
    ·exact Lp D d e hd x hx
   ·exact h.2.2 x (List.mem_append_right _ (List.mem_cons_of_mem _ hx))
  ·intro h0;have:=congrArg List.length h0;simp only [List.length_append,List.length_nil] at this;omega
  ·simp only [List.length_append];omega
theorem EC:∀ (D:Nat) (s:Sh D) (k:Ky),okS D s->(AY D s k).length<=1
 | 0,es,k,_=>by
  unfold AY;split<;>simp
 | D+1,cs,k,h=>by
  obtain ⟨X,c,Y,rfl,h2⟩:=Gg (D:=D) (k:=plK k) (cs:=cs) h.1;rw [Ez h2];split<;>simp
theorem JQ:∀ (D:Nat) (s:Sh D) (k:Ky),okS D s->∀ c∈AY D s k,okS D c
 | 0,es,k,h,c,hc=>by
  have hl:List.length (es:List Et)<=16:=h.2;unfold AY at hc;split at hc
  ·cases hc
  ·rename_i h0
   rw [List.mem_singleton] at hc;subst hc;refine ⟨h0,?_⟩;show (Eo es k).length<=16;unfold Eo;rw [List.length_append,List.length_take,List.length_drop];omega
 | D+1,cs,k,h,c,hc=>by
  obtain ⟨X,d,Y,rfl,h2⟩:=Gg (D:=D) (k:=plK k) (cs:=cs) h.1;rw [Ez h2] at hc;have hd:=h.2.2 d (List.mem_append_right _ (List.mem_cons_self ..));have hlen:=EC D d k hd;have h16:=h.2.1;simp only [List.length_append,List.length_cons] at h16;split at hc
  ·cases hc
  ·rename_i h0
   rw [List.mem_singleton] at hc;subst hc;refine ⟨h0,?_,?_⟩
   ·show (X++AY D d k++Y).length<=16;simp only [List.length_append];omega
   ·intro x hx;rcases List.mem_append.1 hx with hx | hx
    ·rcases List.mem_append.1 hx with hx | hx
     ·exact h.2.2 x (List.mem_append_left _ hx)
     ·exact JQ D d k hd x hx
    ·exact h.2.2 x (List.mem_append_right _ (List.mem_cons_of_mem _ hx))
def sm {α:Type} (f:α->Nat) (l:List α):Nat:=(l.map f).sum
theorem En {α:Type} (f:α->Nat) (a b:List α):sm f (a++b)=sm f a+sm f b:=by unfold sm;rw [List.map_append,List.sum_append]
theorem AQ {α:Type} (f:α->Nat) (a:α) (b:List α):sm f (a::b)=f a+sm f b:=by unfold sm;rw [List.map_cons,List.sum_cons]
theorem Cc {α:Type} (f:α->Nat):sm f []=0:=rfl
def LX:(D:Nat)->Sh D->Nat
 | 0,es=>List.length es - 8
 | D+1,cs=>sm (LX D) cs+8 ^ (D+1) * (List.length cs - 8)
def wtS:(D:Nat)->Sh D->Nat
 | 0,es=>List.length es - 8+7
 | D+1,cs=>sm (wtS D) cs+(List.length cs - 8)+7
def PW:(D:Nat)->Sh D->Nat
 | 0,_=>1
 | D+1,cs=>sm (PW D) cs+1
theorem D7 (D:Nat) (cs:List (Sh D)):LX (D+1) cs=sm (LX D) cs+8 ^ (D+1) * (cs.length - 8):=rfl
theorem Ed (D:Nat) (cs:List (Sh D)):wtS (D+1) cs=sm (wtS D) cs+(cs.length - 8)+7:=rfl
theorem UH {α:Type} (f:α->Nat) (l:List α):sm f (l.take 8)+sm f (l.drop 8)=sm f l:=by rw [<- En,List.take_append_drop]
theorem aW {D:Nat} (l:List (Sh D)) (h:l.length<=17):sm (LX (D+1)) (Ea l)+((Ea l).length - 1) * 8 ^ (D+2)<=sm (LX D) l+8 ^ (D+1) * (l.length - 8):=by
 unfold Ea;split
 ·rw [AQ,Cc,D7];simp
 ·have h1:l.length=17:=by omega
  rw [AQ,AQ,Cc,D7,D7,List.length_take,List.length_drop,h1];have:=UH (LX D) l;have e:8 ^ (D+2)=8 * 8 ^ (D+1):=by rw [Nat.pow_succ 8 (D+1)];omega
  rw [e,show min 8 17 - 8=0 from rfl,show 17 - 8 - 8=1 from rfl,show 17 - 8=9 from rfl];obtain ⟨q,hq⟩:∃ q,q=8 ^ (D+1):=⟨_,rfl⟩
  rw [<- hq];simp only [List.length_cons,List.length_nil];omega
theorem eF {D:Nat} (l:List (Sh D)) (h:l.length<=17):sm (wtS (D+1)) (Ea l)+((Ea l).length - 1)<=sm (wtS D) l+(l.length - 8)+7:=by
 unfold Ea;split
 ·rw [AQ,Cc,Ed];simp
 ·have h1:l.length=17:=by omega
  rw [AQ,AQ,Cc,Ed,Ed,List.length_take,List.length_drop,h1];have:=UH (wtS D) l;simp only [List.length_cons,List.length_nil];omega
theorem QJ {q a b r:Nat} (h:a<=b+r):q * a<=q * b+q * r:=by
 rw [<- Nat.mul_add];exact Nat.mul_le_mul_left _ h
theorem Qx:∀ (D:Nat) (s:Sh D) (e:Et),okS D s->sm (LX D) (BG D s e)+((BG D s e).length - 1) * 8 ^ (D+1)<=LX D s+1
 | 0,es,e,h=>by
  have hl:List.length (es:List Et)<=16:=h.2;unfold BG;split
  ·have h1:=Dp es e;rw [AQ,Cc];show (BN es e).length - 8+0+0 * 8 ^ 1<=List.length es - 8+1;split at h1<;>omega
  ·rename_i hn
   have h8:16<=List.length (es:List Et):=Nat.le_of_not_lt fun h=>hn (.inr h);have e1:(List.take 8 es).length=8:=by rw [List.length_take];omega
   have e2:(List.drop 8 es).length=8:=by rw [List.length_drop];omega
   have i1:=Dp (List.take 8 es) e;have i2:=Dp (List.drop 8 es) e;split
   ·rw [AQ,AQ,Cc];show (BN (List.take 8 es) e).length - 8+((List.drop 8 es).length - 8+0)+1 * 8 ^ 1<=List.length es - 8+1;split at i1<;>omega
   ·rw [AQ,AQ,Cc];show (List.take 8 es).length - 8+((BN (List.drop 8 es) e).length - 8+0)+1 * 8 ^ 1<=List.length es - 8+1;split at i2<;>omega
 | D+1,cs,e,h=>by
  obtain ⟨X,c,Y,rfl,h2⟩:=Gg (D:=D) (k:=plK e.1) (cs:=cs) h.1;rw [Ep h2];have hc:=h.2.2 c (List.mem_append_right _ (List.mem_cons_self ..));have hlen:=Di D c e hc;have h16:=h.2.1;simp only [List.length_append,List.length_cons] at h16;have ih:=Qx D c e hc;have hcut:=aW (X++BG D c e++Y) (by simp only [List.length_append];omega);rw [D7];rw [En,En] at hcut;rw [En,AQ];simp only [List.length_append,List.length_cons] at hcut ⊢;have hm:=QJ (q:=8 ^ (D+1)) (a:=X.length+(BG D c e).length+Y.length - 8) (b:=X.length+(Y.length+1) - 8) (r:=(BG D c e).length - 1) (by omega);rw [Nat.mul_comm ((BG D c e).length - 1)] at ih;show _+_ * 8 ^ (D+2)<=_;omega
theorem Uu:∀ (D:Nat) (s:Sh D) (e:Et),okS D s->sm (wtS D) (BG D s e)+((BG D s e).length - 1)<=wtS D s+1
 | 0,es,e,h=>by
  have hl:List.length (es:List Et)<=16:=h.2;unfold BG;split
  ·have h1:=Dp es e;rw [AQ,Cc];show (BN es e).length - 8+7+0+0<=List.length es - 8+7+1;split at h1<;>omega
  ·rename_i hn
   have h8:16<=List.length (es:List Et):=Nat.le_of_not_lt fun h=>hn (.inr h);have e1:(List.take 8 es).length=8:=by rw [List.length_take];omega
   have e2:(List.drop 8 es).length=8:=by rw [List.length_drop];omega
   have i1:=Dp (List.take 8 es) e;have i2:=Dp (List.drop 8 es) e;split
   ·rw [AQ,AQ,Cc];show (BN (List.take 8 es) e).length - 8+7+((List.drop 8 es).length - 8+7+0)+1<=List.length es - 8+7+1;split at i1<;>omega
   ·rw [AQ,AQ,Cc];show (List.take 8 es).length - 8+7+((BN (List.drop 8 es) e).length - 8+7+0)+1<=List.length es - 8+7+1;split at i2<;>omega
 | D+1,cs,e,h=>by
  obtain ⟨X,c,Y,rfl,h2⟩:=Gg (D:=D) (k:=plK e.1) (cs:=cs) h.1;rw [Ep h2];have hc:=h.2.2 c (List.mem_append_right _ (List.mem_cons_self ..));have hlen:=Di D c e hc;have h16:=h.2.1;simp only [List.length_append,List.length_cons] at h16;have ih:=Uu D c e hc;have hcut:=eF (X++BG D c e++Y) (by simp only [List.length_append];omega);rw [Ed];rw [En,En] at hcut;rw [En,AQ];simp only [List.length_append,List.length_cons] at hcut ⊢;omega
theorem Ox:∀ (D:Nat) (s:Sh D) (k:Ky),okS D s->sm (LX D) (AY D s k)<=LX D s
 | 0,es,k,h=>by
  unfold AY;split
  ·rw [Cc];exact Nat.zero_le _
  ·rw [AQ,Cc];show (Eo es k).length - 8+0<=List.length es - 8;unfold Eo;rw [List.length_append,List.length_take,List.length_drop];omega
 | D+1,cs,k,h=>by
  obtain ⟨X,c,Y,rfl,h2⟩:=Gg (D:=D) (k:=plK k) (cs:=cs) h.1;rw [Ez h2];have hc:=h.2.2 c (List.mem_append_right _ (List.mem_cons_self ..));have hlen:=EC D c k hc;have ih:=Ox D c k hc;split
  ·rw [Cc];exact Nat.zero_le _
  ·rw [AQ,Cc,D7,D7,En,En,En,AQ];simp only [List.length_append,List.length_cons];have hm:=QJ (q:=8 ^ (D+1)) (a:=X.length+(AY D c k).length+Y.length - 8) (b:=X.length+(Y.length+1) - 8) (r:=0) (by omega);omega
theorem Qa:∀ (D:Nat) (s:Sh D) (k:Ky),okS D s->sm (wtS D) (AY D s k)<=wtS D s
 | 0,es,k,h=>by
  unfold AY;split
  ·rw [Cc];exact Nat.zero_le _
  ·rw [AQ,Cc];show (Eo es k).length - 8+7+0<=List.length es - 8+7;unfold Eo;rw [List.length_append,List.length_take,List.length_drop];omega
 | D+1,cs,k,h=>by
  obtain ⟨X,c,Y,rfl,h2⟩:=Gg (D:=D) (k:=plK k) (cs:=cs) h.1;rw [Ez h2];have hc:=h.2.2 c (List.mem_append_right _ (List.mem_cons_self ..));have hlen:=EC D c k hc;have ih:=Qa D c k hc;split
  ·rw [Cc];exact Nat.zero_le _
  ·rw [AQ,Cc,Ed,Ed,En,En,En,AQ];simp only [List.length_append,List.length_cons];omega
theorem Vl:∀ (D:Nat) (s:Sh D),7 * PW D s<=wtS D s
 | 0,es=>by
  show 7 * 1<=List.length es - 8+7;omega
 | D+1,cs=>by
  have h:∀ l:List (Sh D),7 * sm (PW D) l<=sm (wtS D) l:=fun l=>by
   induction l with
   | nil=>exact Nat.le_refl _
   | cons a r ih=>
    rw [AQ,AQ];have:=Vl D a;omega
  have:=h cs;rw [Ed];show 7 * (sm (PW D) cs+1)<=_;omega
inductive TrG where
 | nil:TrG
 | mk (D:Nat) (s:Sh D):TrG
def TrG.en:TrG->List Et
 | .nil=>[]
 | .mk D s=>enS D s
def TrG.deep:TrG->Nat
 | .nil=>0
 | .mk D _=>D+1
def TrG.cnt:TrG->Nat
 | .nil=>0
 | .mk D s=>PW D s
def TrG.ok:TrG->Prop
 | .nil=>True
 | .mk D s=>okS D s
def TrG.good (t:TrG):Prop:=t.ok/\Srt t.en/\∀ x∈t.en,okE x=true
def Je (D:Nat):List (Sh D)->TrG
 | []=>.nil
 | [a]=>.mk D a
 | a::b::r=>.mk (D+1) (a::b::r)
def TrG.put:TrG->Et->TrG
 | .nil,e=>.mk 0 [e]
 | .mk D s,e=>Je D (BG D s e)
def XF (D:Nat):List (Sh D)->TrG
 | []=>.nil
 | a::_=>.mk D a
def TrG.drop:TrG->Ky->TrG
 | .nil,_=>.nil
 | .mk D s,k=>XF D (AY D s k)
inductive Col:TrG->TrG->Prop where
 | refl (t:TrG):Col t t
 | step {D:Nat} {c:Sh D} {t:TrG}:Col (.mk D c) t->Col (.mk (D+1) [c]) t
theorem Col.en {a b:TrG} (h:Col a b):b.en=a.en:=by
 induction h with
 | refl=>rfl
 | step _ ih=>
  rw [ih];exact (CP _ _).symm
def TrG.top:TrG->Prop
 | .nil=>True
 | .mk 0 _=>True
 | .mk (_+1) cs=>List.length cs≠1
instance topDec:∀ t:TrG,Decidable t.top
 | .nil=>.isTrue trivial
 | .mk 0 _=>.isTrue trivial
 | .mk (_+1) cs=>inferInstanceAs (Decidable (List.length cs≠1))
theorem Col.top_eq {a b:TrG} (h:Col a b) (ht:a.top):b=a:=by
 cases h with
 | refl=>rfl
 | step h=>exact absurd rfl ht
theorem TrG.put_top {t:TrG} {e:Et} (h:t.ok) (ht:t.top):(t.put e).top:=by
 cases t with
 | nil=>trivial
 | mk D s=>
  have hl:=Di D s e h;show (Je D (BG D s e)).top
  match hp:BG D s e,hl with
  | [a,b],_=>exact (by decide:(2:Nat)≠1)
  | [a],_=>
   cases D with
   | zero=>trivial
   | succ D=>
    obtain ⟨X,c,Y,rfl,h2⟩:=Gg (D:=D) (k:=plK e.1) (cs:=s) h.1;rw [Ep h2] at hp;have hc:=Di D c e (h.2.2 c (List.mem_append_right _ (List.mem_cons_self ..)));have ht':(X++c::Y).length≠1:=ht;show List.length a≠1;unfold Ea at hp;split at hp
    ·simp only [List.cons.injEq,and_true] at hp;rw [<- hp];simp only [List.length_append,List.length_cons] at ht' ⊢;omega
    ·simp at hp
def gD:Nat->Nat
 | 0=>0
 | D+1=>gD D+8 ^ (D+1)
def TrG.few (t:TrG) (P:Nat):Prop:=match t with
 | .nil=>True
 | .mk D s=>LX D s+gD D<=P/\wtS D s<=P+7+7 * D
theorem Col.few {a b:TrG} {P:Nat} (h:Col a b):a.few P->b.few P:=by
 induction h with
 | refl=>exact id
 | @step D c t _ ih=>
  intro h;obtain ⟨h1,h2⟩:=h;refine ih ⟨?_,?_⟩
  ·rw [D7,AQ,Cc,show gD (D+1)=gD D+8 ^ (D+1) from rfl] at h1;obtain ⟨q,hq⟩:∃ q,q=8 ^ (D+1):=⟨_,rfl⟩
   obtain ⟨u,hu⟩:∃ u,u=8 ^ (D+1) * ([c].length - 8):=⟨_,rfl⟩
   rw [<- hu,<- hq] at h1;omega
  ·rw [Ed,AQ,Cc] at h2;omega
theorem TrG.put_en {t:TrG} {e:Et} (h:t.good) (he:okK e.1=true):(t.put e).en=FU t.en e:=by
 cases t with
 | nil=>rfl
 | mk D s=>
  obtain ⟨h1,h2,h3⟩:=h;have h4:=UQ he D s h1 h2 h3;have hl:=Di D s e h1;show (Je D (BG D s e)).en=_
  match hp:BG D s e,hl,h4 with
  | [a],_,h4=>rw [CP] at h4;exact h4
  | [a,b],_,h4=>exact h4
theorem TrG.put_good {t:TrG} {e:Et} (h:t.good) (he:okE e=true):(t.put e).good:=by
 refine ⟨?_,by rw [TrG.put_en h (Bj he)];exact YM h.2.1,by rw [TrG.put_en h (Bj he)];exact bU h.2.2 he⟩;cases t with
 | nil=>exact ⟨by simp,by simp⟩
 | mk D s=>
  have hl:=Di D s e h.1;have hk:=Lp D s e h.1;show (Je D (BG D s e)).ok
  match hp:BG D s e,hl,hk with
  | [a],_,hk=>exact hk a (by simp)
  | [a,b],_,hk=>exact ⟨by simp,by simp,hk⟩
theorem TrG.put_few {t:TrG} {e:Et} {P:Nat} (h:t.ok) (hf:t.few P):(t.put e).few (P+1):=by
 cases t with
 | nil=>exact ⟨by show 1 - 8+0<=P+1;omega,by show 1 - 8+7<=P+1+7+7 * 0;omega⟩
 | mk D s=>
  have hl:=Di D s e h;have h1:=Qx D s e h;have h2:=Uu D s e h;obtain ⟨f1,f2⟩:=hf;show (Je D (BG D s e)).few (P+1)
  match hp:BG D s e,hl,h1,h2 with
  | [a],_,h1,h2=>
   rw [AQ,Cc] at h1 h2;exact ⟨by omega,by omega⟩
  | [a,b],_,h1,h2=>
   have hg:gD (D+1)=gD D+8 ^ (D+1):=rfl;simp only [List.length_cons,List.length_nil] at h1 h2;refine ⟨?_,?_⟩
   ·rw [D7];simp only [List.length_cons,List.length_nil];omega
   ·rw [Ed];simp only [List.length_cons,List.length_nil];omega
theorem TrG.drop_en {t:TrG} {k:Ky} (h:t.good) (hk:okK k=true) (hin:∃ x∈t.en,plK x.1=plK k):(t.drop k).en=Fp t.en k:=by
 cases t with
 | nil=>rfl
 | mk D s=>
  obtain ⟨h1,h2,h3⟩:=h;have h4:=Q9 hk D s h1 h2 h3 hin;have hl:=EC D s k h1;show (XF D (AY D s k)).en=_
  match hp:AY D s k,hl,h4 with
  | [],_,h4=>exact h4
  | [a],_,h4=>rw [CP] at h4;exact h4
theorem TrG.drop_good {t:TrG} {k:Ky} (h:t.good) (hk:okK k=true) (hin:∃ x∈t.en,plK x.1=plK k):(t.drop k).good:=by
 refine ⟨?_,by rw [TrG.drop_en h hk hin];exact Ye h.2.1,by rw [TrG.drop_en h hk hin];exact aQ h.2.2⟩;cases t with
 | nil=>trivial
 | mk D s=>
  have ho:=JQ D s k h.1;show (XF D (AY D s k)).ok
  match hp:AY D s k,ho with
  | [],_=>trivial
  | a::r,ho=>exact ho a (by simp)
theorem TrG.drop_few {t:TrG} {k:Ky} {P:Nat} (h:t.ok) (hf:t.few P):(t.drop k).few P:=by
 cases t with
 | nil=>trivial
 | mk D s=>
  have h1:=Ox D s k h;have h2:=Qa D s k h;obtain ⟨f1,f2⟩:=hf;show (XF D (AY D s k)).few P
  match hp:AY D s k,h1,h2 with
  | [],_,_=>trivial
  | a::r,h1,h2=>
   rw [AQ] at h1 h2;exact ⟨by omega,by omega⟩
theorem Np {t:TrG} {P:Nat} (h:t.few P) (D:Nat) (hD:P < gD D):t.deep<=D:=by
 cases t with
 | nil=>exact Nat.zero_le _
 | mk d s=>
  have h1:=h.1;show d+1<=D;have mono:∀ a b,a<=b->gD a<=gD b:=fun a b hab=>by
   induction b with
   | zero=> have:a=0:=by omega
            rw [this];exact Nat.le_refl _
   | succ b ih=>
    by_cases hh:a=b+1
    ·rw [hh];exact Nat.le_refl _
    ·have:=ih (by omega);exact Nat.le_trans this (Nat.le_add_right _ _)
  by_cases hh:d < D
  ·omega
  ·have:=mono D d (by omega);omega
theorem Vf {t:TrG} {P:Nat} (h:t.few P):7 * t.cnt<=P+7+7 * t.deep:=by
 cases t with
 | nil=>show 7 * 0<=_;omega
 | mk d s=>
  have h1:=h.2;have:=Vl d s;show 7 * PW d s<=P+7+7 * (d+1)
  omega
theorem Na:gD 3=584:=rfl
end Go.Inc
namespace Go.Inc
open Go.RowKit
def Es (D:Nat) (s:Sh D):Ky:=((enS D s).getD 0 et0).1
theorem YC (D:Nat) (s:Sh D):low D s=plK (Es D s):=rfl
def Ii (D:Nat) (cs:List (Sh D)) (l:List (Nat×List Nat)):List Et:=List.zipWith (fun c q=>(Es D c,(q.1:Int))) cs l
def IsN (f:Nat->Option (Bool×List Et)):(D:Nat)->Nat->Sh D->List Nat->Prop
 | 0,p,es,ns=>f p=some (true,es)/\ns=[p]
 | D+1,p,cs,ns=>∃ l:List (Nat×List Nat),l.length=List.length cs/\f p=some (false,Ii D cs l)/\ns=p::l.flatMap (·.2)/\∀ (i:Nat) (c:Sh D) (q:Nat×List Nat),cs[i]?=some c->l[i]?=some q->IsN f D q.1 c q.2
theorem IsN.head {f:Nat->Option (Bool×List Et)}:∀ {D:Nat} {p:Nat} {s:Sh D} {ns:List Nat},IsN f D p s ns->p∈ns
 | 0,p,es,ns,h=>by rw [h.2];exact List.mem_cons_self ..
 | D+1,p,cs,ns,h=>by
  obtain ⟨l,-,-,h3,-⟩:=h;rw [h3];exact List.mem_cons_self ..
theorem IsN.len {f:Nat->Option (Bool×List Et)}:∀ {D:Nat} {p:Nat} {s:Sh D} {ns:List Nat},IsN f D p s ns->ns.length=PW D s
 | 0,p,es,ns,h=>by rw [h.2];rfl
 | D+1,p,cs,ns,h=>by
  obtain ⟨l,h1,-,h3,h4⟩:=h;have key:∀ (cs:List (Sh D)) (l:List (Nat×List Nat)),l.length=cs.length->(∀ (i:Nat) (c:Sh D) (q:Nat×List Nat),cs[i]?=some c->l[i]?=some q->q.2.length=PW D c)->(l.flatMap (·.2)).length=sm (PW D) cs:=by
   intro cs
   induction cs with
   | nil=>
    intro l hl _;have:l=[]:=List.eq_nil_of_length_eq_zero hl;rw [this];rfl
   | cons c r ih=>
    intro l hl hq;cases l with
    | nil=>simp at hl
    | cons q t=>
     rw [List.flatMap_cons,List.length_append,AQ,hq 0 c q rfl rfl,ih t (by simpa using hl) fun i c' q' hc' hq'=>hq (i+1) c' q' hc' hq']
  rw [h3,List.length_cons,key cs l h1 fun i c q hc hq=>IsN.len (h4 i c q hc hq)];rfl
def IsT (f:Nat->Option (Bool×List Et)):TrG->Nat->List Nat->Prop
 | .nil,r,ns=>r=0/\ns=[]
 | .mk D s,r,ns=>IsN f D r s ns
theorem IsT.len {f:Nat->Option (Bool×List Et)} {t:TrG} {r:Nat} {ns:List Nat} (h:IsT f t r ns):ns.length=t.cnt:=by
 cases t with
 | nil=>rw [h.2];rfl
 | mk D s=>exact IsN.len h
theorem EO {D:Nat} {cs:List (Sh D)} {l:List (Nat×List Nat)} (h:l.length=cs.length):(Ii D cs l).length=cs.length:=by
 unfold Ii;rw [List.length_zipWith];omega
theorem MR {D:Nat} {cs:List (Sh D)} {l:List (Nat×List Nat)} {i:Nat} {c:Sh D} {q:Nat×List Nat} (hc:cs[i]?=some c) (hq:l[i]?=some q):(Ii D cs l).getD i et0=(Es D c,(q.1:Int)):=by
 unfold Ii;rw [List.getD_eq_getElem?_getD,List.getElem?_zipWith,hc,hq];rfl
def chE:List Et->Int->Nat
 | [],_=>0
 | [_],_=>0
 | _::b::r,k=>if plK b.1<=k then chE (b::r) k+1 else 0
theorem NG {k:Ky} (hk:okK k=true):∀ {es:List Et},Srt es->(∀ x∈es,okK x.1=true)->Gf es k=chE es (plK k)
 | [],_,_=>by simp [Gf,inK,atK,chE]
 | [x],_,hok=>by
  unfold Gf chE;by_cases h:plK x.1 < plK k
  ·rw [Gq h,FQ h];simp [inK,atK]
  ·rw [EQ h,FP h];split<;>rfl
 | x::y::r,hs,hok=>by
  have hs':=List.pairwise_cons.1 hs;have hxy:=hs'.1 y (List.mem_cons_self ..);have ih:=NG hk (es:=y::r) hs'.2 fun z hz=>hok z (List.mem_cons_of_mem _ hz);by_cases h:plK y.1<=plK k
  ·have hx:plK x.1 < plK k:=by omega
   show Gf (x::y::r) k=if plK y.1<=plK k then chE (y::r) (plK k)+1 else 0;rw [if_pos h,<- ih];unfold Gf;rw [Gq hx,FQ hx];by_cases hi:inK (y::r) k=true
   ·rw [if_pos hi,if_pos hi]
   ·rw [if_neg hi,if_neg hi];have:0 < atK (y::r) k:=by
     by_cases hy:plK y.1 < plK k
     ·rw [FQ hy];omega
     ·have he:plK y.1=plK k:=by omega
      exfalso;apply hi;rw [EQ hy];exact decide_eq_true (Td (hok y (List.mem_cons_of_mem _ (List.mem_cons_self ..))) hk he)
    omega
  ·show Gf (x::y::r) k=if plK y.1<=plK k then chE (y::r) (plK k)+1 else 0;rw [if_neg h];unfold Gf;by_cases hx:plK x.1 < plK k
   ·have hy:¬ plK y.1 < plK k:=by omega
    rw [Gq hx,FQ hx,FP hy,EQ hy,if_neg];intro hh;have:=of_decide_eq_true hh;rw [this] at h;omega
   ·rw [EQ hx,FP hx];split<;>rfl
end Go.Inc
namespace Go.Inc
open Go.RowKit
def F2 {α β:Type} (P:α->β->Prop):List α->List β->Prop
 | [],[]=>True
 | a::r,b::s=>P a b/\F2 P r s
 | _,_=>False
theorem F2.len {α β:Type} {P:α->β->Prop}:∀ {a:List α} {b:List β},F2 P a b->a.length=b.length
 | [],[],_=>rfl
 | _::_,_::_,h=>by rw [List.length_cons,List.length_cons,F2.len h.2]
theorem F2.imp {α β:Type} {P Q:α->β->Prop}:∀ {a:List α} {b:List β},F2 P a b->(∀ x y,x∈a->y∈b->P x y->Q x y)->F2 Q a b
 | [],[],_,_=>trivial
 | _::_,_::_,h,hi=>⟨hi _ _ (List.mem_cons_self ..) (List.mem_cons_self ..) h.1,F2.imp h.2 fun x y hx hy=>hi x y (List.mem_cons_of_mem _ hx) (List.mem_cons_of_mem _ hy)⟩
theorem F2.app {α β:Type} {P:α->β->Prop}:∀ {a:List α} {b:List β} {c:List α} {d:List β},F2 P a b->F2 P c d->F2 P (a++c) (b++d)
 | [],[],_,_,_,h=>h
 | _::_,_::_,_,_,h,h'=>⟨h.1,F2.app h.2 h'⟩
theorem F2.split {α β:Type} {P:α->β->Prop}:∀ {a:List α} {c:List α} {l:List β},F2 P (a++c) l->∃ b d,l=b++d/\F2 P a b/\F2 P c d
 | [],c,l,h=>⟨[],l,rfl,trivial,h⟩
 | x::a,c,y::l,h=>by
  obtain ⟨b,d,rfl,h1,h2⟩:=F2.split (a:=a) (c:=c) (l:=l) h.2;exact ⟨y::b,d,rfl,⟨h.1,h1⟩,h2⟩
theorem F2.mid {α β:Type} {P:α->β->Prop} {X Y:List α} {c:α} {l:List β} (h:F2 P (X++c::Y) l):∃ lX q lY,l=lX++q::lY/\F2 P X lX/\P c q/\F2 P Y lY:=by
 obtain ⟨b,d,rfl,h1,h2⟩:=F2.split h;cases d with
 | nil=>exact h2.elim
 | cons q lY=>exact ⟨b,q,lY,rfl,h1,h2.1,h2.2⟩
theorem F2.take {α β:Type} {P:α->β->Prop}:∀ (n:Nat) {a:List α} {b:List β},F2 P a b->F2 P (a.take n) (b.take n)/\F2 P (a.drop n) (b.drop n)
 | 0,a,b,h=>⟨by simp [F2],by simpa using h⟩
 | n+1,[],[],_=>⟨trivial,trivial⟩
 | n+1,_::_,_::_,h=>⟨⟨h.1,(F2.take n h.2).1⟩,(F2.take n h.2).2⟩
theorem O5 {α β:Type} {P:α->β->Prop}:∀ {a:List α} {b:List β},b.length=a.length->(∀ (i:Nat) x y,a[i]?=some x->b[i]?=some y->P x y)->F2 P a b
 | [],[],_,_=>trivial
 | _::_,_::_,hl,h=>⟨h 0 _ _ rfl rfl,O5 (by simpa using hl) fun i x y hx hy=>h (i+1) x y hx hy⟩
 | [],_::_,hl,_=>by simp at hl
 | _::_,[],hl,_=>by simp at hl
theorem F2.get {α β:Type} {P:α->β->Prop}:∀ {a:List α} {b:List β},F2 P a b->∀ (i:Nat) x y,a[i]?=some x->b[i]?=some y->P x y
 | [],[],_,i,x,y,hx,_=>by simp at hx
 | _::_,_::_,h,0,x,y,hx,hy=>by
  simp only [List.getElem?_cons_zero,Option.some.injEq] at hx hy;subst hx;subst hy;exact h.1
 | _::_,_::_,h,i+1,x,y,hx,hy=>F2.get h.2 i x y (by simpa using hx) (by simpa using hy)
def cn (z:Int):List Int->Nat
 | []=>0
 | x::r=>(if x=z then 1 else 0)+cn z r
theorem EE (z:Int):∀ a b:List Int,cn z (a++b)=cn z a+cn z b
 | [],b=>by simp [cn]
 | x::a,b=>by
  show (if x=z then 1 else 0)+cn z (a++b)=(if x=z then 1 else 0)+cn z a+cn z b;rw [EE z a b];omega
theorem Df (z x:Int) (r:List Int):cn z (x::r)=(if x=z then 1 else 0)+cn z r:=rfl
theorem Ud (z:Int):cn z []=0:=rfl
theorem cn_mem {z:Int}:∀ {l:List Int},z∈l↔0 < cn z l
 | []=>by simp [cn]
 | x::r=>by
  rw [List.mem_cons,Df,cn_mem (l:=r)];by_cases h:x=z
  ·simp [h];omega
  ·rw [if_neg h];constructor
   ·rintro (h' | h')
    ·exact absurd h'.symm h
    ·omega
   ·intro h';exact .inr (by omega)
theorem cn_nodup:∀ {l:List Int},(∀ z,cn z l<=1)↔l.Nodup
 | []=>by simp [cn]
 | x::r=>by
  rw [List.nodup_cons,<- cn_nodup (l:=r),cn_mem];constructor
  ·intro h;refine ⟨?_,fun z=>?_⟩
   ·have:=h x;rw [Df,if_pos rfl] at this;omega
   ·have:=h z;rw [Df] at this;omega
  ·rintro ⟨h1,h2⟩ z;rw [Df];by_cases h:x=z
   ·subst h;rw [if_pos rfl];omega
   ·rw [if_neg h];have:=h2 z;omega
def Dz (m:Nat):Nat->List Int
 | 0=>[]
 | n+1=>(-(m:Int) - 1)::Dz (m+1) n
theorem JI:∀ (m a b:Nat),Dz m (a+b)=Dz m a++Dz (m+a) b
 | m,0,b=>by simp [Dz]
 | m,a+1,b=>by
  rw [show a+1+b=(a+b)+1 by omega];show _::Dz (m+1) (a+b)=_::(Dz (m+1) a++_)
  rw [JI (m+1) a b,show m+1+a=m+(a+1) by omega]
theorem negs_mem {z:Int}:∀ {m n:Nat},z∈Dz m n↔z < 0/\-((m+n:Nat):Int)<=z/\z < -(m:Int)
 | m,0=>by
  constructor
  ·intro h;cases h
  ·intro h;omega
 | m,n+1=>by
  show z∈_::_↔_;rw [List.mem_cons,negs_mem (m:=m+1) (n:=n)];constructor
  ·rintro (h | h)<;>omega
  ·intro h;by_cases h':z=-(m:Int) - 1
   ·exact .inl h'
   ·exact .inr (by omega)
theorem Ie {z:Int}:∀ {m n:Nat},cn z (Dz m n)<=1
 | m,0=>by simp [Dz,cn]
 | m,n+1=>by
  show cn z (_::Dz (m+1) n)<=1;rw [Df];by_cases h:-(m:Int) - 1=z
  ·rw [if_pos h];have:¬ z∈Dz (m+1) n:=fun hh=>by have:=negs_mem.1 hh;omega
   rw [cn_mem] at this;omega
  ·rw [if_neg h];have:=Ie (z:=z) (m:=m+1) (n:=n);omega
abbrev Nd:=Bool×List Et
def vw (f:Nat->Option Nd) (fr:List Nd) (z:Int):Option Nd:=if z < 0 then fr[(-z - 1).toNat]? else f z.toNat
theorem Hq {f:Nat->Option Nd} {fr:List Nd} {z:Int} (h:0<=z):vw f fr z=f z.toNat:=if_neg (by omega)
theorem F7 {f:Nat->Option Nd} {fr:List Nd} {z:Int} (h:z < 0):vw f fr z=fr[(-z - 1).toNat]?:=if_pos h
theorem GG {f:Nat->Option Nd} {fr gr:List Nd} {z:Int} {n:Nd} (h:vw f fr z=some n):vw f (fr++gr) z=some n:=by
 by_cases hz:z < 0
 ·rw [F7 hz] at h ⊢;rw [List.getElem?_append_left (List.getElem?_eq_some_iff.1 h).1];exact h
 ·rw [Hq (by omega)] at h ⊢;exact h
theorem Qe {f:Nat->Option Nd} {fr:List Nd} {z:Int} (h:vw f fr z≠none):-(fr.length:Int)<=z:=by
 by_cases hz:z < 0
 ·rw [F7 hz] at h;have:(-z - 1).toNat < fr.length:=by
   rcases Nat.lt_or_ge (-z - 1).toNat fr.length with h' | h'
   ·exact h'
   ·exact absurd (List.getElem?_eq_none h') h
  omega
 ·omega
theorem Z7 {f:Nat->Option Nd} {fr:List Nd} {m:Nat} {z:Int} (h:-(m:Int)<=z):vw f (fr.take m) z=vw f fr z:=by
 by_cases hz:z < 0
 ·rw [F7 hz,F7 hz,List.getElem?_take_of_lt (by omega)]
 ·rw [Hq (by omega),Hq (by omega)]
def AX (D:Nat) (cs:List (Sh D)) (l:List (Int×List Int)):List Et:=List.zipWith (fun c q=>(Es D c,q.1)) cs l
theorem IK {D:Nat} {a c:List (Sh D)} {b d:List (Int×List Int)} (h:a.length=b.length):AX D (a++c) (b++d)=AX D a b++AX D c d:=List.zipWith_append h
theorem DY {D:Nat} {c:Sh D} {cs:List (Sh D)} {q:Int×List Int} {l:List (Int×List Int)}:AX D (c::cs) (q::l)=(Es D c,q.1)::AX D cs l:=rfl
theorem BV {D:Nat} {a:List (Sh D)} {b:List (Int×List Int)} (h:a.length=b.length):(AX D a b).length=a.length:=by
 unfold AX;rw [List.length_zipWith];omega
theorem MS {D:Nat} (n:Nat) {a:List (Sh D)} {b:List (Int×List Int)}:(AX D a b).take n=AX D (a.take n) (b.take n)/\(AX D a b).drop n=AX D (a.drop n) (b.drop n):=by
 unfold AX;exact ⟨List.take_zipWith,List.drop_zipWith⟩
abbrev fl (l:List (Int×List Int)):List Int:=l.flatMap (·.2)
theorem YZ (a b:List (Int×List Int)):fl (a++b)=fl a++fl b:=List.flatMap_append
theorem F5 (q:Int×List Int) (b:List (Int×List Int)):fl (q::b)=q.2++fl b:=List.flatMap_cons
def IsZ (v:Int->Option Nd):(D:Nat)->Int->Sh D->List Int->Prop
 | 0,z,es,zs=>v z=some (true,es)/\zs=[z]
 | D+1,z,cs,zs=>∃ l:List (Int×List Int),F2 (fun c q=>IsZ v D q.1 c q.2) cs l/\v z=some (false,AX D cs l)/\zs=z::fl l/\(z < 0->∀ x∈zs,z<=x)
abbrev FoZ (v:Int->Option Nd) (D:Nat) (cs:List (Sh D)) (l:List (Int×List Int)):Prop:=F2 (fun c q=>IsZ v D q.1 c q.2) cs l
theorem mem_fl {x:Int} {l:List (Int×List Int)}:x∈fl l↔∃ q∈l,x∈q.2:=List.mem_flatMap
theorem IsZ.imp {v v':Int->Option Nd}:∀ {D:Nat} {z:Int} {s:Sh D} {zs:List Int},IsZ v D z s zs->(∀ x∈zs,∀ n,v x=some n->v' x=some n)->IsZ v' D z s zs
 | 0,z,es,zs,⟨h1,h2⟩,h=>⟨h z (by rw [h2];exact List.mem_cons_self ..) _ h1,h2⟩
 | D+1,z,cs,zs,⟨l,h1,h2,h3,h4⟩,h=>⟨l,h1.imp fun c q _ hq hh=>IsZ.imp hh fun x hx=>h x (by rw [h3];exact List.mem_cons_of_mem _ (mem_fl.2 ⟨q,hq,hx⟩)),h z (by rw [h3];exact List.mem_cons_self ..) _ h2,h3,h4⟩
theorem IsZ.head {v:Int->Option Nd}:∀ {D:Nat} {z:Int} {s:Sh D} {zs:List Int},IsZ v D z s zs->z∈zs
 | 0,z,es,zs,⟨_,h2⟩=>by rw [h2];exact List.mem_cons_self ..
 | D+1,z,cs,zs,⟨l,_,_,h3,_⟩=>by rw [h3];exact List.mem_cons_self ..
theorem F2.exL {α β:Type} {P:α->β->Prop}:∀ {a:List α} {b:List β} {y:β},F2 P a b->y∈b->∃ x∈a,P x y
 | [],[],y,_,hy=>by cases hy
 | x::a,z::b,y,h,hy=>by
  rcases List.mem_cons.1 hy with rfl | hy
  ·exact ⟨x,List.mem_cons_self ..,h.1⟩
  ·obtain ⟨x',hx,hp⟩:=F2.exL h.2 hy;exact ⟨x',List.mem_cons_of_mem _ hx,hp⟩
theorem IsZ.there {v:Int->Option Nd}:∀ {D:Nat} {z:Int} {s:Sh D} {zs:List Int},IsZ v D z s zs->∀ x∈zs,v x≠none
 | 0,z,es,zs,⟨h1,h2⟩,x,hx=>by
  rw [h2,List.mem_singleton] at hx;rw [hx,h1];simp
 | D+1,z,cs,zs,⟨l,h1,h2,h3,_⟩,x,hx=>by
  rw [h3] at hx;rcases List.mem_cons.1 hx with rfl | hx
  ·rw [h2];simp
  ·obtain ⟨q,hq,hx⟩:=mem_fl.1 hx;obtain ⟨c,_,hc⟩:=h1.exL hq;exact IsZ.there hc x hx
theorem IsZ.of_N {f:Nat->Option Nd} {fr:List Nd}:∀ {D:Nat} {p:Nat} {s:Sh D} {ns:List Nat},IsN f D p s ns->IsZ (vw f fr) D (p:Int) s (ns.map fun n:Nat=>(n:Int))
 | 0,p,es,ns,⟨h1,h2⟩=>⟨by rw [Hq (by omega)];exact h1,by rw [h2];rfl⟩
 | D+1,p,cs,ns,⟨l,h1,h2,h3,h4⟩=>by
  refine ⟨l.map fun q=>((q.1:Int),q.2.map fun n:Nat=>(n:Int)),?_,?_,?_,fun hh=>by omega⟩
  ·refine O5 (by rw [List.length_map];exact h1) fun i c q hc hq=>?_;rw [List.getElem?_map] at hq;cases hl:l[i]? with
   | none=>rw [hl] at hq;cases hq
   | some q0=>
    rw [hl] at hq;simp only [Option.map_some,Option.some.injEq] at hq;subst hq;exact IsZ.of_N (h4 i c q0 hc hl)
  ·rw [Hq (by omega),show ((p:Int)).toNat=p from by omega,h2];unfold Ii AX;rw [List.zipWith_map_right]
  ·rw [h3];simp [fl,List.flatMap_map,List.map_flatMap]
structure Stp where
 page:Int
 ix:Int
 lf:Bool
 es:List Et
def Dn (v:Int->Option Nd) (k:Int):(D:Nat)->Int->Sh D->List Int->List Stp->Prop
 | 0,p,es,zs,st=>∃ a:Int,v p=some (true,es)/\zs=[p]/\st=[⟨p,a,true,es⟩]
 | D+1,p,cs,zs,st=>∃ (X:List (Sh D)) (c:Sh D) (Y:List (Sh D)) (lX:List (Int×List Int)) (q:Int×List Int) (lY:List (Int×List Int)) (r:List Stp),cs=X++c::Y/\FoZ v D X lX/\FoZ v D Y lY/\v p=some (false,AX D cs (lX++q::lY))/\zs=p::fl (lX++q::lY)/\X.length=chI D cs k/\Dn v k D q.1 c q.2 r/\st=⟨p,(X.length:Int),false,AX D cs (lX++q::lY)⟩::r
theorem Dn.ne {v:Int->Option Nd} {k:Int}:∀ {D:Nat} {p:Int} {s:Sh D} {zs:List Int} {st:List Stp},Dn v k D p s zs st->st≠[]
 | 0,p,es,zs,st,⟨a,_,_,h⟩=>by rw [h];simp
 | D+1,p,cs,zs,st,⟨X,c,Y,lX,q,lY,r,_,_,_,_,_,_,_,h⟩=>by rw [h];simp
theorem Dn.len {v:Int->Option Nd} {k:Int}:∀ {D:Nat} {p:Int} {s:Sh D} {zs:List Int} {st:List Stp},Dn v k D p s zs st->st.length=D+1
 | 0,p,es,zs,st,⟨a,_,_,h⟩=>by rw [h];rfl
 | D+1,p,cs,zs,st,⟨X,c,Y,lX,q,lY,r,_,_,_,_,_,_,h1,h⟩=>by rw [h,List.length_cons,Dn.len h1]
theorem O0 {D:Nat} {k:Int}:∀ {cs:List (Sh D)} {l:List (Int×List Int)},cs.length=l.length->chE (AX D cs l) k=chI D cs k
 | [],l,_=>by unfold AX;rfl
 | [c],l,h=>by
  match l,h with
  | [q],_=>rfl
 | a::b::r,l,h=>by
  match l,h with
  | p::q::t,h=>
   have ih:=O0 (D:=D) (k:=k) (cs:=b::r) (l:=q::t) (by simpa using h);show (if plK (Es D b)<=k then chE (AX D (b::r) (q::t)) k+1 else 0)=if low D b<=k then chI D (b::r) k+1 else 0;rw [ih,YC]
theorem dA {v:Int->Option Nd} {k:Int} {D:Nat} {p:Int} {cs:List (Sh D)} {zs:List Int} (h:IsZ v (D+1) p cs zs) (hok:okS (D+1) cs) :
  ∃ (i:Nat) (c:Sh D) (q:Int×List Int) (es:List Et),v p=some (false,es)/\i=chE es k/\i < es.length/\es.length<=16/\(es.getD i et0).2=q.1/\IsZ v D q.1 c q.2/\okS D c/\(∀ x∈q.2,x∈zs)/\(∃ A B,enS (D+1) cs=A++(enS D c++B))/\∀ r,Dn v k D q.1 c q.2 r->Dn v k (D+1) p cs zs (⟨p,(i:Int),false,es⟩::r):=by
 obtain ⟨l,h1,h2,h3,h4⟩:=h;obtain ⟨X,c,Y,rfl,hX⟩:=Gg (D:=D) (k:=k) (cs:=cs) hok.1;obtain ⟨lX,q,lY,rfl,f1,f2,f3⟩:=F2.mid h1;have hl:X.length=lX.length:=f1.len;have hl2:Y.length=lY.length:=f3.len;have hkl:(AX D (X++c::Y) (lX++q::lY)).length=(X++c::Y).length:=BV (by simp [hl,hl2]);refine ⟨X.length,c,q,_,h2,by rw [O0 (by simp [hl,hl2])];exact hX,?_,?_,?_,f2,hok.2.2 c (by simp),(fun x hx=>by rw [h3];exact List.mem_cons_of_mem _ (mem_fl.2 ⟨q,by simp,hx⟩)),⟨enL D X,enL D Y,JP⟩,fun r hr=>⟨X,c,Y,lX,q,lY,r,rfl,f1,f3,h2,h3,hX,hr,rfl⟩⟩
 ·rw [hkl];simp
 ·rw [hkl];exact hok.2.1
 ·rw [IK hl,List.getD_eq_getElem?_getD,List.getElem?_append_right (by rw [BV hl];exact Nat.le_refl _),BV hl,DY];simp
theorem dB {v:Int->Option Nd} {k:Int} {D:Nat} {p:Int} {sh:Sh D} {zs:List Int} (h:IsZ v D p sh zs) (hok:okS D sh) :
  ∃ lf es,v p=some (lf,es)/\es.length<=16/\(lf=true->∀ a,Dn v k D p sh zs [⟨p,a,true,es⟩])/\(lf=false->∃ (D':Nat) (c:Sh D') (q:Int×List Int),D=D'+1/\chE es k < es.length/\(es.getD (chE es k) et0).2=q.1/\IsZ v D' q.1 c q.2/\okS D' c/\(∀ x∈q.2,x∈zs)/\∀ r,Dn v k D' q.1 c q.2 r->Dn v k D p sh zs (⟨p,(chE es k:Int),false,es⟩::r)):=by
 cases D with
 | zero=>
  obtain ⟨h1,h2⟩:=h;exact ⟨true,sh,h1,hok.2,fun _ a=>⟨a,h1,h2,rfl⟩,fun h=>by cases h⟩
 | succ D=>
  obtain ⟨i,c,q,es,h1,rfl,h3,h4,h5,h6,h7,h8,-,h9⟩:=dA (k:=k) h hok;exact ⟨false,es,h1,h4,(fun h=>by cases h),fun _=>⟨D,c,q,rfl,h3,h5,h6,h7,h8,h9⟩⟩
def CW:Nat->List Nd->List Et
 | _,[]=>[]
 | m,n::r=>((n.2.getD 0 et0).1,-(m:Int) - 1)::CW (m+1) r
theorem Gz:∀ {m:Nat} {l:List Nd},(CW m l).length=l.length
 | _,[]=>rfl
 | m,n::r=>by show (_::CW (m+1) r).length=_;rw [List.length_cons,Gz];rfl
theorem RN:∀ {m:Nat} {a b:List Nd},CW m (a++b)=CW m a++CW (m+a.length) b
 | m,[],b=>by simp [CW]
 | m,n::a,b=>by
  show _::CW (m+1) (a++b)=_::(CW (m+1) a++_)
  rw [RN,List.length_cons,show m+1+a.length=m+(a.length+1) by omega]
def Cf {α:Type} (l:List α):List (List α):=if l.length=0 then [] else if l.length<=16 then [l] else [l.take (l.length / 2),l.drop (l.length / 2)]
structure Jb where
 fr:List Nd
 l:List Et
 g:List Int
def Ig (s:Stp) (l:List Et):List Et:=s.es.take s.ix.toNat++l++s.es.drop (s.ix.toNat+1)
def abv (l:List (List Et)):List Nd:=l.map fun x=>(false,x)
def chg (lv:List Nd):List Stp->Jb
 | []=>⟨lv,CW 0 lv,[]⟩
 | s::r=>if s.lf=true then ⟨(chg lv r).fr,(chg lv r).l,(chg lv r).g++[s.page]⟩ else
   ⟨(chg lv r).fr++abv (Cf (Ig s (chg lv r).l)),CW (chg lv r).fr.length (abv (Cf (Ig s (chg lv r).l))),(chg lv r).g++[s.page]⟩
def Fv:List Stp->List Et
 | []=>[]
 | [s]=>s.es
 | _::s::r=>Fv (s::r)
theorem IU {s:Stp} {r:List Stp} (h:r≠[]):Fv (s::r)=Fv r:=by
 cases r with
 | nil=>exact absurd rfl h
 | cons a b=>rfl
theorem V9 {D:Nat} {c:Sh D} {r:List (Sh D)} (h:okS D c):Es (D+1) (c::r)=Es D c:=by
 unfold Es;show ((List.flatMap (enS D) (c::r)).getD 0 et0).1=_;rw [List.flatMap_cons];cases he:enS D c with
 | nil=>exact absurd he (MC D c h)
 | cons x y=>rfl
theorem Nz {α:Type} (l:List α):(Cf l).length<=2:=by
 unfold Cf;split
 ·simp
 ·split<;>simp
theorem PU {α:Type} {l:List α}:∀ x∈Cf l,x≠[]:=by
 intro x hx;unfold Cf at hx;split at hx
 ·cases hx
 ·split at hx
  ·rw [List.mem_singleton] at hx;subst hx;intro h;subst h;simp at *
  ·rename_i h16
   rcases List.mem_cons.1 hx with rfl | hx
   ·intro h;have:=congrArg List.length h;rw [List.length_take,List.length_nil] at this;omega
   ·rw [List.mem_singleton] at hx;subst hx;intro h;have:=congrArg List.length h;rw [List.length_drop,List.length_nil] at this;omega
theorem Rk {α:Type} {l:List α}:∀ x∈Cf l,∀ y∈x,y∈l:=by
 intro x hx y hy;unfold Cf at hx;split at hx
 ·cases hx
 ·split at hx
  ·rw [List.mem_singleton] at hx;subst hx;exact hy
  ·rcases List.mem_cons.1 hx with rfl | hx
   ·exact List.mem_of_mem_take hy
   ·rw [List.mem_singleton] at hx;subst hx;exact List.mem_of_mem_drop hy
theorem dG (l:List (Int×List Int)):(Cf l).flatMap fl=fl l:=by
 unfold Cf;split
 ·rename_i h
  have:l=[]:=List.eq_nil_of_length_eq_zero h;rw [this];rfl
 ·split
  ·simp
  ·simp only [List.flatMap_cons,List.flatMap_nil,List.append_nil];rw [<- YZ,List.take_append_drop]
theorem OW {D:Nat} {cs:List (Sh D)} {l:List (Int×List Int)} (h:cs.length=l.length):Cf (AX D cs l)=List.zipWith (AX D) (Cf cs) (Cf l):=by
 unfold Cf;rw [BV h,<- h];split
 ·rfl
 ·split
  ·rfl
  ·show _=[_,_]
   rw [(MS _).1,(MS _).2]
theorem dH {D:Nat} {v:Int->Option Nd} {cs:List (Sh D)} {l:List (Int×List Int)} (h:FoZ v D cs l):F2 (fun cs l=>FoZ v D cs l) (Cf cs) (Cf l):=by
 have hl:=h.len;unfold Cf;rw [<- hl];split
 ·trivial
 ·split
  ·exact ⟨h,trivial⟩
  ·exact ⟨(F2.take _ h).1,(F2.take _ h).2,trivial⟩
theorem NQ {f:Nat->Option Nd} {D:Nat}:∀ (ss:List (List (Sh D))) (ls:List (List (Int×List Int))) (fr:List Nd),F2 (fun cs l=>FoZ (vw f fr) D cs l) ss ls->(∀ cs∈ss,cs≠[]/\∀ c∈cs,okS D c)->
  ∃ lq:List (Int×List Int),FoZ (vw f (fr++abv (List.zipWith (AX D) ss ls))) (D+1) ss lq/\CW fr.length (abv (List.zipWith (AX D) ss ls))=AX (D+1) ss lq/\∀ z,cn z (fl lq)=cn z (ls.flatMap fl)+cn z (Dz fr.length ss.length)
 | [],[],fr,_,_=>⟨[],trivial,rfl,fun z=>rfl⟩
 | cs::ss,l::ls,fr,h,hok=>by
  obtain ⟨h1,h2⟩:=h;obtain ⟨lq,i1,i2,i3⟩:=NQ ss ls (fr++[(false,AX D cs l)]) (h2.imp fun cs l _ _ hh=>hh.imp fun c q _ _ hz=>hz.imp fun x _ n hn=>GG hn) fun c hc=>hok c (List.mem_cons_of_mem _ hc);have e1:fr++abv (List.zipWith (AX D) (cs::ss) (l::ls))=fr++[(false,AX D cs l)]++abv (List.zipWith (AX D) ss ls):=by
   rw [List.append_assoc];rfl
  obtain ⟨c1,c2⟩:=hok cs (List.mem_cons_self ..);refine ⟨(-(fr.length:Int) - 1,(-(fr.length:Int) - 1)::fl l)::lq,⟨?_,?_⟩,?_,fun z=>?_⟩
  ·refine ⟨l,?_,?_,rfl,?_⟩
   ·rw [e1];exact h1.imp fun c q _ _ hz=>hz.imp fun x _ n hn=>GG (GG hn)
   ·rw [e1];refine GG ?_;rw [F7 (by omega),show (-(-(fr.length:Int) - 1) - 1).toNat=fr.length by omega];simp
   ·intro _ x hx;rcases List.mem_cons.1 hx with rfl | hx
    ·exact Int.le_refl _
    ·obtain ⟨q,hq,hx⟩:=mem_fl.1 hx;obtain ⟨c,_,hc⟩:=h1.exL hq;have:=Qe (IsZ.there hc x hx);show -(fr.length:Int) - 1<=x;omega
  ·rw [e1];exact i1
  ·show ((AX D cs l).getD 0 et0 |>.1,-(fr.length:Int) - 1)::CW (fr.length+1) _=_;rw [DY,<- i2]
   congr 1
   ·congr 1
    cases cs with
    | nil=>exact absurd rfl c1
    | cons c r=>
     cases l with
     | nil=>exact h1.elim
     | cons q t=>
      rw [V9 (c2 c (List.mem_cons_self ..))];rfl
   ·rw [List.length_append];rfl
  ·have:=i3 z;rw [List.length_append] at this;rw [F5,EE,this,List.flatMap_cons,EE];show cn z (_::fl l)+_=_+cn z (_::Dz (fr.length+1) ss.length);rw [Df,Df];rw [show fr.length+[((false,AX D cs l):Nd)].length=fr.length+1 from rfl];omega
theorem Jt {f:Nat->Option Nd}:∀ (ss:List (List Et)) (fr:List Nd),
  ∃ lq:List (Int×List Int),FoZ (vw f (fr++ss.map fun x=>((true,x):Nd))) 0 ss lq/\CW fr.length (ss.map fun x=>((true,x):Nd))=AX 0 ss lq/\∀ z,cn z (fl lq)=cn z (Dz fr.length ss.length)
 | [],fr=>⟨[],trivial,rfl,fun z=>rfl⟩
 | es::ss,fr=>by
  obtain ⟨lq,i1,i2,i3⟩:=Jt ss (fr++[(true,es)]);have e1:fr++(es::ss).map (fun x=>((true,x):Nd))=fr++[(true,es)]++ss.map (fun x=>((true,x):Nd)):=by
   rw [List.append_assoc];rfl
  refine ⟨(-(fr.length:Int) - 1,[-(fr.length:Int) - 1])::lq,⟨⟨?_,rfl⟩,by rw [e1];exact i1⟩,?_,fun z=>?_⟩
  ·rw [e1];refine GG ?_;rw [F7 (by omega),show (-(-(fr.length:Int) - 1) - 1).toNat=fr.length by omega];simp
  ·show _::CW (fr.length+1) _=_;rw [DY,<- i2]
   congr 1
   rw [List.length_append];rfl
  ·have:=i3 z;rw [List.length_append] at this;rw [F5,EE,this];show cn z [_]+_=cn z (_::Dz (fr.length+1) ss.length);rw [Df,Df,Ud];rw [show fr.length+[((true,es):Nd)].length=fr.length+1 from rfl];omega
structure ZP (k:Int) (ρ:Nat) (R:(D:Nat)->Sh D->List (Sh D)):Prop where
 step:∀ (D:Nat) (X:List (Sh D)) (c:Sh D) (Y:List (Sh D)),okS (D+1) (X++c::Y)->X.length=chI D (X++c::Y) k->R (D+1) (X++c::Y)=Cf (X++R D c++Y)
 ok:∀ (D:Nat) (s:Sh D),okS D s->∀ c∈R D s,okS D c
 few:∀ (D:Nat) (s:Sh D),okS D s->(R D s).length<=ρ
structure JbOk (f:Nat->Option Nd) (D:Nat) (rs:List (Sh D)) (zs:List Int) (j:Jb) (m:Nat):Prop where
 is:∃ lq,FoZ (vw f j.fr) D rs lq/\j.l=AX D rs lq/\∀ z,cn z (fl lq)+cn z j.g=cn z zs+cn z (Dz 0 j.fr.length)
 g0:∀ z∈j.g,0<=z
 few:j.fr.length<=m
theorem NH {f:Nat->Option Nd} {k:Int} {ρ:Nat} {R:(D:Nat)->Sh D->List (Sh D)} (hR:ZP k ρ R) {lv:List Nd}:∀ (D:Nat) (p:Int) (s:Sh D) (zs:List Int) (st:List Stp),Dn (vw f []) k D p s zs st->okS D s->lv=(R 0 (Fv st)).map (fun x=>((true,x):Nd))->JbOk f D (R D s) zs (chg lv st) (ρ * (D+1))
 | 0,p,es,zs,st,h,hok,hlv=>by
  obtain ⟨a,h1,rfl,rfl⟩:=h;have hlv':lv=(R 0 es).map (fun x=>((true,x):Nd)):=hlv;obtain ⟨lq,i1,i2,i3⟩:=Jt (f:=f) (R 0 es) [];rw [<- hlv',List.nil_append] at i1;rw [<- hlv'] at i2;have hp:0<=p:=by
   have h2:vw f [] p≠none:=by rw [h1];simp
   have:=Qe h2;simpa using this
  refine ⟨⟨lq,i1,i2,fun z=>?_⟩,?_,?_⟩
  ·rw [i3 z];show cn z (Dz 0 (R 0 es).length)+cn z ([]++[p])=_+cn z (Dz 0 lv.length);rw [hlv',List.length_map,List.nil_append];omega
  ·intro z hz;have hz':z∈([]++[p]:List Int):=hz;rw [List.nil_append,List.mem_singleton] at hz';rw [hz'];exact hp
  ·show lv.length<=ρ * (0+1)
   rw [hlv',List.length_map];have:=hR.few 0 es hok;omega
 | D+1,p,cs,zs,st,h,hok,hlv=>by
  obtain ⟨X,c,Y,lX,q,lY,r,rfl,h1,h2,h3,rfl,h5,h6,rfl⟩:=h;have hc:okS D c:=hok.2.2 c (by simp);have ih:=NH (f:=f) (lv:=lv) hR D q.1 c q.2 r h6 hc (by rw [IU (Dn.ne h6)] at hlv;exact hlv);obtain ⟨⟨lq,j1,j2,j3⟩,j4,j5⟩:=ih;obtain ⟨jb,hjb⟩:∃ jb,jb=chg lv r:=⟨_,rfl⟩
  rw [<- hjb] at j1 j2 j3 j4 j5;have hlX:X.length=lX.length:=h1.len;have hlY:Y.length=lY.length:=h2.len;have hlq:(R D c).length=lq.length:=j1.len;have e0:Ig ⟨p,(X.length:Int),false,AX D (X++c::Y) (lX++q::lY)⟩ jb.l=AX D (X++R D c++Y) (lX++lq++lY):=by
   unfold Ig;simp only [Int.toNat_natCast];rw [IK hlX,DY,List.take_left' (BV hlX),List.drop_append,List.drop_of_length_le (by rw [BV hlX];omega),BV hlX,show X.length+1 - X.length=1 by omega,j2,IK (by rw [List.length_append,List.length_append,hlX,hlq]),IK hlX];rfl
  have mono:∀ {cs:List (Sh D)} {l:List (Int×List Int)},FoZ (vw f []) D cs l->FoZ (vw f jb.fr) D cs l:=fun h=>h.imp fun _ _ _ _ hz=>hz.imp fun x _ n hn=>by simpa using GG (gr:=jb.fr) hn
  have hall:FoZ (vw f jb.fr) D (X++R D c++Y) (lX++lq++lY):=((mono h1).app j1).app (mono h2);have hall':=dH hall;have hlen:(X++R D c++Y).length=(lX++lq++lY).length:=hall.len;have hr1:=hR.step D X c Y hok h5;obtain ⟨lz,k1,k2,k3⟩:=NQ (f:=f) _ _ jb.fr hall' fun x hx=>⟨PU x hx,fun y hy=>by
   have hy:=Rk x hx y hy;rcases List.mem_append.1 hy with hy | hy
   ·rcases List.mem_append.1 hy with hy | hy
    ·exact hok.2.2 y (by simp [hy])
    ·exact hR.ok D c hc y hy
   ·exact hok.2.2 y (by simp [hy])⟩
  rw [<- OW hlen,<- e0] at k1 k2;have ec:chg lv (⟨p,(X.length:Int),false,AX D (X++c::Y) (lX++q::lY)⟩::r)=⟨jb.fr++abv (Cf (Ig ⟨p,(X.length:Int),false,AX D (X++c::Y) (lX++q::lY)⟩ jb.l)),CW jb.fr.length (abv (Cf (Ig ⟨p,(X.length:Int),false,AX D (X++c::Y) (lX++q::lY)⟩ jb.l))),jb.g++[p]⟩:=by
   rw [hjb];rfl
  have ln:(Cf (Ig ⟨p,(X.length:Int),false,AX D (X++c::Y) (lX++q::lY)⟩ jb.l)).length=(Cf (X++R D c++Y)).length:=by
   rw [e0,OW hlen,List.length_zipWith,hall'.len,Nat.min_self]
  have hp:0<=p:=by
   have h2:vw f [] p≠none:=by rw [h3];simp
   have:=Qe h2;simpa using this
  rw [ec,hr1];refine ⟨⟨lz,k1,k2,fun z=>?_⟩,?_,?_⟩
  ·show cn z (fl lz)+cn z (jb.g++[p])=cn z (p::fl (lX++q::lY))+cn z (Dz 0 (jb.fr++abv _).length);rw [k3 z,dG,List.length_append,JI,EE,EE,show (abv (Cf (Ig ⟨p,(X.length:Int),false,AX D (X++c::Y) (lX++q::lY)⟩ jb.l))).length=(Cf (X++R D c++Y)).length from by unfold abv;rw [List.length_map,ln],Nat.zero_add];have:=j3 z;simp only [YZ,F5,EE,Df,Ud];omega
  ·intro z hz;rcases List.mem_append.1 hz with hz | hz
   ·exact j4 z hz
   ·rw [List.mem_singleton] at hz;rw [hz];exact hp
  ·show (jb.fr++abv _).length<=_;rw [List.length_append];unfold abv;rw [List.length_map,ln,<- hr1];have:=hR.few (D+1) _ hok;rw [Nat.mul_succ];omega
theorem Vk {v:Int->Option Nd} {k:Int}:∀ (D:Nat) (p:Int) (s:Sh D) (zs:List Int) (st:List Stp) (i:Nat),Dn v k D p s zs st->okS D s->i < st.length->∃ D' p' s' zs',Dn v k D' p' s' zs' (st.drop i)/\okS D' s'/\Fv (st.drop i)=Fv st
 | D,p,s,zs,st,0,h,hok,_=>⟨D,p,s,zs,h,hok,rfl⟩
 | 0,p,es,zs,st,i+1,⟨a,_,_,h⟩,hok,hi=>by rw [h] at hi;simp at hi
 | D+1,p,cs,zs,st,i+1,h,hok,hi=>by
  obtain ⟨X,c,Y,lX,q,lY,r,rfl,_,_,_,_,_,h6,rfl⟩:=h;obtain ⟨D',p',s',zs',g1,g2,g3⟩:=Vk D q.1 c q.2 r i h6 (hok.2.2 c (by simp)) (by simpa using hi);exact ⟨D',p',s',zs',g1,g2,by rw [List.drop_succ_cons,g3,IU (Dn.ne h6)]⟩
theorem Zh {v:Int->Option Nd} {k:Int}:∀ {D:Nat} {p:Int} {s:Sh D} {zs:List Int} {x:Stp} {r:List Stp},Dn v k D p s zs (x::r)->okS D s->x.es.length<=16/\x.es≠[]/\v x.page=some (x.lf,x.es)/\(x.lf=true->r=[])/\(x.lf=false->r≠[]/\0<=x.ix/\x.ix.toNat < x.es.length)
 | 0,p,es,zs,x,r,⟨a,h1,_,h⟩,hok=>by
  simp only [List.cons.injEq] at h;obtain ⟨rfl,rfl⟩:=h;exact ⟨hok.2,hok.1,h1,fun _=>rfl,fun h=>by cases h⟩
 | D+1,p,cs,zs,x,r,h,hok=>by
  obtain ⟨X,c,Y,lX,q,lY,r',rfl,h1,h2,h3,_,_,h6,h⟩:=h;simp only [List.cons.injEq] at h;obtain ⟨rfl,rfl⟩:=h;have hkl:(AX D (X++c::Y) (lX++q::lY)).length=(X++c::Y).length:=BV (by simp [h1.len,h2.len]);refine ⟨by show (AX D _ _).length<=16;rw [hkl];exact hok.2.1,fun h0=>?_,h3,(fun h=>by cases h),fun _=>⟨Dn.ne h6,by show (0:Int)<=(X.length:Int);omega,?_⟩⟩
  ·have h0':(AX D (X++c::Y) (lX++q::lY)).length=0:=congrArg List.length h0;rw [hkl] at h0';simp at h0'
  ·show ((X.length:Nat):Int).toNat < (AX D _ _).length;rw [hkl];simp
structure TpI (f:Nat->Option Nd) (ns0:List Int) (D:Nat) (z:Int) (s:Sh D) (zs:List Int) (fr:List Nd) (g:List Int):Prop where
 is:IsZ (vw f fr) D z s zs
 cnt:∀ x,cn x zs+cn x g=cn x ns0+cn x (Dz 0 fr.length)
 g0:∀ x∈g,0<=x
theorem Dc {z:Int} {l:List Int} (h:¬ z∈l):cn z l=0:=by rw [cn_mem] at h;omega
theorem TpI.not {f:Nat->Option Nd} {ns0:List Int} {D:Nat} {z:Int} {s:Sh D} {zs:List Int} {fr:List Nd} {g:List Int} (h:TpI f ns0 D z s zs fr g) (hn:ns0.Nodup):¬ z∈g:=by
 intro hz;have h1:=h.cnt z;have h2:=cn_mem.1 h.is.head;have h3:=cn_mem.1 hz;have h4:=cn_nodup.2 hn z;have h5:=Ie (z:=z) (m:=0) (n:=fr.length);by_cases hh:z < 0
 ·have:=h.g0 z hz;omega
 ·have:cn z (Dz 0 fr.length)=0:=Dc fun hm=>by have:=negs_mem.1 hm;omega
  omega
theorem TpI.last {f:Nat->Option Nd} {ns0:List Int} {D:Nat} {z:Int} {s:Sh D} {zs:List Int} {fr:List Nd} {g:List Int} (h:TpI f ns0 D z s zs fr g) (hz:z < 0):z=-(fr.length:Int)/\0 < fr.length:=by
 have h1:=Qe (IsZ.there h.is z h.is.head);have hl:0 < fr.length:=by omega
 refine ⟨?_,hl⟩;have h2:=h.cnt (-(fr.length:Int));have h3:cn (-(fr.length:Int)) (Dz 0 fr.length)=1:=by
  have:=Ie (z:=-(fr.length:Int)) (m:=0) (n:=fr.length);have:=cn_mem.1 ((negs_mem (z:=-(fr.length:Int)) (m:=0) (n:=fr.length)).2 ⟨by omega,by omega,by omega⟩);omega
 have h4:cn (-(fr.length:Int)) g=0:=Dc fun hm=>by have:=h.g0 _ hm;omega
 have h5:-(fr.length:Int)∈zs:=cn_mem.2 (by omega);have h6:z<=-(fr.length:Int):=by
  match D,s,h.is with
  | 0,s,hi=>
   obtain ⟨_,hi⟩:=hi;rw [hi,List.mem_singleton] at h5;omega
  | D+1,s,hi=>
   obtain ⟨l,_,_,_,hm⟩:=hi;exact hm hz _ h5
 omega
theorem TpI.new {f:Nat->Option Nd} {ns0:List Int} {D:Nat} {z:Int} {c:Sh D} {zs:List Int} {fr:List Nd} {g:List Int} (h:TpI f ns0 (D+1) z [c] zs fr g) (h0:∀ x∈ns0,0<=x) (hz:z < 0) :
  ∃ q:Int×List Int,vw f fr z=some (false,[(Es D c,q.1)])/\TpI f ns0 D q.1 c q.2 (fr.take (fr.length - 1)) g:=by
 obtain ⟨hl,hp⟩:=h.last hz;obtain ⟨l,h1,h2,h3,h4⟩:=h.is;cases l with
 | nil=>exact h1.elim
 | cons q l=>
  obtain ⟨i1,i2⟩:=h1;cases l with
  | cons a b=>exact i2.elim
  | nil=>
   have hn:∀ x,cn x q.2+cn x g=cn x ns0+cn x (Dz 0 (fr.length - 1)):=fun x=>by
    have:=h.cnt x;rw [h3,show fr.length=fr.length - 1+1 by omega,JI,Df,F5,EE,EE] at this;have e:cn x (Dz (0+(fr.length - 1)) 1)=if z=x then 1 else 0:=by
     show (if -((0+(fr.length - 1):Nat):Int) - 1=x then 1 else 0)+0=_;rw [show -((0+(fr.length - 1):Nat):Int) - 1=z by omega,Nat.add_zero]
    rw [e] at this;have e2:cn x (fl [])=0:=rfl;omega
   have hnz:¬ z∈q.2:=fun hm=>by
    have h5:=cn_mem.1 hm;have h6:=hn z;have h7:cn z ns0=0:=Dc fun hm=>by have:=h0 _ hm;omega
    have h8:cn z (Dz 0 (fr.length - 1))=0:=Dc fun hm=>by have:=negs_mem.1 hm;omega
    omega
   refine ⟨q,h2,⟨i1.imp fun x hx n hv=>?_,fun x=>?_,h.g0⟩⟩
   ·have h5:z<=x:=h4 hz x (by rw [h3];exact List.mem_cons_of_mem _ (by rw [F5];exact List.mem_append_left _ hx));have h6:x≠z:=fun e=>hnz (e ▸ hx);rw [Z7 (by omega)];exact hv
   ·rw [List.length_take,Nat.min_eq_left (Nat.sub_le _ _)];exact hn x
theorem TpI.old {f:Nat->Option Nd} {ns0:List Int} {D:Nat} {z:Int} {c:Sh D} {zs:List Int} {fr:List Nd} {g:List Int} (h:TpI f ns0 (D+1) z [c] zs fr g) (hz:0<=z) :
  ∃ q:Int×List Int,vw f fr z=some (false,[(Es D c,q.1)])/\TpI f ns0 D q.1 c q.2 fr (g++[z]):=by
 obtain ⟨l,h1,h2,h3,h4⟩:=h.is;cases l with
 | nil=>exact h1.elim
 | cons q l=>
  obtain ⟨i1,i2⟩:=h1;cases l with
  | cons a b=>exact i2.elim
  | nil=>
   refine ⟨q,h2,⟨i1,fun x=>?_,fun x hx=>?_⟩⟩
   ·have:=h.cnt x;rw [h3,Df,F5,EE] at this;rw [EE,Df,Ud];have e2:cn x (fl [])=0:=rfl;omega
   ·rcases List.mem_append.1 hx with hx | hx
    ·exact h.g0 x hx
    ·rw [List.mem_singleton] at hx;rw [hx];exact hz
theorem TpI.node {f:Nat->Option Nd} {ns0:List Int} {D:Nat} {z:Int} {s:Sh D} {zs:List Int} {fr:List Nd} {g:List Int} (h:TpI f ns0 D z s zs fr g) (hok:okS D s) :
  ∃ lf es,vw f fr z=some (lf,es)/\es≠[]/\es.length<=16/\(lf=false->es.length=1->∃ D',∃ (c:Sh D') ,(⟨D,s⟩:Σ D,Sh D)=⟨D'+1,[c]⟩):=by
 match D,s,h.is,hok with
 | 0,s,hi,hok=>exact ⟨true,s,hi.1,hok.1,hok.2,fun h=>by cases h⟩
 | D+1,cs,hi,hok=>
  obtain ⟨l,h1,h2,_,_⟩:=hi;have hl:=BV (D:=D) h1.len;have h16:=hok.2.1;refine ⟨false,_,h2,fun h0=>?_,by rw [hl];exact h16,fun _ h1=>?_⟩
  ·rw [h0] at hl;exact hok.1 (List.eq_nil_of_length_eq_zero hl.symm)
  ·rw [hl] at h1;obtain ⟨c,hc⟩:=List.length_eq_one_iff.1 h1;exact ⟨D,c,by rw [hc]⟩
def sgm (ps:List Nat) (z:Int):Nat:=if z < 0 then ps.getD (-z - 1).toNat 0 else z.toNat
def stl (ps:List Nat) (e:Et):Et:=(e.1,(sgm ps e.2:Int))
theorem Ph {ps:List Nat} {e:Et} (h:0<=e.2):stl ps e=e:=by
 unfold stl sgm;rw [if_neg (by omega)];have:((e.2.toNat:Nat):Int)=e.2:=by omega
 rw [this]
theorem IsZ.to_N {v:Int->Option Nd} {f:Nat->Option Nd} {ps:List Nat}:∀ {D:Nat} {z:Int} {s:Sh D} {zs:List Int},IsZ v D z s zs->(∀ x∈zs,∀ n,v x=some n->f (sgm ps x)=some (n.1,n.2.map (stl ps)))->(∀ e∈enS D s,0<=e.2)->IsN f D (sgm ps z) s (zs.map (sgm ps))
 | 0,z,es,zs,⟨h1,h2⟩,h,he=>by
  refine ⟨?_,by rw [h2];rfl⟩;have:=h z (by rw [h2];exact List.mem_cons_self ..) _ h1;rw [this]
  congr 2
  have:∀ l:List Et,(∀ e∈l,0<=e.2)->l.map (stl ps)=l:=fun l hl=>by
   induction l with
   | nil=>rfl
   | cons a r ih=>rw [List.map_cons,Ph (hl a (List.mem_cons_self ..)),ih fun e he=>hl e (List.mem_cons_of_mem _ he)]
  exact this es he
 | D+1,z,cs,zs,⟨l,h1,h2,h3,_⟩,h,he=>by
  have hd:=h z (by rw [h3];exact List.mem_cons_self ..) _ h2;refine ⟨l.map fun q=>(sgm ps q.1,q.2.map (sgm ps)),by rw [List.length_map];exact h1.len.symm,?_,?_,fun i c q hc hq=>?_⟩
  ·rw [hd]
   congr 2
   unfold Ii AX;show List.map (stl ps) _=_;rw [List.zipWith_map_right,List.map_zipWith];rfl
  ·rw [h3];simp [fl,List.flatMap_map,List.map_flatMap]
  ·rw [List.getElem?_map] at hq;cases hl:l[i]? with
   | none=>rw [hl] at hq;cases hq
   | some q0=>
    rw [hl] at hq;simp only [Option.map_some,Option.some.injEq] at hq;subst hq;have hc':=F2.get h1 i c q0 hc hl;refine IsZ.to_N hc' (fun x hx=>h x (by rw [h3];exact List.mem_cons_of_mem _ (mem_fl.2 ⟨q0,List.mem_of_getElem? hl,hx⟩))) fun e hh=>he e ?_;show e∈List.flatMap (enS D) cs;exact List.mem_flatMap.2 ⟨c,List.mem_of_getElem? hc,hh⟩
structure Kok (zs:List Int) (n:Nd):Prop where
 ne:n.2≠[]
 le:n.2.length<=16
 srt:Srt n.2
 key:∀ e∈n.2,okK e.1=true
 leaf:n.1=true->∀ e∈n.2,okE e=true
 up:n.1=false->∀ e∈n.2,e.2∈zs
theorem Kok.more {zs zs':List Int} {n:Nd} (h:Kok zs n) (hz:∀ x∈zs,x∈zs'):Kok zs' n:=⟨h.ne,h.le,h.srt,h.key,h.leaf,fun hn e he=>hz _ (h.up hn e he)⟩
theorem OE {D:Nat} {v:Int->Option Nd}:∀ {cs:List (Sh D)} {l:List (Int×List Int)},FoZ v D cs l->(∀ c∈cs,okS D c)->Srt (enL D cs)->(∀ e∈enL D cs,okE e=true)->Srt (AX D cs l)/\(∀ e∈AX D cs l,okK e.1=true/\e.2∈fl l)/\∀ e∈AX D cs l,∃ x∈enL D cs,plK x.1=plK e.1
 | [],[],_,_,_,_=>⟨List.Pairwise.nil,(fun e he=>by cases he),fun e he=>by cases he⟩
 | c::cs,q::l,⟨h1,h2⟩,hok,hs,he=>by
  have hs':=hs;unfold Srt at hs';rw [Cb,List.pairwise_append] at hs';obtain ⟨s1,s2,s3⟩:=hs';rw [Cb] at he;obtain ⟨i1,i2,i3⟩:=OE h2 (fun c hc=>hok c (List.mem_cons_of_mem _ hc)) s2 fun e h=>he e (List.mem_append_right _ h);have hne:=MC D c (hok c (List.mem_cons_self ..));obtain ⟨x,hx,hxl⟩:∃ x∈enS D c,x.1=Es D c:=by
   unfold Es;cases hc:enS D c with
   | nil=>exact absurd hc hne
   | cons x r=>exact ⟨x,List.mem_cons_self ..,rfl⟩
  refine ⟨?_,?_,?_⟩
  ·rw [DY];refine List.pairwise_cons.2 ⟨fun e hh=>?_,i1⟩;obtain ⟨y,hy,hp⟩:=i3 e hh;show plK (Es D c) < plK e.1;rw [<- hxl,<- hp];exact s3 x hx y hy
  ·intro e hh;rw [DY] at hh;rw [F5];rcases List.mem_cons.1 hh with rfl | hh
   ·refine ⟨?_,List.mem_append_left _ h1.head⟩;show okK (Es D c)=true;rw [<- hxl];exact Bj (he x (List.mem_append_left _ hx))
   ·exact ⟨(i2 e hh).1,List.mem_append_right _ (i2 e hh).2⟩
  ·intro e hh;rw [DY] at hh;rw [Cb];rcases List.mem_cons.1 hh with rfl | hh
   ·exact ⟨x,List.mem_append_left _ hx,by rw [hxl]⟩
   ·obtain ⟨y,hy,hp⟩:=i3 e hh;exact ⟨y,List.mem_append_right _ hy,hp⟩
theorem aF {A B:List Et} (h:Srt B) (hs:A.Sublist B):Srt A:=by
 unfold Srt at *
 exact h.sublist hs
theorem dh {D:Nat} {cs:List (Sh D)} {c:Sh D} (h:c∈cs):(enS D c).Sublist (enL D cs):=by
 obtain ⟨A,B,rfl⟩:=List.append_of_mem h;rw [G7,Cb];exact (List.sublist_append_left _ _).trans (List.sublist_append_right _ _)
theorem IsZ.nodes {v:Int->Option Nd}:∀ {D:Nat} {z:Int} {s:Sh D} {zs:List Int},IsZ v D z s zs->okS D s->Srt (enS D s)->(∀ e∈enS D s,okE e=true)->∀ x∈zs,∃ n,v x=some n/\Kok zs n
 | 0,z,es,zs,⟨h1,h2⟩,hok,hs,he,x,hx=>by
  rw [h2,List.mem_singleton] at hx;subst hx;exact ⟨_,h1,hok.1,hok.2,hs,fun e hh=>Bj (he e hh),fun _=>he,fun h=>by cases h⟩
 | D+1,z,cs,zs,⟨l,h1,h2,h3,_⟩,hok,hs,he,x,hx=>by
  rw [h3] at hx;rcases List.mem_cons.1 hx with rfl | hx
  ·obtain ⟨k1,k2,-⟩:=OE h1 hok.2.2 hs he;have hl:=BV (D:=D) h1.len;exact ⟨_,h2,fun h0=>hok.1 (List.eq_nil_of_length_eq_zero (by rw [<- hl];exact congrArg List.length h0)),by show (AX D cs l).length<=16;rw [hl];exact hok.2.1,k1,fun e hh=>(k2 e hh).1,(fun h=>by cases h),fun _ e hh=>by rw [h3];exact List.mem_cons_of_mem _ (k2 e hh).2⟩
  ·obtain ⟨q,hq,hx⟩:=mem_fl.1 hx;obtain ⟨c,hcm,hc⟩:=h1.exL hq;have hsub:(enS D c).Sublist (enS (D+1) cs):=dh hcm;obtain ⟨n,g1,g2⟩:=IsZ.nodes hc (hok.2.2 c hcm) (aF hs hsub) (fun e hh=>he e (hsub.subset hh)) x hx;exact ⟨n,g1,g2.more fun y hy=>by rw [h3];exact List.mem_cons_of_mem _ (mem_fl.2 ⟨q,hq,hy⟩)⟩
theorem Kok.chk {zs:List Int} {n:Nd} {ps:List Nat} (h:Kok zs n) (hp:∀ x∈zs,2<=sgm ps x/\sgm ps x < 2048):AL n.1 (n.2.map (stl ps))=0:=by
 have h1:DZ (n.2.map (stl ps))=false:=badN_false.2 fun e he=>by
  obtain ⟨x,hx,rfl⟩:=List.mem_map.1 he;cases hl:n.1 with
  | true=>
   have:=h.leaf hl x hx;rw [Ph (by have:=(okE_iff.1 this).2.1;omega)];exact this
  | false=>
   have hk:=h.key x hx;have:=hp _ (h.up hl x hx);unfold okE;show (okK x.1 && decide (1 < ((sgm ps x.2:Nat):Int)) && decide (((sgm ps x.2:Nat):Int) < 2048))=true;rw [hk,decide_eq_true (by omega),decide_eq_true (by omega)];rfl
 have h2:D9 (n.2.map (stl ps))=false:=srt_fall.2 (by
  unfold Srt;rw [List.pairwise_map];exact h.srt)
 unfold AL;rw [List.length_map,if_neg (by have:=h.le;omega),h1,h2,if_neg (by decide),if_neg (by decide),if_neg];rintro ⟨_,hh⟩;exact h.ne (List.map_eq_nil_iff.1 hh)
end Go.Inc
