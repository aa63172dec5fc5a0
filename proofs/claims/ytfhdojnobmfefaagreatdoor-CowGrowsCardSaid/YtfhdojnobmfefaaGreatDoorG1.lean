/- MADE SMALL. -/
import Derived.WalkKit
import Derived.Below
import Derived.WalkSpells
import Derived.Laws.CopyOwn
import Derived.Lib.AppendZeros
import Derived.Lib.SliceRun
namespace Go.Inc
open Go.RowKit
theorem hid {p:Prop} (h:p):Hid p:=h
theorem aN {a b:Nat} (h:a=b):Ending.returned (.int .u32 (a:Int))=.returned (.int .u32 (b:Int)):=by rw [h]
theorem aO {k:IntKind} {a b:Int} (h:a=b):Ending.returned (.int k a)=.returned (.int k b):=by rw [h]
theorem Eg {a b:Bool} (h:a=b):Ending.returned (.bool a)=.returned (.bool b):=by rw [h]
theorem Uy {k:IntKind} {a b:Int} (h:a=b):Value.int k a=Value.int k b:=by rw [h]
theorem Ju {P:Program} {ops:Array Oper} {rest:List Oper} {o:Oper} {a:Act} {w:World} {Q:Exit->Act->World->Prop} (hgd:o.guard=none) (t:TypeId) (ho:o.op=.alloc t)
  (cs:Array Value) (hz:((P.info? t).bind (·.zero)).map (·.cells)=some cs)
  (h:wpList P ops Q rest (a.put o.dst (.pointer (some ⟨w.heap.size,0,none⟩))) (w.alloc (.cells cs t))):wpList P ops Q (o::rest) a w:=by
 refine wpList_plain hgd fun K hK=>?_;unfold Oper.wp;obtain ⟨z,hz1,rfl⟩:=Option.map_eq_some_iff.1 hz;obtain ⟨i,hi,hz2⟩:=Option.bind_eq_some_iff.1 hz1;simp [execOp,ho,Instr.alloc,zeroValue,typeInfo,hi,hz2,newVar,newRow,Result.andThen];exact hK _ _ h
theorem Dx {P:Program} {ops:Array Oper} {rest:List Oper} {o:Oper} {a:Act} {w:World} {Q:Exit->Act->World->Prop} (hgd:o.guard=none) (t:TypeId) (ho:o.op=.alloc t)
  (cs:Array Value) (hz:((P.info? t).bind (·.zero)).map (·.cells)=some cs)
  (h:∀ w',w'.heap[w.heap.size]?=some (.cells cs t (0,0))->Below w.heap.size w w'->wpList P ops Q rest (a.put o.dst (.pointer (some ⟨w.heap.size,0,none⟩))) w'):wpList P ops Q (o::rest) a w:=
 Ju hgd t ho cs hz (h _ (heap_alloc_new w _) ((Below.refl _ _).alloc (Nat.le_refl _) _))
theorem Ae {P:Program} {ops:Array Oper} {rest:List Oper} {o:Oper} {a:Act} {w:World} {Q:Exit->Act->World->Prop} (hgd:o.guard=none) (ty:TypeId) (x y:Operand) (ho:o.op=.store ty x y)
  (g:Nat) (cells:Array Value) (hx:a.eval x=.pointer (some ⟨g,0,none⟩)) (hy:a.eval y=.agg cells)
  (t:TypeId) (old:Array Value) (hg:w.heap[g]?=some (.cells old t (0,0))) (hi:(P.info? ty).map (·.size)=some cells.size)
  (hold:old.size=cells.size) (h1:cells.all (·.oneCell')=true)
  (h:∀ w',w'.heap[g]?=some (.cells cells t (0,0))->w.grownBy w' (some g)->wpList P ops Q rest (a.put o.dst undef) w'):wpList P ops Q (o::rest) a w:=
 wpList_store_row hgd ty x y ho g cells hx hy t old hg hi hold h1 (h _ (setRow_heap _ _ _ _ _ _ hg) ⟨rfl,rfl,rfl,by simp,fun k _ hk=>setRow_other _ _ _ _ (by rintro rfl;exact hk rfl)⟩)
def Bytes (bs:List Nat):Prop:=∀ x∈bs,x < 256
theorem Bytes.take {bs:List Nat} (h:Bytes bs) (k:Nat):Bytes (bs.take k):=fun x hx=>h x (List.mem_of_mem_take hx)
theorem Bytes.drop {bs:List Nat} (h:Bytes bs) (k:Nat):Bytes (bs.drop k):=fun x hx=>h x (List.mem_of_mem_drop hx)
theorem Bytes.append {a b:List Nat} (ha:Bytes a) (hb:Bytes b):Bytes (a++b):=fun x hx=>(List.mem_append.1 hx).elim (ha x) (hb x)
theorem Bytes.getD {bs:List Nat} (hb:Bytes bs) (k:Nat):bs.getD k 0 < 256:=by
 rw [List.getD_eq_getElem?_getD];cases h:bs[k]? with
 | none=>simp
 | some x=>simpa using hb x (List.mem_of_getElem? h)
theorem Ol {bs:List Nat} {k:Nat} (h:k < bs.length):bs.take (k+1)=bs.take k++[bs.getD k 0]:=by
 rw [List.take_succ_eq_append_getElem h,List.getD_eq_getElem?_getD,List.getElem?_eq_getElem h];rfl
theorem AA {w:World} {p:Addr} {v:Value} (h:w.cell? p=some v):p.block < w.heap.size:=block_lt_of_cell h
def Sl (ok:Nat->Prop) (w:World) (a:Option Addr) (bs:List Nat):Prop:=
 bs=[]\/∃ b off,a=some ⟨b,off,none⟩/\ok b/\∀ i,i < bs.length->w.cell? ⟨b,off+i,none⟩=some (.int .u8 ((bs.getD i 0:Nat):Int))
section
variable {ok ok':Nat->Prop} {w w':World} {a:Option Addr} {bs:List Nat}
theorem Sl.nil (ok:Nat->Prop) (w:World) (a:Option Addr):Sl ok w a []:=.inl rfl
theorem Sl.mono (h:Sl ok w a bs) (hk:∀ b,ok b->b < w.heap.size->ok' b):Sl ok' w a bs:=by
 rcases h with h | ⟨b,off,ha,hb,hc⟩
 ·exact .inl h
 ·by_cases h0:bs=[]
  ·exact .inl h0
  ·exact .inr ⟨b,off,ha,hk b hb (AA (hc 0 (by cases bs<;>simp_all))),hc⟩
theorem Sl.kept (h:Sl ok w a bs) (hb:∀ b,ok b->b < w.heap.size->w'.heap[b]?=w.heap[b]?):Sl ok w' a bs:=by
 rcases h with h | ⟨b,off,rfl,hk,hc⟩
 ·exact .inl h
 ·by_cases h0:bs=[]
  ·exact .inl h0
  ·refine .inr ⟨b,off,rfl,hk,fun i hi=>?_⟩;have h0:=hc 0 (by cases bs<;>simp_all);rw [<- hc i hi];exact World.cell?_of_block (hb b hk (AA h0))
theorem Sl.below (h:Sl ok w a bs) (hb:Below w.heap.size w w'):Sl ok w' a bs:=h.kept fun b _ hlt=>hb.block b hlt
theorem Sl.grown {r:Nat} (h:Sl ok w a bs) (hg:w.grownBy w' (some r)) (hr:∀ b,ok b->b≠r):Sl ok w' a bs:=
 h.kept fun b hk hlt=>hg.block b hlt (by intro e;cases e;exact hr _ hk rfl)
theorem Sl.front (h:Sl ok w a bs) (k:Nat):Sl ok w a (bs.take k):=by
 rcases h with rfl | ⟨b,off,rfl,hk,hc⟩
 ·left;simp
 ·refine .inr ⟨b,off,rfl,hk,fun i hi=>?_⟩;simp only [List.length_take] at hi;rw [hc i (by omega),List.getD_eq_getElem?_getD,List.getD_eq_getElem?_getD,List.getElem?_take,if_pos (by omega)]
end
structure Parts (ok:Nat->Prop) (w:World) (b o:Nat) (ps:List (List Nat)) (A:Nat->Option Addr) (C:Nat->Nat):Prop where
 cell:∀ i,i < ps.length->w.cell? ⟨b,o+i,none⟩=some (.slice (A i) (ps.getD i []).length (C i))
 sl:∀ i,i < ps.length->Sl ok w (A i) (ps.getD i [])
 cap:∀ i,i < ps.length->(ps.getD i []).length<=C i/\C i<=maxLen
def Pt (ok:Nat->Prop) (w:World) (a:Option Addr) (ps:List (List Nat)):Prop:=
 (∀ p∈ps,Bytes p)/\(ps=[]\/∃ b o A C,a=some ⟨b,o,none⟩/\ok b/\Parts ok w b o ps A C)
section
variable {ok ok':Nat->Prop} {w w':World} {a:Option Addr} {ps:List (List Nat)}
theorem Pt.mono (h:Pt ok w a ps) (hk:∀ b,ok b->b < w.heap.size->ok' b):Pt ok' w a ps:=by
 refine ⟨h.1,?_⟩;rcases h.2 with h | ⟨b,o,A,C,ha,hb,hp⟩
 ·exact .inl h
 ·by_cases h0:ps=[]
  ·exact .inl h0
  ·exact .inr ⟨b,o,A,C,ha,hk b hb (AA (hp.cell 0 (by cases ps<;>simp_all))),hp.cell,(fun i hi=>(hp.sl i hi).mono hk),hp.cap⟩
theorem Pt.kept (h:Pt ok w a ps) (hb:∀ b,ok b->b < w.heap.size->w'.heap[b]?=w.heap[b]?):Pt ok w' a ps:=by
 refine ⟨h.1,?_⟩;rcases h.2 with h | ⟨b,o,A,C,ha,hk,hp⟩
 ·exact .inl h
 ·exact .inr ⟨b,o,A,C,ha,hk,(fun i hi=>by
   rw [<- hp.cell i hi];exact World.cell?_of_block (hb b hk (AA (hp.cell i hi)))),(fun i hi=>(hp.sl i hi).kept hb),hp.cap⟩
theorem Pt.below (h:Pt ok w a ps) (hb:Below w.heap.size w w'):Pt ok w' a ps:=h.kept fun b _ hlt=>hb.block b hlt
end
theorem Aw (w:World) (r:Option Nat):w.grownBy w r:=⟨rfl,rfl,rfl,Nat.le_refl _,fun _ _ _=>rfl⟩
theorem FY {a b c:World} {r:Option Nat} (h:a.grownBy b r) (k:b.grownBy c r):a.grownBy c r:=
 ⟨k.os.trans h.os,k.tape.trans h.tape,k.output.trans h.output,Nat.le_trans h.size k.size,
  fun i hi hr=>(k.block i (Nat.lt_of_lt_of_le hi h.size) hr).trans (h.block i hi hr)⟩
theorem FZ {a b c:World} {r:Option Nat} (h:a.grownBy b r) (k:Below b.heap.size b c):a.grownBy c r:=
 FY h ⟨k.os,k.tape,k.output,k.size,fun i hi _=>k.block i hi⟩
theorem Aq {a b:World} {r:Option Nat} (h:a.grownBy b r) {p:Addr} (hp:r=some p.block\/a.heap.size<=p.block) (v:Value):a.grownBy (b.setCell p v) r:=
 ⟨h.os,h.tape,h.output,by simpa [World.setCell] using h.size,fun i hi hr=>by
  rw [Below.heap_setCell _ _ _ _ (by rintro rfl;rcases hp with hp | hp;· exact hr hp.symm
                                     ·omega)]
  exact h.block i hi hr⟩
theorem Dq {a b:World} {g B:Nat} (h:a.grownBy b (some g)) (hB:B<=g) (hB':B<=a.heap.size):Below B a b:=
 ⟨h.os,h.tape,h.output,h.size,fun k hk=>h.block k (by omega) (by intro e;cases e;omega)⟩
theorem Bi {a b c:World} {B g:Nat} (h:Below B a b) (k:b.grownBy c (some g)) (hg:B<=g) (hB:B<=b.heap.size):Below B a c:=
 h.trans (Dq k hg hB)
theorem OL {a b c:World} {r:Option Nat} {g:Nat} (h:a.grownBy b r) (k:b.grownBy c (some g)) (hg:a.heap.size<=g):a.grownBy c r:=
 ⟨k.os.trans h.os,k.tape.trans h.tape,k.output.trans h.output,Nat.le_trans h.size k.size,
  fun i hi hr=>(k.block i (Nat.lt_of_lt_of_le hi h.size) (by intro e;cases e;omega)).trans (h.block i hi hr)⟩
theorem IE {w w':World} {g:Nat} {r:Option Nat} {o:Obj} (h:w.heap[g]?=some o) (hb:w.grownBy w' r) (hne:r≠some g):w'.heap[g]?=some o:=by
 rw [hb.block g (Array.getElem?_eq_some_iff.1 h).1 (fun e=>hne e.symm)];exact h
theorem Ac {w w':World} {g:Nat} {o:Obj} (h:w.heap[g]?=some o) (hb:Below w.heap.size w w'):w'.heap[g]?=some o:=by
 rw [hb.block g (Array.getElem?_eq_some_iff.1 h).1];exact h
theorem Aj {w:World} {g:Nat} {o:Obj} (h:w.heap[g]?=some o):g < w.heap.size:=(Array.getElem?_eq_some_iff.1 h).1
theorem Sl.row {w:World} {g:Nat} (bs:List Nat) {T:TypeId} {fz:Nat×Nat} (hg:w.heap[g]?=some (.cells (bs.map fun x:Nat=>Value.int .u8 (x:Int)).toArray T fz)) :
  Sl (fun b=>b=g) w (some ⟨g,0,none⟩) bs:=
 .inr ⟨_,_,rfl,rfl,fun i hi=>by
  rw [cell_of_row _ g _ _ _ _ hg];simp [hi]⟩
theorem Pt.one {w:World} {ok:Nat->Prop} {a:Option Addr} {bs:List Nat} (h:Sl ok w a bs) (hb:Bytes bs) (c:Nat) (hc:bs.length<=c/\c<=maxLen) (T:TypeId) :
  Pt (fun b=>ok b\/b=w.heap.size) (w.alloc (.cells #[.slice a bs.length c] T)) (some ⟨w.heap.size,0,none⟩) [bs]:=
 ⟨by simpa using hb,.inr ⟨_,_,fun _=>a,fun _=>c,rfl,.inr rfl,fun i hi=>by
  have h0:i=0:=by simp at hi;omega
  subst h0;rw [cell_of_row _ w.heap.size _ _ _ _ (heap_alloc_new w _)];rfl,fun i hi=>by
  have h0:i=0:=by simp at hi;omega
  subst h0;exact (h.mono fun _ hk _=>.inl hk).below ((Below.refl _ _).alloc (Nat.le_refl _) _),fun i hi=>by
  have h0:i=0:=by simp at hi;omega
  subst h0;exact hc⟩⟩
theorem FH {P:Program} {w:World} {base:Nat} {e:TypeId} {size:Nat} (t ty:TypeId) (i:TypeInfo) (ht:P.underlying t=some (.slice e)) (hi:P.info? e=some i)
  (v:Value) (n c:Nat) (xs:List Value) (hown:w.ownsRow base e size v n xs) :
  (Builtin.append_ #[t,t] ty #[v,.slice none 0 c]).run P w=.ok v w:=by
 have same:Builtin.append_ #[t,t] ty #[v,.slice none 0 c]=Builtin.append_ #[t,t] ty #[v,.slice none 0 0]:=rfl;rw [same];exact run_append_owned_none _ base t ty e i size ht hi v n xs hown
theorem Bq {P:Program} {w:World} {ops:Array Oper} {rest:List Oper} {o:Oper} {a:Act} {Q:Exit->Act->World->Prop} (hgd:o.guard=none) (s x:Operand) (t:TypeId)
  (ho:o.op=.call {callee:=.builtin .append,args:=#[s,x],argTypes:=#[t,t]})
  (base:Nat) (e:TypeId) (z:Value) (bytes:Nat) (ht:P.underlying t=some (.slice e)) (hi:(P.info? e).map (fun i=>(i.zero,i.size,i.bytes))=some (some z,1,bytes)) (hzs:z.cells.size=1)
  (v:Value) (n:Nat) (xs:List Value) (hs:a.eval s=v) (hown:w.ownsRow base e 1 v n xs)
  (ao:Option Addr) (m c:Nat) (news:List Value) (hx:a.eval x=.slice ao m c) (hl:news.length=m) (hnone:ao=none->m=0) (hnews:∀ ad,ao=some ad->∀ j u,news[j]?=some u->w.cell? (ad.add j)=some u) (h1:∀ u∈news,u.oneCell'=true)
  (h63:n+m<=maxLen) (hbytes:(n+m) * bytes<=140737488355328) (hbase:base<=w.heap.size)
  (h:∀ v' w',w'.ownsRow base e 1 v' (n+m) (xs++news)->w.grownBy w' v.ownBlock->(v'=.slice none 0 0↔v=.slice none 0 0/\m=0)->wpList P ops Q rest (a.put o.dst v') w'):wpList P ops Q (o::rest) a w:=by
 obtain ⟨i,hi,hz0,hz1,hz2⟩:=info_parts hi;cases ao with
 | some ad=>exact wpList_append_own w hgd s x t ho base e i z 1 bytes ht hi hz0 hz1 hz2 hzs (by decide) v n xs hs hown ad m c news hx (by omega) (hnews ad rfl) h1 h63 hbytes hbase h
 | none=>
  obtain rfl:=hnone rfl;obtain rfl:news=[]:=List.eq_nil_of_length_eq_zero hl;refine wpList_plain hgd fun K hK=>?_;have hrun:=FH (P:=P) t o.type i ht hi v n c xs hown;unfold Oper.wp;simp [execOp,ho,resolve,invoke,builtin,hs,hx,hrun,Result.andThen];exact hK _ _ (h v w (by simpa using hown) (Aw _ _) (by simp))
def u8s (bs:List Nat):List Value:=bs.map fun x:Nat=>Value.int .u8 (x:Int)
theorem DU (bs:List Nat):(u8s bs).length=bs.length:=by simp [u8s]
theorem IA (bs:List Nat):∀ u∈u8s bs,u.oneCell'=true:=by
 intro u hu;obtain ⟨_,_,rfl⟩:=List.mem_map.1 hu;rfl
theorem Sr (a b:List Nat):u8s (a++b)=u8s a++u8s b:=by simp [u8s]
theorem Sl.cells {ok:Nat->Prop} {w:World} {a:Option Addr} {bs:List Nat} (h:Sl ok w a bs):∀ ad,a=some ad->∀ j u,(u8s bs)[j]?=some u->w.cell? (ad.add j)=some u:=by
 intro ad had j u hu;rcases h with rfl | ⟨b,off,rfl,_,hc⟩
 ·simp [u8s] at hu
 ·cases had;have hj:j < bs.length:=by
   have:=(List.getElem?_eq_some_iff.1 hu).1;simpa [u8s] using this
  rw [Addr.add_lit,hc j hj];simp [u8s,hj] at hu;simp [hj,<- hu]
theorem Sl.some_len {ok:Nat->Prop} {w:World} {a:Option Addr} {bs:List Nat} (h:Sl ok w a bs):a=none->bs.length=0:=by
 rintro rfl;rcases h with rfl | ⟨_,_,h,_⟩
 ·rfl
 ·cases h
theorem Sl.owned {w:World} {base e:Nat} {v:Value} {n:Nat} {bs:List Nat} (h:w.ownsRow base e 1 v n (u8s bs)) :
  ∃ a c,v=.slice a bs.length c/\n=bs.length/\(a=none->c=0)/\Sl (fun b=>base<=b/\v.ownBlock=some b) w a bs:=by
 have hn:n=bs.length:=by have:=h.1;simp [u8s] at this;omega
 subst hn;rcases h.2 with ⟨rfl,h0⟩ | ⟨g,cap,cur,rfl,hb,hg,hnc,hm,hcs,ht⟩
 ·exact ⟨none,0,by rw [h0],rfl,fun _=>rfl,.inl (List.eq_nil_of_length_eq_zero h0)⟩
 ·refine ⟨_,cap,rfl,rfl,(fun h=>by cases h),.inr ⟨g,0,rfl,⟨hb,rfl⟩,fun i hi=>?_⟩⟩;have hc:=h.cells (g:=g) rfl i (.int .u8 ((bs.getD i 0:Nat):Int)) (by simp [u8s,hi]);rwa [Addr.add_lit] at hc
theorem UX (w:World) (u:Value) (T:TypeId):∀ ad,some (⟨w.heap.size,0,none⟩:Addr)=some ad->∀ j x,[u][j]?=some x->(w.alloc (.cells #[u] T)).cell? (ad.add j)=some x:=by
 intro ad had j x hx;cases had;have h0:j=0:=by
  rcases Nat.eq_zero_or_pos j with h | h
  ·exact h
  ·rw [List.getElem?_eq_none (by simp;omega)] at hx;cases hx
 subst h0;rw [Addr.add_lit,cell_of_row _ _ _ _ _ _ (heap_alloc_new w _)];simpa using hx
theorem A8 {w0 w w':World} {b e s n:Nat} {v:Value} {x:List Value} (h:Below w0.heap.size w0 w) (ho:w.ownsRow b e s v n x) (hb:w0.heap.size<=b) (hg:w.grownBy w' v.ownBlock):Below w0.heap.size w0 w':=
 h.grown hg h.size fun k hk=>Nat.le_trans hb (ho.lt k hk).1
theorem I4 {P:Program} {w:World} {ops:Array Oper} {rest:List Oper} {o:Oper} {a:Act} {Q:Exit->Act->World->Prop} (hgd:o.guard=none) (s x:Operand) (t tn:TypeId)
  (ho:o.op=.call {callee:=.builtin .append,args:=#[s,x],argTypes:=#[t,tn]}) (e:TypeId) (z:Value) (bytes:Nat) (ht:P.underlying t=some (.slice e)) (k kn:IntKind) (htn:P.underlying tn=some (.int kn))
  (hi:(P.info? e).map (fun i=>(i.zero,i.size,i.bytes))=some (some z,1,bytes)) (hz:z.cells.size=1) (n:Nat) (hs:a.eval s=.slice none 0 0) (hx:a.eval x=.int k n) (h0:0 < n) (h63:n<=maxLen) (h48:n * bytes<=281474976710656)
  (h:∀ w' cur,w'.heap[w.heap.size]?=some (.cells cur e (0,0))->n<=cur.size->cur.size<=maxLen->Below w.heap.size w w'->wpList P ops Q rest (a.put o.dst (.slice (some ⟨w.heap.size,0,none⟩) n cur.size)) w'):wpList P ops Q (o::rest) a w:=by
 obtain ⟨i,hi,hz0,hz1,hz2⟩:=info_parts hi;have hge:=grownCap_ge w n 0 e;refine Go.Lib.wpList_append_run w hgd s x t tn ho _ _ hs hx _ _ (Go.Lib.run_append_nil_zeros w t tn o.type e i z k kn ht htn hi hz0 n h0 (by omega) (by unfold maxLen at h63;omega) (by rw [hz2];exact h48)) ?_;have hsz:(Builtin.zeroCells z.cells n++Builtin.zeroCells z.cells (grownCap w n 0 e - n)).size=grownCap w n 0 e:=by
  rw [Array.size_append,size_zeroCells,size_zeroCells,hz];omega
 have h':=h _ _ (heap_alloc_new w.drew (.cells (Builtin.zeroCells z.cells n++Builtin.zeroCells z.cells (grownCap w n 0 e - n)) e)) (by rw [hsz];exact hge) (by rw [hsz];exact grownCap_le_maxLen w n 0 e h63) (((Below.refl _ _).drew).alloc (Nat.le_refl _) _);rw [hsz] at h';exact h'
theorem Parts.two {w:World} {ok:Nat->Prop} {a b:Option Addr} {xs ys:List Nat} (hx:Sl ok w a xs) (hy:Sl ok w b ys) (c d:Nat) (hc:xs.length<=c/\c<=maxLen) (hd:ys.length<=d/\d<=maxLen) (T:TypeId) :
  Parts ok (w.alloc (.cells #[.slice a xs.length c,.slice b ys.length d] T)) w.heap.size 0 [xs,ys] (fun i=>if i=0 then a else b) (fun i=>if i=0 then c else d):=by
 have hb:Below w.heap.size w (w.alloc (.cells #[.slice a xs.length c,.slice b ys.length d] T)):=(Below.refl _ _).alloc (Nat.le_refl _) _;refine ⟨fun i hi=>?_,fun i hi=>?_,fun i hi=>?_⟩
 all_goals
  have h01:i=0\/i=1:=by simp at hi;omega
  rcases h01 with rfl | rfl
 iterate 2
  ·rw [cell_of_row _ w.heap.size _ _ _ _ (heap_alloc_new w _)];rfl
 ·exact hx.below hb
 ·exact hy.below hb
 ·exact hc
 ·exact hd
end Go.Inc
namespace Go.Inc
open Go.RowKit
theorem CG {w:World} {b b' e s n:Nat} {v:Value} {x:List Value} (h:w.ownsRow b e s v n x) (hb:b'<=b):w.ownsRow b' e s v n x:=
 ⟨h.1,h.2.imp id fun ⟨g,cap,cur,h1,h2,r⟩=>⟨g,cap,cur,h1,Nat.le_trans hb h2,r⟩⟩
theorem UV {w:World} {B e n c m:Nat} {a:Option Addr} {x:List Value} (h:w.ownsRow B e 1 (.slice a n c) m x):n<=c/\c<=maxLen:=by
 rcases h.2 with ⟨h,_⟩ | ⟨g,cap',cur,h,_,_,h1,h2,_⟩
 ·simp only [Value.slice.injEq] at h;unfold maxLen;omega
 ·simp only [Value.slice.injEq] at h;omega
theorem Uz {bs:List Nat} {k:Nat} (h:k < bs.length):(u8s bs)[k]?=some (.int .u8 ((bs.getD k 0:Nat):Int)):=by
 rw [List.getD_eq_getElem?_getD,List.getElem?_eq_getElem h];simp [u8s,h]
theorem Z8 (bs:List Nat) (k x:Nat):(u8s bs).set k (.int .u8 (x:Int))=u8s (bs.set k x):=by
 simp [u8s,List.map_set]
def Row (E B:Nat) (w:World) (v:Value) (bs:List Nat):Prop:=w.ownsRow B E 1 v bs.length (u8s bs)
section
variable {E B B':Nat} {w w':World} {v:Value} {bs:List Nat}
theorem Row.nil (E B:Nat) (w:World):Row E B w (.slice none 0 0) []:=World.ownsRow_nil _ _ _ _
theorem Row.weaken (h:Row E B w v bs) (hb:B'<=B):Row E B' w v bs:=CG h hb
theorem Row.sl (h:Row E B w v bs):∃ a c,v=.slice a bs.length c/\(a=none->c=0)/\bs.length<=c/\c<=maxLen/\Sl (fun b=>B<=b) w a bs:=by
 obtain ⟨a,c,rfl,_,hn,hs⟩:=Sl.owned h;have hc:=UV h;exact ⟨a,c,rfl,hn,hc.1,hc.2,hs.mono fun _ h _=>h.1⟩
theorem Row.kept (h:Row E B w v bs) (hg:Below w.heap.size w w'):Row E B w' v bs:=by
 have h':w.grownBy w' none:=⟨hg.os,hg.tape,hg.output,hg.size,fun i hi _=>hg.block i hi⟩
 refine World.ownsRow.kept h h' ?_;cases hv:v.ownBlock with
 | none=>exact .inl rfl
 | some _=>exact .inr (by simp)
end
def Si (ok:Nat->Prop) (w:World) (a:Option Addr) (zs:List Int):Prop:=
 zs=[]\/∃ b off,a=some ⟨b,off,none⟩/\ok b/\∀ i,i < zs.length->w.cell? ⟨b,off+i,none⟩=some (.int .i64 (zs.getD i 0))
section
variable {ok ok':Nat->Prop} {w w':World} {a:Option Addr} {zs:List Int}
theorem Si.nil (ok:Nat->Prop) (w:World) (a:Option Addr):Si ok w a []:=.inl rfl
theorem Si.mono (h:Si ok w a zs) (hk:∀ b,ok b->b < w.heap.size->ok' b):Si ok' w a zs:=by
 rcases h with h | ⟨b,off,ha,hb,hc⟩
 ·exact .inl h
 ·by_cases h0:zs=[]
  ·exact .inl h0
  ·exact .inr ⟨b,off,ha,hk b hb (AA (hc 0 (by cases zs<;>simp_all))),hc⟩
theorem Si.kept (h:Si ok w a zs) (hb:∀ b,ok b->b < w.heap.size->w'.heap[b]?=w.heap[b]?):Si ok w' a zs:=by
 rcases h with h | ⟨b,off,rfl,hk,hc⟩
 ·exact .inl h
 ·by_cases h0:zs=[]
  ·exact .inl h0
  ·refine .inr ⟨b,off,rfl,hk,fun i hi=>?_⟩;have h0:=hc 0 (by cases zs<;>simp_all);rw [<- hc i hi];exact World.cell?_of_block (hb b hk (AA h0))
theorem Si.below (h:Si ok w a zs) (hb:Below w.heap.size w w'):Si ok w' a zs:=h.kept fun b _ hlt=>hb.block b hlt
theorem Si.grown {r:Nat} (h:Si ok w a zs) (hg:w.grownBy w' (some r)) (hr:∀ b,ok b->b≠r):Si ok w' a zs:=
 h.kept fun b hk hlt=>hg.block b hlt (by intro e;cases e;exact hr _ hk rfl)
theorem Si.front (h:Si ok w a zs) (k:Nat):Si ok w a (zs.take k):=by
 rcases h with rfl | ⟨b,off,rfl,hk,hc⟩
 ·left;simp
 ·refine .inr ⟨b,off,rfl,hk,fun i hi=>?_⟩;simp only [List.length_take] at hi;rw [hc i (by omega),List.getD_eq_getElem?_getD,List.getD_eq_getElem?_getD,List.getElem?_take,if_pos (by omega)]
end
theorem Sl.behind {ok:Nat->Prop} {w:World} {a:Option Addr} {bs:List Nat} (h:Sl ok w a bs) (k:Nat) (a':Option Addr) (ha:k < bs.length->a'=a.map (·.add k)):Sl ok w a' (bs.drop k):=by
 by_cases hk:k < bs.length
 ·rcases h with rfl | ⟨b,off,rfl,hok,hc⟩
  ·simp at hk
  ·refine .inr ⟨b,off+k,by rw [ha hk];simp [Addr.add],hok,fun i hi=>?_⟩;simp only [List.length_drop] at hi;rw [Nat.add_assoc,hc (k+i) (by omega),List.getD_eq_getElem?_getD,List.getD_eq_getElem?_getD,List.getElem?_drop]
 ·left;exact List.drop_eq_nil_of_le (by omega)
end Go.Inc
namespace Go.Inc
open Go.RowKit
def inB (m:List Bool) (i:Nat):Bool:=m.getD i false
theorem IL {m:List Bool} {i:Nat} (h:i < m.length) (b:Bool) (j:Nat):inB (m.set i b) j=if j=i then b else inB m j:=by
 unfold inB;simp only [List.getD_eq_getElem?_getD,List.getElem?_set];by_cases hj:i=j
 ·subst hj;simp [h]
 ·have:¬ j=i:=fun h=>hj h.symm;simp [hj,this]
theorem Lt {m:List Bool} {i:Nat} (h:m.length<=i):inB m i=false:=by
 unfold inB;rw [List.getD_eq_getElem?_getD,List.getElem?_eq_none h];rfl
theorem IR {a b:List Bool} (hl:a.length=b.length) (h:∀ i,i < a.length->inB a i=inB b i):a=b:=by
 apply List.ext_getElem hl;intro i h1 h2;have:=h i h1;unfold inB at this;rw [List.getD_eq_getElem?_getD,List.getD_eq_getElem?_getD,List.getElem?_eq_getElem h1,List.getElem?_eq_getElem h2] at this;exact this
def Bc (f:Nat->Bool) (k:Nat):List Nat:=(List.range k).filter f
theorem Kq {f:Nat->Bool} {k:Nat} (h:f k=true):Bc f (k+1)=Bc f k++[k]:=by
 unfold Bc;rw [List.range_succ,List.filter_append];simp [h]
theorem FI {f:Nat->Bool} {k:Nat} (h:f k=false):Bc f (k+1)=Bc f k:=by
 unfold Bc;rw [List.range_succ,List.filter_append];simp [h]
theorem Tj {f:Nat->Bool} {k i:Nat}:i∈Bc f k↔i < k/\f i=true:=by
 unfold Bc;rw [List.mem_filter,List.mem_range]
theorem GN (f:Nat->Bool) (k:Nat):(Bc f k).length<=k:=by
 unfold Bc;have:=List.length_filter_le f (List.range k);rw [List.length_range] at this;exact this
theorem JG {f g:Nat->Bool} {k:Nat} (h:∀ i,i < k->f i=g i):Bc f k=Bc g k:=by
 unfold Bc;apply List.filter_congr;intro i hi;exact h i (List.mem_range.1 hi)
theorem GR {f:Nat->Bool} {k:Nat}:∀ n,(∀ i,k<=i->i < k+n->f i=false)->Bc f (k+n)=Bc f k
 | 0,_=>rfl
 | n+1,h=>by
  rw [show k+(n+1)=(k+n)+1 from by omega,FI (h _ (by omega) (by omega)),GR n fun i h1 h2=>h i h1 (by omega)]
def BB (f:Nat->Bool) (k:Nat):Nat:=(Bc f k).length
theorem NC {f:Nat->Bool} {k:Nat} (h:f k=true):BB f (k+1)=BB f k+1:=by unfold BB;rw [Kq h,List.length_append];rfl
theorem KJ {f:Nat->Bool} {k:Nat} (h:f k=false):BB f (k+1)=BB f k:=by unfold BB;rw [FI h]
def I5 (f:Nat->Bool) (no:Int) (b:Bool):Nat->Int
 | 0=>-1
 | n+1=>if 0<=I5 f no b n then I5 f no b n else if no<=n/\f n=b then n else -1
theorem IJ {f:Nat->Bool} {no:Int} {b:Bool}:∀ {n:Nat},(∀ i:Nat,i < n->¬ (no<=i/\f i=b))->I5 f no b n=-1
 | 0,_=>rfl
 | n+1,h=>by
  unfold I5;rw [IJ fun i hi=>h i (by omega),if_neg (by decide),if_neg (h n (by omega))]
theorem GU {f:Nat->Bool} {no:Int} {b:Bool} {k:Nat} (hk:no<=k/\f k=b) (h:∀ i:Nat,i < k->¬ (no<=i/\f i=b)):∀ {n:Nat},k < n->I5 f no b n=k
 | 0,hn=>by omega
 | n+1,hn=>by
  unfold I5;by_cases hkn:k=n
  ·subst hkn;rw [IJ h,if_neg (by decide),if_pos hk]
  ·rw [GU hk h (by omega),if_pos (by omega)]
theorem Tn (f:Nat->Bool) (no:Int) (b:Bool) (n:Nat):(I5 f no b n=-1/\∀ i:Nat,i < n->¬ (no<=i/\f i=b))\/∃ k:Nat,k < n/\I5 f no b n=k/\(no<=k/\f k=b)/\∀ i:Nat,i < k->¬ (no<=i/\f i=b):=by
 induction n with
 | zero=>exact .inl ⟨rfl,fun i hi=>by omega⟩
 | succ n ih=>
  rcases ih with ⟨_,h⟩ | ⟨k,hk,_,h1,h2⟩
  ·by_cases hc:no<=n/\f n=b
   ·exact .inr ⟨n,by omega,GU hc h (by omega),hc,h⟩
   ·have hm:∀ i:Nat,i < n+1->¬ (no<=i/\f i=b):=fun i hi=>by
     by_cases hin:i=n
     ·subst hin;exact hc
     ·exact h i (by omega)
    exact .inl ⟨IJ hm,hm⟩
  ·exact .inr ⟨k,by omega,GU h1 h2 (by omega),h1,h2⟩
def BF (W:List Nat) (i:Nat):Bool:=(W.getD (i / 64) 0).testBit (i % 64)
theorem Sj (n i:Nat):BF (List.replicate n 0) i=false:=by
 unfold BF;rw [List.getD_eq_getElem?_getD,List.getElem?_replicate];split<;>simp
theorem J4 {W:List Nat} {q:Nat} (hq:q < W.length) (x i:Nat):BF (W.set q x) i=if i / 64=q then x.testBit (i % 64) else BF W i:=by
 unfold BF;simp only [List.getD_eq_getElem?_getD,List.getElem?_set];by_cases h:q=i / 64
 ·subst h;simp [hq]
 ·have:¬ i / 64=q:=fun h'=>h h'.symm;simp [h,this]
theorem LD (k j:Nat):(2 ^ k).testBit j=decide (k=j):=Nat.testBit_two_pow
theorem XB {W:List Nat} {i:Nat} (h:i / 64 < W.length) (j:Nat):BF (W.set (i / 64) (W.getD (i / 64) 0 ||| 2 ^ (i % 64))) j=(decide (j=i)||BF W j):=by
 rw [J4 h];by_cases hq:j / 64=i / 64
 ·rw [if_pos hq,Nat.testBit_or,LD];have e:(i % 64=j % 64)=(j=i):=propext (by omega);unfold BF;rw [hq];simp only [e];exact Bool.or_comm _ _
 ·rw [if_neg hq];have:¬ j=i:=fun h=>hq (by rw [h]);simp [this]
end Go.Inc
namespace Go.Inc
open Go.RowKit
def Zz (m:List Bool):List Value:=m.map Value.bool
theorem Kv (n i:Nat):inB (List.replicate n false) i=false:=by
 unfold inB;rw [List.getD_eq_getElem?_getD,List.getElem?_replicate];split<;>rfl
def Bl (ok:Nat->Prop) (w:World) (a:Option Addr) (m:List Bool):Prop:=m=[]\/∃ b o,a=some ⟨b,o,none⟩/\ok b/\∀ i,i < m.length->w.cell? ⟨b,o+i,none⟩=some (.bool (inB m i))
section
variable {ok ok':Nat->Prop} {w w':World} {a:Option Addr} {m:List Bool} {B n:Nat} {v:Value} {e:TypeId}
end
def Dl (l:List Nat):List Value:=l.map fun x:Nat=>Value.int .i64 (x:Int)
theorem V3 (l:List Nat):(Dl l).length=l.length:=by simp [Dl]
theorem MF (l:List Nat) (x:Nat):Dl (l++[x])=Dl l++[.int .i64 (x:Int)]:=by simp [Dl]
theorem V4 {l:List Nat} {i:Nat} (h:i < l.length):(Dl l)[i]?=some (.int .i64 ((l.getD i 0:Nat):Int)):=by
 rw [List.getD_eq_getElem?_getD,List.getElem?_eq_getElem h];simp [Dl,h]
theorem Si.ownedN {w:World} {B n:Nat} {v:Value} {l:List Nat} {e:TypeId} (h:w.ownsRow B e 1 v n (Dl l)):∃ a c,v=.slice a l.length c/\n=l.length/\(a=none->c=0)/\l.length<=c/\c<=maxLen/\Si (fun b=>B<=b) w a (l.map fun x:Nat=>(x:Int)):=by
 have hn:n=l.length:=by have:=h.1;rw [V3] at this;omega
 subst hn;rcases h.2 with ⟨rfl,h0⟩ | ⟨g,cap,cur,rfl,hb,hg,hnc,hm,hcs,ht⟩
 ·refine ⟨none,0,by rw [h0],rfl,fun _=>rfl,by omega,Nat.zero_le _,.inl ?_⟩;rw [List.eq_nil_of_length_eq_zero h0];rfl
 ·refine ⟨_,cap,rfl,rfl,(fun h=>by cases h),hnc,hm,.inr ⟨g,0,rfl,hb,fun i hi=>?_⟩⟩;rw [List.length_map] at hi;have hc:=h.cells (g:=g) rfl i _ (V4 hi);rw [Addr.add_lit] at hc;rw [hc]
  congr 2
  simp only [List.getD_eq_getElem?_getD,List.getElem?_map];cases l[i]?<;>rfl
end Go.Inc
