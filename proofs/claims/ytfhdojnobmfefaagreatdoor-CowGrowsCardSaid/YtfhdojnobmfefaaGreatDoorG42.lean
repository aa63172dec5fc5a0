/- MADE SMALL. -/
import Derived.Test.YtfhdojnobmfefaaGreatDoorG39
import Derived.Test.YtfhdojnobmfefaaGreatDoorG28
import Derived.Test.YtfhdojnobmfefaaGreatDoorG40
import Derived.Test.YtfhdojnobmfefaaGreatDoorG41
import Derived.Test.YtfhdojnobmfefaaGreatDoorG34
import Derived.Test.YtfhdojnobmfefaaGreatDoorG26
import Derived.BigQuiet
import Derived.RangeFuncBox
import Derived.Test.YtfhdojnobmfefaaGreatDoorG17
namespace Go.Inc
open Go.RowKit
theorem Ap {pq:List (Nat×Nat×Tmp)} {i:Nat} {K:Nat×Nat×Tmp->Prop} (h:(pq.all fun y=>y.2.1 != i)=true):∀ y∈pq,i=y.2.1->K y:=fun y hy e=>by
 have:=List.all_eq_true.1 h y hy;simp [e] at this
theorem Sl.overF {ok:Nat->Prop} {x y:World} {a:Option Addr} {bs:List Nat} (h:Sl ok x a bs) {b:Nat} {cs:Array Value} {T:TypeId} (hg:x.grownBy y (some b)) (hr:x.heap[b]?=some (.cells cs T (0,0))) (hn:(cs.all fun v=>match v with | .int .u8 _=>false | _=>true)=true):Sl ok y a bs:=by
 rcases h with h | ⟨d,off,rfl,hk,hc⟩
 ·exact .inl h
 ·by_cases h0:bs=[]
  ·exact .inl h0
  ·have h1:=hc 0 (by cases bs<;>simp_all);have hdb:d≠b:=fun e=>by
    subst e;rw [cell_of_row _ _ _ _ _ _ hr] at h1;have h2:(.int .u8 ((bs.getD 0 0:Nat):Int):Value)∈cs:=Array.mem_of_getElem? h1;have h3:=Array.all_eq_true_iff_forall_mem.1 hn _ h2;simp at h3
   exact (Sl.kept (ok:=fun i=>i=d) (.inr ⟨d,off,rfl,rfl,hc⟩) fun i hi hlt=>hg.block i hlt (by rw [hi];intro e;cases e;exact hdb rfl)).mono fun i hi _=>by rw [hi];exact hk
theorem Bb.overF {ok:Nat->Prop} {x y:World} {v:Value} {bs:List Nat} (h:Bb ok x v bs) {b:Nat} {cs:Array Value} {T:TypeId} (hg:x.grownBy y (some b)) (hr:x.heap[b]?=some (.cells cs T (0,0))) (hn:(cs.all fun v=>match v with | .int .u8 _=>false | _=>true)=true):Bb ok y v bs:=by
 obtain ⟨a,c,h1,h2,h3⟩:=h;exact ⟨a,c,h1,h2.overF hg hr hn,h3⟩
def FrT (x:World) (v:Value) (B:Nat) (bs:List Nat):Prop:=∃ (k e pg:Int) (a:Option Addr) (c:Nat),v=.tuple #[.agg #[.int .i64 k,.int .i64 e,.int .i64 pg,.slice a bs.length c],.int .i64 0]/\Bb (fun b=>B<=b) x (.slice a bs.length c) bs
def FrA (x:World) (v:Value) (B:Nat) (bs:List Nat):Prop:=∃ (k e pg:Int) (a:Option Addr) (c:Nat),v=.agg #[.int .i64 k,.int .i64 e,.int .i64 pg,.slice a bs.length c]/\Bb (fun b=>B<=b) x (.slice a bs.length c) bs
def FrX (x:World) (v:Value) (B:Nat) (bs:List Nat) (T:TypeId):Prop:=∃ (b:Nat) (k e pg:Int) (a:Option Addr) (c:Nat),v=.pointer (some ⟨b,0,none⟩)/\B<=b/\x.heap[b]?=some (.cells #[.int .i64 k,.int .i64 e,.int .i64 pg,.slice a bs.length c] T (0,0))/\Bb (fun b=>B<=b) x (.slice a bs.length c) bs
theorem FrT.grew {x y:World} {v:Value} {B:Nat} {bs:List Nat} (hw:Grew x y) (h:FrT x v B bs):FrT y v B bs:=by
 obtain ⟨k,e,pg,a,c,h1,h2⟩:=h;exact ⟨k,e,pg,a,c,h1,h2.below hw⟩
theorem FrA.grew {x y:World} {v:Value} {B:Nat} {bs:List Nat} (hw:Grew x y) (h:FrA x v B bs):FrA y v B bs:=by
 obtain ⟨k,e,pg,a,c,h1,h2⟩:=h;exact ⟨k,e,pg,a,c,h1,h2.below hw⟩
theorem FrX.grew {x y:World} {v:Value} {B:Nat} {bs:List Nat} {T:TypeId} (hw:Grew x y) (h:FrX x v B bs T):FrX y v B bs T:=by
 obtain ⟨b,k,e,pg,a,c,h1,h2,h3,h4⟩:=h;exact ⟨b,k,e,pg,a,c,h1,h2,Ac h3 hw,h4.below hw⟩
end Go.Inc
namespace Go.Proofs.YtfhdojnobmfefaaGreatDoor
open Go.RowKit Go.Inc
theorem U0 {S:St} {p:Nat} {lf:Bool} {es:List Et} (h:CJ S p=some (lf,es)):F9 (rd S p) (p:Int) [2]=0/\ndE (Ec (rd S p) (p:Int) [2]).b=0/\ndL (Ec (rd S p) (p:Int) [2]).b=lf/\ndS (Ec (rd S p) (p:Int) [2]).b=es:=by
 unfold CJ at h;split at h
 ·rename_i hh
  simp only [Option.some.injEq,Prod.mk.injEq] at h;exact ⟨hh.1,hh.2,h.1,h.2⟩
 ·cases h
theorem aP (tmps:Array Value) (g:Nat) (cs:Array Value) (w:World) (h2:tmps.getD 4 undef=.pointer (some ⟨g,0,none⟩)) (hg:w.heap[g]?=some (.cells cs 114 (0,0))) (hs:cs.size=2) :
  (results Tryz.f115 tmps).run Tryz.prog w=.ok (.tuple #[.agg cs,tmps.getD 5 undef]) w:=
 CS rfl tmps w g 114 cs (0,0) _ h2 hg Tryz.underlying114 rfl (by rw [hs];kernel_rfl)
set_option maxRecDepth 20000 in
set_option maxHeartbeats 4000000 in
theorem EM {C:Nat->Nat} {w:World} {tp gd pa pn n:Nat} {S:St} {r ep:Int} (hd:Dv C w gd pn n S) (htc:TC w tp gd pa r ep) (hct:C tp=0) (hon:S.on=true) (hn:n<=1000000) (hr:S.r<=1000000) (p:Nat) (lv:Int) (hlv:lv<=8) (hp:p < pn) (hby:Bytes (rd S p)) (lf:Bool) (es:List Et) (hnd:CJ S p=some (lf,es)) :
  Calls Tryz.prog 115 #[.pointer (some ⟨tp,0,none⟩),.agg #[.int .i64 (p:Int),.int .i64 lv]] w fun e w'=>(∃ v,e=.returned (.tuple #[v,.int .i64 0])/\NdW 65 w.heap.size w' v lf es)/\Dv C w' gd pn n {S with r:=S.r+1}/\Mv (fun b=>C b≠0) w w':=by
 obtain ⟨h1,h2,h3,h4⟩:=U0 hnd;obtain ⟨bs,hbs⟩:∃ bs,bs=(Ec (rd S p) (p:Int) [2]).b:=⟨_,rfl⟩
 rw [<- hbs] at h2 h3 h4;obtain ⟨g,hg⟩:∃ g,g=w.heap.size:=⟨_,rfl⟩
 have HG:=hid hg;obtain ⟨w0,hw0⟩:∃ w0,w0=(w.alloc (.cells #[.int .i64 (p:Int),.int .i64 lv] 184)).alloc (.cells #[.bool false,.slice none 0 0] 114):=⟨_,rfl⟩
 have HW0:=hid hw0;have HB0:Hid (Below w.heap.size w w0):=hid (by rw [hw0];exact ((Below.refl _ _).alloc (Nat.le_refl _) _).alloc (by simp) _);have hx0:w0.heap[g]?=some (.cells #[.int .i64 (p:Int),.int .i64 lv] 184 (0,0)):=by rw [hw0,hg];exact heap_alloc2_old w _ _
 have hx1:w0.heap[g+1]?=some (.cells #[.bool false,.slice none 0 0] 114 (0,0)):=by rw [hw0,hg];exact heap_alloc2_new w _ _
 have HSZ:Hid (w0.heap.size=g+2):=hid (by rw [hw0,hg];simp);have HDV:=hid (hd.below HB0.out);have HC0:Hid (∀ b,g+2<=b->C b=0):=hid fun b hb=>HDV.out.new (by rw [HSZ.out];exact hb);have HCG:Hid (C g=0/\C (g+1)=0/\C tp=0):=hid ⟨hd.new (by omega),hd.new (by omega),hct⟩;have HTC:Hid (TC w0 tp gd pa r ep):=hid (htc.mv (F:=fun _=>False) (Mv.of_below HB0.out) id);have HX0:=hid hx0;have HX1:=hid hx1;have HTL:Hid (tp < g):=hid (by rw [hg];exact Aj htc);have HRD:Hid (∀ y b,Dv C y gd pn n S->g+2<=b->y.heap[b]?=some (.cells #[.int .i64 2] 3 (0,0))->g+2<=y.heap.size->Calls Tryz.prog 148 #[.pointer (some ⟨gd,0,none⟩),.int .i64 (p:Int),.slice (some ⟨b,0,none⟩) 1 1] y fun e w'=>(∃ v,e=.returned v/\FrT w' v (g+2) bs)/\Mv (fun b=>C b≠0) y w'/\Dv C w' gd pn n {S with r:=S.r+1}):=hid fun y b hy hb hrow hsz=>by
  refine (aT hy p (fun i=>i=b) (some ⟨b,0,none⟩) 1 [2] (.inr ⟨b,0,rfl,rfl,fun i hi=>?_⟩) (fun i hi=>by rw [hi];exact HC0.out b hb) (by decide) hon hp hn hr hby).mono ?_
  ·have:i=0:=by simp at hi;omega
   subst this;rw [cell_of_row _ _ _ _ _ _ hrow];rfl
  ·rintro e w' ⟨⟨v,rfl,hv⟩,h5,h6⟩;refine ⟨⟨_,rfl,?_⟩,h5,h6⟩;rw [h1];rw [<- hbs] at hv;have hv':=hv.mono (ok':=fun b=>g+2<=b) fun b hb _=>Nat.le_trans hsz hb;obtain ⟨a,c,rfl,h7⟩:=hv';exact ⟨_,_,_,a,c,rfl,a,c,rfl,h7⟩
 have HCX:Hid (∀ x,Mv (fun i=>C i≠0\/g+2<=i) w0.drew x->x.cell? ⟨tp,0,none⟩=some (.pointer (some ⟨gd,0,none⟩))/\x.cell? ⟨g,0,none⟩=some (.int .i64 (p:Int))):=hid fun x hx=>by
  have k1:TC x tp gd pa r ep:=TC.mv (w:=w0.drew) HTC.out hx fun h=>by rcases h with h | h;exact h HCG.out.2.2;have:=HTL.out;omega
  have k2:=hx.row (g:=g) (o:=.cells #[.int .i64 (p:Int),.int .i64 lv] 184 (0,0)) HX0.out fun h=>by rcases h with h | h;exact h HCG.out.1;omega
  exact ⟨by rw [cell_of_row _ _ _ _ _ _ k1];rfl,by rw [cell_of_row _ _ _ _ _ _ k2];rfl⟩
 have HND:=hid (And.intro h2 (And.intro h3 h4));have hc1:w0.cell? ⟨g,1,none⟩=some (.int .i64 lv):=coR hx0;have HBYT:Hid (Bytes bs/\bs.length<=1000):=hid (by
  rw [hbs];unfold Ec;rw [if_pos h1];unfold Be;have hlen:=Yh hd hp;split
  ·exact ⟨JE hby,by show (BH _ _ _).length<=1000;unfold BH;rw [List.length_take,List.length_drop];omega⟩
  ·exact ⟨(fun x hx=>by cases hx),by decide⟩)
 clear hd htc hct hon hn hr hp hby hnd h1 h2 h3 h4 hbs hg hw0 hx0 hx1
 go_enter Tryz.func115,Tryz.ntmps115
 go_upto_region 1 with fail
 rw [<- HW0.out,<- HG.out];clear HW0
 go_wp2_with fail
 refine BL (fun i=>C i≠0\/g+2<=i) 7 (fun x=>Dv C x gd pn n S) (fun x=>Dv C x gd pn n {S with r:=S.r+1}) 14 [(11,12,6)] [(12,11),(12,6),(12,7),(12,9),(7,6)] [EqN (.pointer (some ⟨tp,0,none⟩)),EqN (.pointer (some ⟨tp,0,none⟩)),EqN (.pointer (some ⟨tp,0,none⟩)),EqN (.pointer (some ⟨gd,0,none⟩)),EqN (.pointer (some ⟨g,0,none⟩)),EqN (.int .i64 (p:Int)),fun x v=>∃ b,v=.slice (some ⟨b,0,none⟩) 1 1/\g+2<=b/\x.heap[b]?=some (.cells #[.int .i64 2] 3 (0,0)),fun x v=>FrT x v (g+2) bs,fun x v=>FrT x v (g+2) bs,fun x v=>FrA x v (g+2) bs,EqN (.int .i64 0),fun x v=>∃ b,v=.pointer (some ⟨b,0,none⟩)/\g+2<=b/\x.heap[b]?=some (.cells #[.int .i64 0,.int .i64 0,.int .i64 0,.slice none 0 0] 233 (0,0)),fun x v=>FrX x v (g+2) bs 233,EqN (.int .i64 0)] (by kernel_rfl) (by decide) (by kernel_rfl) (by kernel_rfl) (by kernel_rfl) (by decide) ((HDV.out.below ((Below.refl _ _).drew))) (fun a b hab h=>h.below hab) (fun a b hab h=>h.below hab) ?_ ?_ ?_
 ·repeat' (first | exact List.forall_mem_nil _ | refine List.forall_mem_cons.2 ⟨?_,?_⟩)
  all_goals
   intro w w' v hw h
   first | exact h | (obtain ⟨b,h1,h2,h3⟩:=h;exact ⟨b,h1,h2,Ac h3 hw⟩) | exact FrT.grew hw h | exact FrA.grew hw h | exact FrX.grew hw h
 ·simp only [AllLt];refine ⟨⟨⟨⟨⟨⟨⟨⟨⟨⟨⟨⟨⟨⟨trivial,?_⟩,?_⟩,?_⟩,?_⟩,?_⟩,?_⟩,?_⟩,?_⟩,?_⟩,?_⟩,?_⟩,?_⟩,?_⟩,?_⟩
  all_goals
   intro o' ho;simp at ho;subst ho;intro ρ w5 hR hJ hL hS hG;obtain ⟨hl1,hl2,-⟩:=hL
  ·refine Aa rfl ?_;intro bA K Q' hK;have e0:=hS 0 (by kernel_rfl);change ρ (.tmp 0)=_ at e0;simp only [execOp];go_simp;exact hK _ _ rfl (.inl ⟨by decide,Grew.refl _⟩) (Ap (by decide))
  ·refine Aa rfl ?_;intro bA K Q' hK;have e14:=apG (hG 0 14);change ρ (.tmp 14)=_ at e14;simp only [execOp];go_simp;exact hK _ _ rfl (.inl ⟨by decide,Grew.refl _⟩) (Ap (by decide))
  ·refine Aa rfl ?_;intro bA K Q' hK;have e15:=apG (hG 1 15);change ρ (.tmp 15)=_ at e15;simp only [execOp];go_simp;exact hK _ _ rfl (.inl ⟨by decide,Grew.refl _⟩) (Ap (by decide))
  ·refine Aa rfl ?_;intro bA K Q' hK;have e16:=apG (hG 2 16);change ρ (.tmp 16)=_ at e16;obtain ⟨y0,y1⟩:=HCX.out w5 hR;simp only [execOp];go_simp;exact hK _ _ rfl (.inl ⟨by decide,Grew.refl _⟩) (Ap (by decide))
  ·refine Aa rfl ?_;intro bA K Q' hK;have e3:=hS 3 (by kernel_rfl);change ρ (.tmp 3)=_ at e3;simp only [execOp];go_simp;exact hK _ _ rfl (.inl ⟨by decide,Grew.refl _⟩) (Ap (by decide))
  ·refine Aa rfl ?_;intro bA K Q' hK;have e18:=apG (hG 4 18);change ρ (.tmp 18)=_ at e18;obtain ⟨y0,y1⟩:=HCX.out w5 hR;simp only [execOp];go_simp;exact hK _ _ rfl (.inl ⟨by decide,Grew.refl _⟩) (Ap (by decide))
  ·refine Aa rfl ?_;intro bA K Q' hK;simp only [execOp];go_simp;exact hK _ _ ⟨_,rfl,by have:=hR.size;have:=HSZ.out;simp at *;omega,heap_alloc_new w5 _⟩ (.inl ⟨by decide,(Grew.refl _).alloc _⟩) (Ap (by decide))
  ·refine Aa rfl ?_;intro bA K Q' hK;have e17:=apG (hG 3 17);have e19:=apG (hG 5 19);have e20:=apG (hG 6 20);change ρ (.tmp 17)=_ at e17;change ρ (.tmp 19)=_ at e19;obtain ⟨b,e20,hb,hrow⟩:=e20;change ρ (.tmp 20)=_ at e20;simp only [execOp];go_simp;refine (HRD.out w5 b (hJ rfl) hb hrow (by have:=hR.size;have:=HSZ.out;simp at *;omega)).mono ?_;rintro r9 w9 ⟨⟨v9,rfl,h9⟩,hm9,hd9⟩;refine hK _ _ h9 (.inr ⟨hm9.sub fun i _ h=>.inl h,⟨fun _=>hd9,fun h=>absurd rfl h⟩,?_⟩) (Ap (by decide))
   ·simp only [AllLt];refine ⟨⟨⟨⟨⟨⟨⟨⟨⟨⟨⟨⟨⟨⟨trivial,?_⟩,?_⟩,?_⟩,?_⟩,?_⟩,?_⟩,?_⟩,?_⟩,?_⟩,?_⟩,?_⟩,?_⟩,?_⟩,?_⟩
    iterate 6
     ·first | exact fun _ x hx=>hx | exact Am (by kernel_rfl)
    iterate 2
     ·exact Am (by kernel_rfl)
    iterate 3
     ·first | exact fun _ x hx=>hx | exact Am (by kernel_rfl)
    ·exact fun _ x hx=>by obtain ⟨b',h1,h2,h3⟩:=hx;exact ⟨b',h1,h2,hm9.row h3 fun h=>h (HC0.out b' h2)⟩
    iterate 2
     ·first | exact fun _ x hx=>hx | exact Am (by kernel_rfl)
  ·refine Aa rfl ?_;intro bA K Q' hK;have e21:=apG (hG 7 21);obtain ⟨k,e,pg,a,c,e21,hz⟩:=e21;change ρ (.tmp 21)=_ at e21;simp only [execOp];go_simp;exact hK _ _ ⟨k,e,pg,a,c,rfl,hz⟩ (.inl ⟨by decide,Grew.refl _⟩) (Ap (by decide))
  ·refine Aa rfl ?_;intro bA K Q' hK;have e13:=apG (hG 8 13);obtain ⟨k,e,pg,a,c,e13,hz⟩:=e13;change ρ (.tmp 13)=_ at e13;simp only [execOp];go_simp;exact hK _ _ ⟨k,e,pg,a,c,rfl,hz⟩ (.inl ⟨by decide,Grew.refl _⟩) (Ap (by decide))
  ·refine Aa rfl ?_;intro bA K Q' hK;have e13:=apG (hG 8 13);obtain ⟨k,e,pg,a,c,e13,hz⟩:=e13;change ρ (.tmp 13)=_ at e13;simp only [execOp];go_simp;exact hK _ _ rfl (.inl ⟨by decide,Grew.refl _⟩) (Ap (by decide))
  ·refine Aa rfl ?_;intro bA K Q' hK;simp only [execOp];go_simp;exact hK _ _ ⟨_,rfl,by have:=hR.size;have:=HSZ.out;simp at *;omega,heap_alloc_new w5 _⟩ (.inl ⟨by decide,(Grew.refl _).alloc _⟩) (Ap (by decide))
  ·refine Aa rfl ?_;intro bA K Q' hK;have e6:=apG (hG 11 6);have e22:=apG (hG 9 22);obtain ⟨gz,e6,hgz,hrz⟩:=e6;change ρ (.tmp 6)=_ at e6;obtain ⟨k,e,pg,a,c,e22,hz⟩:=e22;change ρ (.tmp 22)=_ at e22;refine Hr 233 (.tmp 6) (.tmp 22) rfl gz #[.int .i64 k,.int .i64 e,.int .i64 pg,.slice a bs.length c] e6 e22 233 _ hrz (by kernel_rfl) rfl (by simp [Value.oneCell']) ?_;intro w3 hr3 hg3;have hm3:Mv (fun i=>i=gz) w5 w3:=Mv.of_grown hg3 fun j h _=>by cases h;rfl
   refine hK (.pointer (some ⟨gz,0,none⟩)) _ ⟨gz,k,e,pg,a,c,rfl,hgz,hr3,hz.overF hg3 hrz (by simp)⟩ (.inr ⟨hm3.sub (fun i _ h=>.inr (by rw [h];exact hgz)),⟨fun h=>absurd h (by decide),fun _=>⟨fun h=>h.keep hm3 fun i h=>by rw [h];exact HC0.out gz hgz,fun h=>h.keep hm3 fun i h=>by rw [h];exact HC0.out gz hgz⟩⟩,?_⟩) ?_
   ·simp only [AllLt];refine ⟨⟨⟨⟨⟨⟨⟨⟨⟨⟨⟨⟨⟨⟨trivial,?_⟩,?_⟩,?_⟩,?_⟩,?_⟩,?_⟩,?_⟩,?_⟩,?_⟩,?_⟩,?_⟩,?_⟩,?_⟩,?_⟩
    iterate 6
     ·first | exact fun _ x hx=>hx | exact Am (by kernel_rfl)
    iterate 2
     ·exact Am (by kernel_rfl)
    ·exact fun _ x hx=>by obtain ⟨k,e,pg,a,c,h1,h2⟩:=hx;exact ⟨k,e,pg,a,c,h1,h2.overF hg3 hrz (by simp)⟩
    ·exact Am (by kernel_rfl)
    ·first | exact fun _ x hx=>hx | exact Am (by kernel_rfl)
    iterate 2
     ·exact Am (by kernel_rfl)
    ·first | exact fun _ x hx=>hx | exact Am (by kernel_rfl)
   ·intro y hy hw;simp at hy;subst hy;exact e6
  ·refine Aa rfl ?_;intro bA K Q' hK;have e23:=apG (hG 10 23);change ρ (.tmp 23)=_ at e23;simp only [execOp];go_simp;exact hK _ _ rfl (.inl ⟨by decide,Grew.refl _⟩) (Ap (by decide))
 ·intro vv w5 hR hD5 hG hP;have hv13:vv 13=.int .i64 0:=hG.2 (by decide);obtain ⟨gz,k,e,pg,a,c,hv12,hgz,hrz,hbz⟩:=hG.1.2 (by decide);have hv11:vv 11=vv 12:=hP (11,12,6) (by simp);rw [hv12] at hv11;have HM5:Hid (Mv (fun b=>C b≠0) w w5):=hid (by
   refine (Mv.of_below (F:=fun b=>C b≠0) (HB0.out.drew)).trans' hR fun i hi h=>?_;rcases h with h | h
   ·exact h
   ·have:=HG.out;omega)
  have HX5:Hid (w5.heap[g+1]?=some (.cells #[.bool false,.slice none 0 0] 114 (0,0))):=hid (hR.row (g:=g+1) (o:=.cells #[.bool false,.slice none 0 0] 114 (0,0)) HX1.out fun h=>by rcases h with h | h;exact h HCG.out.2.1;omega);have HGZ:=hid hgz;have HBZ:=hid hbz;have HD5:=hid hD5;have hc3:w5.cell? ⟨gz,3,none⟩=some (.slice a bs.length c):=coR hrz;obtain ⟨L,hL⟩:∃ L,L=bs.length:=⟨_,rfl⟩
  have HL:=hid hL;obtain ⟨a',c',hsl,hs5,hlc5,hm5,hn5⟩:=hbz;simp only [Value.slice.injEq] at hsl;obtain ⟨rfl,-,rfl⟩:=hsl;have HDE:=hid (Oc _ a L c bs w5 hs5 hL ⟨by omega,hm5⟩ hn5 HBYT.out.1 (by rw [hL];exact HBYT.out.2));rw [HND.out.1,HND.out.2.1,HND.out.2.2] at HDE;have HS5:Hid (g+2<=w5.heap.size):=hid (by have:=hR.size;have:=HSZ.out;simp at *;omega);rw [<- hL] at hc3;simp [stG,stU,Au,Act.put,hv11,hv13];clear hv13 hv12 hv11 hG hP hR hD5 hgz hrz hL hs5 hlc5 hm5 hn5 HX0 HX1 HRD HCX HDV HB0 HTC
  go_wp2_with fail
  refine HDE.out.mono ?_;clear HDE hc3;rintro e w6 ⟨⟨v,rfl,hv⟩,hb6⟩;have HD6:=hid (HD5.out.below hb6);have HM6:Hid (Mv (fun b=>C b≠0) w w6):=hid (HM5.out.trans (Mv.of_below hb6));have HX6:=hid (Ac HX5.out hb6);obtain ⟨a7,n7,c7,rfl,hnd7,hne7⟩:=hv;obtain ⟨w7,hw7⟩:∃ w7,w7=w6.alloc (.cells #[.bool lf,.slice a7 n7 c7] 114):=⟨_,rfl⟩
  obtain ⟨g7,hg7⟩:∃ g7,g7=w6.heap.size:=⟨_,rfl⟩
  have HW7:=hid hw7;have HG7:=hid hg7;have hb7:Below w6.heap.size w6 w7:=by rw [hw7];exact Ad w6 _
  have hx7:w7.heap[g7]?=some (.cells #[.bool lf,.slice a7 n7 c7] 114 (0,0)):=by rw [hw7,hg7];exact heap_alloc_new w6 _
  have hl0:w7.cell? ⟨g7,0,none⟩=some (.bool lf):=coR hx7;have hl1:w7.cell? ⟨g7,1,none⟩=some (.slice a7 n7 c7):=coR hx7;have HD7:=hid (HD6.out.below hb7);have HM7:Hid (Mv (fun b=>C b≠0) w w7):=hid (HM6.out.trans (Mv.of_below hb7));have HX7:=hid (Ac HX6.out hb7);have HN7:=hid (And.intro (hnd7.below hb7) (hne7.below hb7));clear hb6 hw7 hg7 hb7 hx7 hnd7 hne7 HD5 HM5 HX5 HD6 HM6 HX6
  go_upto_region 9 with fail
  rw [<- HW7.out,<- HG7.out]
  go_wp2_with (refine Ae rfl 114 _ _ rfl (g+1) #[.bool lf,.slice a7 n7 c7] rfl rfl 114 _ HX7.out (by kernel_rfl) rfl (by simp [Value.oneCell']) ?_)
  intro w8 hr8 hg8;have hm8:Mv (fun i=>i=g+1) w7 w8:=Mv.of_grown hg8 fun j h _=>by cases h;rfl
  have HR8:=hid hr8;have HD8:=hid (HD7.out.keep hm8 fun i h=>by rw [h];exact HCG.out.2.1);have HM8:Hid (Mv (fun b=>C b≠0) w w8):=hid (HM7.out.trans' (hm8) fun i hi h=>by have:=HG.out;omega);have HN8:Hid (NdOk w8 a7 n7 c7 es/\EtT 65 w.heap.size w8 a7 es):=hid ⟨HN7.out.1.over2 hg8 HX7.out (fun z e=>by cases e),(HN7.out.2.apart hg8 HX7.out (by decide)).weaken (by have:=HS5.out;have:=HG.out;omega)⟩;clear hr8 hg8 hm8 HN7 HD7 HM7 HX7
  go_wp2_with fail
  exact bodyPost_ret (v:=.tuple #[.agg #[.bool lf,.slice a7 n7 c7],.int .i64 0]) (aP _ _ #[.bool lf,.slice a7 n7 c7] _ rfl HR8.out rfl) rfl ⟨⟨_,rfl,a7,n7,c7,rfl,HN8.out⟩,HD8.out,HM8.out⟩
end Go.Proofs.YtfhdojnobmfefaaGreatDoor
namespace Go.Inc
open Go Go.RowKit
def BO (ms:List Sm4):Nm:=match ms.getLast? with
 | none=>⟨true,none,0,[]⟩
 | some x=>x.nd
theorem Y4:BO []=⟨true,none,0,[]⟩:=rfl
theorem WN (ms:List Sm4) (x:Sm4):BO (ms++[x])=x.nd:=by unfold BO;rw [List.getLast?_append];rfl
theorem LC {E N B:Nat} {w:World} {v:Value} {ms:List Sm4} (h:WayM E N B w v ms):NmOk N B w (BO ms):=by
 unfold BO;cases hl:ms.getLast? with
 | none=>exact ⟨⟨rfl,.inl rfl,by decide,(fun e he=>by cases he),⟨Nat.le_refl _,Nat.zero_le _⟩,fun _=>rfl⟩,.inl rfl⟩
 | some x=>exact h.nds x (List.mem_of_getLast? hl)
theorem Ey:∀ ms:List Sm4,(BO ms).es=Fv (ms.map Sm4.stp)
 | []=>rfl
 | [x]=>rfl
 | x::y::r=>by
  have:=Ey (y::r);have e:BO (x::y::r)=BO (y::r):=by unfold BO;rw [List.getLast?_cons_cons]
  rw [e,this];rfl
def DnT (f:Nat->Option Nd) (k:Int) (root:Nat) (t:TrG) (ns:List Nat) (st:List Stp):Prop:=match t with
 | .nil=>st=[]
 | .mk D s=>Dn (vw f []) k D (root:Int) s (ns.map fun n:Nat=>(n:Int)) st
def gV:Value->Nat
 | .slice _ n _=>n
 | _=>0
theorem Ru {lf:Bool} {es:List Et} (h:AL lf es=0):Srt es/\∀ x∈es,okK x.1=true:=by
 obtain ⟨-,h2,h3,-⟩:=Ba h;exact ⟨srt_fall.1 h3,fun x hx=>Bj (badN_false.1 h2 x hx)⟩
end Go.Inc
namespace Go.Proofs.YtfhdojnobmfefaaGreatDoor
open Go.RowKit Go.Inc
theorem YO:(Tryz.prog.info? 174).map (fun i=>(i.zero,i.size,i.bytes))=some (some (.agg #[.int .i64 0,.int .i64 0,.bool false,.slice none 0 0]),4,48):=by kernel_rfl
theorem QH {S:St} {p:Nat} {lf:Bool} {es:List Et} (h:CJ S p=some (lf,es)):AL lf es=0:=by
 obtain ⟨-,h2,h3,h4⟩:=U0 h;by_cases hd:G9 (Ec (rd S p) (p:Int) [2]).b
 ·rw [<- h3,<- h4];unfold ndL ndS;rw [if_pos hd,if_pos hd];exact hd.2.2.2.2
 ·rw [UZ hd] at h2;exact absurd h2 (by decide)
theorem CwR.step {C:Nat->Nat} {w w':World} {tp gd pa pn n:Nat} {S:St} {root:Nat} {ep:Int} {t:TrG} {ns:List Nat} {b b':Nat} {r':Int} (h:CwR C w tp gd pa pn n S root ep t ns b) (hd:Dv C w' gd pn n {S with r:=r'}) (hm:Mv (fun b=>C b≠0) w w') (h0:0<=r') (h1:r'<=b') (hb:b<=b'):CwR C w' tp gd pa pn n {S with r:=r'} root ep t ns b':=
 ⟨hd,h.ctp,h.tc.mv hm fun hh=>hh h.ctp,h.ep1,h.on,h.arm,h.bytes,h.good,h.deep,h.cnt,h.is,h.pg,⟨by have:=h.bud;omega,h0,h1,h.bud.2.2.2.1,by have:=h.bud.2.2.2.2;show S.s<=_;omega⟩⟩
set_option maxRecDepth 20000 in
theorem Lu {E N B:Nat} {w:World} {v:Value} {ms:List Sm4} (h:WayM E N B w v ms) :
  Calls Tryz.prog 60 #[v] w fun e w'=>e=.returned (.agg #[.bool (BO ms).lf,.slice (BO ms).a (BO ms).es.length (BO ms).c])/\Below w.heap.size w w':=by
 obtain ⟨g,hg⟩:∃ g,g=w.heap.size:=⟨_,rfl⟩
 have HG:=hid hg;obtain ⟨w0,hw0⟩:∃ w0,w0=w.alloc (.cells #[.bool false,.slice none 0 0] 114):=⟨_,rfl⟩
 have HW:=hid hw0;have HB:Hid (Below w.heap.size w w0):=hid (by rw [hw0];exact Ad w _);have HX:Hid (w0.heap[g]?=some (.cells #[.bool false,.slice none 0 0] 114 (0,0))):=hid (by rw [hw0,hg];exact heap_alloc_new w _);rcases List.eq_nil_or_concat ms with rfl | ⟨l,x,rfl⟩
 ·obtain ⟨a,c,rfl,-,-,-⟩:=AO h.row;clear h hw0 hg;simp only [List.length_nil]
  go_enter Tryz.func60,Tryz.ntmps60
  go_upto_region 1 with fail
  rw [<- HW.out,<- HG.out]
  go_wp2_with (refine Ae rfl 114 _ _ rfl g #[.bool true,.slice none 0 0] rfl rfl 114 _ HX.out (by kernel_rfl) rfl (by simp [Value.oneCell']) ?_)
  intro w1 hr1 hg1;have HR1:=hid hr1;have HB1:Hid (Below w.heap.size w w1):=hid (HB.out.grown hg1 HB.out.size fun k hk=>by have:=HG.out;cases hk;omega);clear hr1 hg1
  go_wp2_with fail
  exact bodyPost_ret (v:=.agg #[.bool true,.slice none 0 0]) (results_cell_row rfl _ _ g 114 _ (0,0) _ rfl HR1.out Tryz.underlying114 rfl (by kernel_rfl)) rfl ⟨rfl,HB1.out⟩
 ·obtain ⟨gb,c,rfl,-,hlt,hlc,hmc,hcl⟩:=GM (WayM.below h HB.out).row KR (by simp);have hE:BO (l++[x])=x.nd:=WN l x;have hc2:=hcl l.length 2 x (.bool x.nd.lf) (by simp) rfl;have hc3:=hcl l.length 3 x (.slice x.nd.a x.nd.es.length x.nd.c) (by simp) rfl;rw [List.concat_eq_append] at *
  rw [hE];obtain ⟨L,hL⟩:∃ L,L=(l++[x]).length:=⟨_,rfl⟩
  obtain ⟨k,hk⟩:∃ k,k=l.length:=⟨_,rfl⟩
  rw [<- hL] at hlc ⊢;rw [<- hk] at hc2 hc3
  have hLk:(L:Int) - 1=(k:Int):=by have:L=k+1:=by rw [hL,hk];simp
                                   omega
  have hL0:(L=0)=False:=eq_false (by have:L=k+1:=by rw [hL,hk];simp
                                     omega)
  have hkl:(k:Int) < (L:Int):=by omega
  have hkM:(k:Int)<=9223372036854775807:=by unfold maxLen at hmc;omega
  have hLM:(L:Int)<=9223372036854775807:=by unfold maxLen at hmc;omega
  have HE:=hid hE;clear h hw0 hg hcl hL hk hE
  go_enter Tryz.func60,Tryz.ntmps60
  go_upto_region 1 with fail
  rw [<- HW.out,<- HG.out]
  go_wp2_with (refine Ae rfl 114 _ _ rfl g #[.bool x.nd.lf,.slice x.nd.a x.nd.es.length x.nd.c] rfl rfl 114 _ HX.out (by kernel_rfl) rfl (by simp [Value.oneCell']) ?_)
  intro w1 hr1 hg1;have HR1:=hid hr1;have HB1:Hid (Below w.heap.size w w1):=hid (HB.out.grown hg1 HB.out.size fun k hk=>by have:=HG.out;cases hk;omega);clear hr1 hg1
  go_wp2_with fail
  exact bodyPost_ret (v:=.agg #[.bool x.nd.lf,.slice x.nd.a x.nd.es.length x.nd.c]) (results_cell_row rfl _ _ g 114 _ (0,0) _ rfl HR1.out Tryz.underlying114 rfl (by kernel_rfl)) rfl ⟨rfl,HB1.out⟩
end Go.Proofs.YtfhdojnobmfefaaGreatDoor
namespace Go.Proofs.YtfhdojnobmfefaaGreatDoor
open Go.RowKit Go.Inc
set_option maxRecDepth 20000 in
set_option maxHeartbeats 4000000 in
theorem Zd {w:World} {tp gd pa:Nat} {ep:Int} (htc:TC w tp gd pa 0 ep) (s z:Int) :
  Calls Tryz.prog 104 #[.pointer (some ⟨tp,0,none⟩),.agg #[.int .i64 s,.int .i64 z]] w fun e w'=>e=.returned (.tuple #[.slice none 0 0,.int .i64 0])/\Below w.heap.size w w':=by
 obtain ⟨w0,hw0⟩:∃ w0,w0=w.alloc (.cells #[.int .i64 s,.int .i64 z] 42):=⟨_,rfl⟩
 have HW:=hid hw0;have HB:Hid (Below w.heap.size w w0):=hid (by rw [hw0];exact Ad w _);have h0:TC w0 tp gd pa 0 ep:=htc.mv (F:=fun _=>False) (Mv.of_below HB.out) id;have hc2:w0.cell? ⟨tp,2,none⟩=some (.int .i64 0):=coR h0;clear htc hw0 h0
 go_enter Tryz.func104,Tryz.ntmps104
 go_upto_region 1 with fail
 rw [<- HW.out]
 go_wp2_with fail
 go_step3
 go_wp2_with fail
 go_step3
 go_wp2_with fail
 go_loopw [6,7] (fun a b wr=>a=.slice none 0 0/\b=.int .i64 0/\wr=w0) (fun _ _ _=>0)
 case atStart=>exact ⟨rfl,rfl,rfl⟩
 case round=>
  obtain ⟨rfl,rfl,rfl⟩:=hrel
  go_wp2_with fail
  rw [Exit.noGoto_ret]
  go_ret2
  exact ⟨rfl,HB.out⟩
set_option maxRecDepth 20000 in
set_option maxHeartbeats 8000000 in
theorem dw {C:Nat->Nat} {w:World} {tp gd pa pn n:Nat} {S:St} {root:Nat} {ep:Int} {D0:Nat} {sh0:Sh D0} {ns:List Nat} {b:Nat} (h:CwR C w tp gd pa pn n S root ep (.mk D0 sh0) ns b) (hb:b<=900000) (s z:Int) (hk:okK (s,z)=true) :
  Calls Tryz.prog 104 #[.pointer (some ⟨tp,0,none⟩),.agg #[.int .i64 s,.int .i64 z]] w fun e w'=>∃ v ms,e=.returned (.tuple #[v,.int .i64 0])/\WayM 174 65 w.heap.size w' v ms/\Dn (vw (CJ S) []) (plK (s,z)) D0 (root:Int) sh0 (ns.map fun n:Nat=>(n:Int)) (ms.map Sm4.stp)/\(∃ r',CwR C w' tp gd pa pn n {S with r:=r'} root ep (.mk D0 sh0) ns (b+8))/\Mv (fun i=>C i≠0) w w':=by
 obtain ⟨i0,hi,hz0,hz1,hz2⟩:=info_parts YO;have HI:=hid (And.intro hi (And.intro hz0 (And.intro hz1 hz2)));have HR:=hid h;obtain ⟨w0,hw0⟩:∃ w0,w0=w.alloc (.cells #[.int .i64 s,.int .i64 z] 42):=⟨_,rfl⟩
 obtain ⟨g,hg⟩:∃ g,g=w.heap.size:=⟨_,rfl⟩
 have HW:=hid hw0;have HG:=hid hg;have HB:Hid (Below w.heap.size w w0):=hid (by rw [hw0];exact Ad w _);have HX:Hid (w0.heap[g]?=some (.cells #[.int .i64 s,.int .i64 z] 42 (0,0))):=hid (by rw [hw0,hg];exact heap_alloc_new w _);have h0:TC w0 tp gd pa root ep:=h.tc.mv (F:=fun _=>False) (Mv.of_below HB.out) id;have hc2:w0.cell? ⟨tp,2,none⟩=some (.int .i64 (root:Int)):=coR h0;have HCG:Hid (C g=0):=hid (h.dv.new (by omega));have HD0:Hid (Dv C w0 gd pn n {S with r:=S.r}):=hid (h.dv.below HB.out);have HK:=hid hk;have HBB:=hid hb;clear h hw0 hg h0 hk hb hi hz0 hz1 hz2
 go_enter Tryz.func104,Tryz.ntmps104
 go_upto_region 1 with fail
 rw [<- HW.out,<- HG.out];clear HW
 go_wp2_with fail
 go_step3
 go_wp2_with fail
 go_step3
 go_wp2_with fail
 clear hc2
 go_loopw [6,7] (fun va vb wr=>∃ (ms:List Sm4) (D:Nat) (sh:Sh D) (p:Int) (zs:List Int) (r':Int),vb=.int .i64 p/\WayM 174 65 (g+1) wr va ms/\IsZ (vw (CJ S) []) D p sh zs/\okS D sh/\ms.length+D=D0/\(∀ r,Dn (vw (CJ S) []) (plK (s,z)) D p sh zs r->Dn (vw (CJ S) []) (plK (s,z)) D0 (root:Int) sh0 (ns.map fun n:Nat=>(n:Int)) (ms.map Sm4.stp++r))/\(∀ x∈zs,2<=x/\x < (pn:Int))/\Dv C wr gd pn n {S with r:=r'}/\S.r<=r'/\r'<=S.r+(ms.length:Int)/\Mv (fun i=>C i≠0) w wr/\wr.heap[g]?=some (.cells #[.int .i64 s,.int .i64 z] 42 (0,0))/\g+1<=wr.heap.size) (fun va _ _=>9 - gV va)
 case atStart=>
  refine ⟨[],D0,sh0,(root:Int),_,S.r,rfl,⟨World.ownsRow_nil _ _ _ _,fun m hm=>by cases hm⟩,IsZ.of_N HR.out.is,HR.out.good.1,by simp,fun r hr=>hr,fun x hx=>?_,HD0.out,Int.le_refl _,by simp,Mv.of_below HB.out,HX.out,by have:=Aj HX.out;omega⟩;obtain ⟨q,hq,rfl⟩:=List.mem_map.1 hx;have:=HR.out.pg q hq;omega
 case round=>
  obtain ⟨ms,D,sh,p,zs,r',rfl,hway,his,hok,hlen,hcont,hpg,hdv,hr1,hr2,hmv,hxr,hgs⟩:=hrel;have hdeep:=HR.out.deep;have hD8:D0+1<=8:=hdeep;obtain ⟨pq,rfl⟩:∃ q:Nat,p=(q:Int):=⟨p.toNat,by have:=hpg p his.head;omega⟩
  have hpp:=hpg _ his.head;obtain ⟨a0,c0,rfl,-,hlc,hmc⟩:=AO hway.row;obtain ⟨L,hL⟩:∃ L,L=ms.length:=⟨_,rfl⟩
  have HL:=hid hL;have hL8:(L:Int)<=7:=by omega
  have htc:TC wr tp gd pa root ep:=HR.out.tc.mv hmv fun hh=>hh HR.out.ctp;have hbud:=HR.out.bud;obtain ⟨lf,es,hvp,hes16,hleaf,habove⟩:=dB (k:=plK (s,z)) his hok;have hnd:CJ S pq=some (lf,es):=by rw [Hq (by omega)] at hvp;simpa using hvp
  have HN:=hid (EM (w:=wr) hdv htc HR.out.ctp HR.out.on (by have:=HBB.out;omega) (show r'<=1000000 by have:=HBB.out;omega) pq ((L:Int)+1) (by omega) (by omega) (HR.out.bytes pq (by omega)) lf es hnd);have HCK:=hid (QH hnd);have HLF:=hid hleaf;have HAB:=hid habove;have HE16:=hid hes16;have HWAY:=hid hway;have HLEN:=hid hlen;have HCONT:=hid hcont;have HPG:=hid hpg;have HRR:=hid (And.intro hr1 hr2);have HMV:=hid hmv;have HXR:=hid hxr;have HGS:=hid hgs;have hpne:((pq:Int) != 0)=true:=by rw [bne_iff_ne];omega
  have hpne2:(pq=0)=False:=eq_false (by omega);rw [<- hL];clear hdeep hpp hlc hmc hL htc hbud hway his hok hlen hcont hpg hdv hr1 hr2 hmv hxr hgs hleaf habove hvp hnd hes16
  go_wp2_with fail
  refine HN.out.mono ?_;clear HN;rintro e w1 ⟨⟨v,rfl,a1,n1,c1,rfl,hok1,hnew1⟩,hdv1,hmv1⟩;have hn1:n1=es.length:=hok1.1;obtain ⟨w2,hw2⟩:∃ w2,w2=w1.alloc (.cells #[.bool lf,.slice a1 n1 c1] 114):=⟨_,rfl⟩
  obtain ⟨g2,hg2⟩:∃ g2,g2=w1.heap.size:=⟨_,rfl⟩
  have HW2:=hid hw2;have HG2:=hid hg2;have hb2:Below w1.heap.size w1 w2:=by rw [hw2];exact Ad w1 _
  have HX2:Hid (w2.heap[g2]?=some (.cells #[.bool lf,.slice a1 n1 c1] 114 (0,0))):=hid (by rw [hw2,hg2];exact heap_alloc_new w1 _);have HXK2:Hid (w2.heap[g]?=some (.cells #[.int .i64 s,.int .i64 z] 42 (0,0))):=hid (Ac (hmv1.row HXR.out fun hh=>hh HCG.out) hb2);have HDV2:=hid (hdv1.below hb2);have hmv2:Mv (fun i=>C i≠0) wr w2:=hmv1.trans (Mv.of_below hb2);have HMV2:=hid hmv2;have HWAY2:=hid (HWAY.out.mv hmv2 fun i hi hlt=>by
   rcases Nat.lt_or_ge i (g+1) with h' | h'
   ·exact h'
   ·exact absurd (HR.out.dv.new (by have:=HG.out;omega)) hi)
  have HNW2:Hid (NmOk 65 wr.heap.size w2 ⟨lf,a1,c1,es⟩):=hid ⟨by rw [<- hn1];exact hok1.below hb2,hnew1.below hb2⟩;have HCH:=hid (Xe a1 n1 c1 lf es s z w2 (hok1.below hb2) HCK.out HK.out);have hk0:w2.cell? ⟨g,0,none⟩=some (.int .i64 s):=coR HXK2.out;have hk1:w2.cell? ⟨g,1,none⟩=some (.int .i64 z):=coR HXK2.out;have hl0:w2.cell? ⟨g2,0,none⟩=some (.bool lf):=coR HX2.out;have hl1:w2.cell? ⟨g2,1,none⟩=some (.slice a1 n1 c1):=coR HX2.out;have HN1:=hid hn1;clear hw2 hg2 hb2 hmv2 hok1 hnew1 hdv1 hmv1 HWAY HXR hn1
  go_upto_region 7 with fail
  rw [<- HW2.out,<- HG2.out];clear HW2
  go_wp2_with fail
  refine HCH.out.mono ?_;clear HCH hk0 hk1 hl0 hl1;rintro e w3 ⟨⟨ix,rfl,hix⟩,hb3⟩;generalize (if lf=true then (11:Int) else 0)=er;have HX3:=hid (Ac HX2.out hb3);have HXK3:=hid (Ac HXK2.out hb3);have HDV3:=hid (HDV2.out.below hb3);have HMV3:Hid (Mv (fun i=>C i≠0) wr w3):=hid (HMV2.out.trans (Mv.of_below hb3));have HWAY3:=hid (HWAY2.out.below hb3);have HNW3:=hid (HNW2.out.below hb3);have HS3:Hid (w2.heap.size<=w3.heap.size):=hid hb3.size;have hl0:w3.cell? ⟨g2,0,none⟩=some (.bool lf):=coR HX3.out;have hl1:w3.cell? ⟨g2,1,none⟩=some (.slice a1 n1 c1):=coR HX3.out;have HIX:=hid hix;have HRW:=hid HWAY3.out.row;have hL9:L<=7:=by omega
  have HLL:=hid HL.out;rw [<- HL.out] at HRW;clear hb3 hix HX2 HXK2 HDV2 HMV2 HWAY2 HNW2
  go_wp2_with (refine wpList_append_own _ rfl (.tmp 37) (.tmp 42) 115 rfl (g+1) 174 i0 (.agg #[.int .i64 0,.int .i64 0,.bool false,.slice none 0 0]) 4 48 Tryz.underlying115 HI.out.1 HI.out.2.1 HI.out.2.2.1 HI.out.2.2.2 rfl (by decide) _ L _ rfl (HRW.out.alloc _) ⟨w3.heap.size,0,none⟩ 1 1 (EG ⟨(pq:Int),ix,⟨lf,a1,c1,es⟩⟩) rfl rfl (fun j u hu=>by have h:=Gx w3 (EG ⟨(pq:Int),ix,⟨lf,a1,c1,es⟩⟩) 174 j u hu;simpa [EG,<- HN1.out] using h) (by simp [EG,Value.oneCell']) (by unfold maxLen;omega) (by omega) (by have:=HGS.out;have:=HMV3.out.size;simp;omega) ?_)
  intro v4 w4 hr4 hg4 _;obtain ⟨wb,hwb⟩:∃ wb,wb=w3.alloc (.cells #[.int .i64 (pq:Int),.int .i64 ix,.bool lf,.slice a1 n1 c1] 174):=⟨_,rfl⟩
  rw [<- hwb] at hg4;have hbb:Below w3.heap.size w3 wb:=by rw [hwb];exact Ad w3 _
  have hwbs:wb.heap.size=w3.heap.size+1:=by rw [hwb];simp
  have hrwb:wb.ownsRow (g+1) 174 4 (.slice a0 L c0) L (cl EG ms):=by rw [hwb];exact HRW.out.alloc _
  have hob:=AB HRW.out;have hm4:Mv (fun i=>g+1<=i) w3 w4:=(Mv.of_below (F:=fun i=>g+1<=i) hbb).trans' (Mv.of_grown (F:=fun i=>g+1<=i) hg4 (fun j hj _=>hob j hj)) fun i _ h=>h;have hxne:∀ (i:Nat) (cs:Array Value) (T:TypeId),T≠174->w3.heap[i]?=some (.cells cs T (0,0))->w4.heap[i]?=some (.cells cs T (0,0)):=fun i cs T hT hi=>(Pq hrwb hg4 (Ac hi hbb) (Ne.symm hT)).trans (Ac hi hbb);have HX4:=hid (hxne _ _ _ (by decide) HX3.out);have HXK4:=hid (hxne _ _ _ (by decide) HXK3.out);have HDV4:=hid (HDV3.out.keep hm4 fun i hi=>HR.out.dv.new (by have:=HG.out;omega));have HMV4:Hid (Mv (fun i=>C i≠0) w w4):=hid ((HMV.out.trans HMV3.out).trans' hm4 fun i hi h=>by have:=HG.out;omega);have hnm4:∀ m:Nm,NmOk 65 (g+1) w3 m->NmOk 65 (g+1) w4 m:=fun m hm=>(hm.below hbb).keep fun b cs _ h2=>Pq hrwb hg4 h2 (by decide);have HWAY4:Hid (WayM 174 65 (g+1) w4 v4 (ms++[⟨(pq:Int),ix,⟨lf,a1,c1,es⟩⟩])):=hid (by
   refine ⟨?_,fun m hm=>?_⟩
   ·rw [NE,Ui,List.length_append,<- HLL.out];exact hr4
   ·rcases List.mem_append.1 hm with hm | hm
    ·exact hnm4 _ (HWAY3.out.nds m hm)
    ·rw [List.mem_singleton] at hm;subst hm;exact hnm4 _ (HNW3.out.weaken HGS.out))
  have hl0:w4.cell? ⟨g2,0,none⟩=some (.bool lf):=coR HX4.out;have hl1:w4.cell? ⟨g2,1,none⟩=some (.slice a1 n1 c1):=coR HX4.out;clear hwb hg4 hbb hwbs hrwb hob hm4 hxne hnm4 hr4 HX3 HXK3 HDV3 HMV3 HWAY3 HNW3 HS3 HMV;cases lf with
  | true=>
   have HDN:=hid (HCONT.out _ (HLF.out rfl ix))
   go_wp2_with fail
   go_ret2
   refine ⟨v4,_,rfl,HWAY4.out.weaken (by have:=HG.out;omega),?_,⟨r'+1,HR.out.step HDV4.out HMV4.out ?_ ?_ (by omega)⟩,HMV4.out⟩
   ·rw [List.map_append];exact HDN.out
   ·have:=HR.out.bud;have:=HRR.out;omega
   ·have:=HR.out.bud;have:=HRR.out;have:=HL.out;omega
  | false=>
   obtain ⟨D',c',q,hD,hlt,hqp,hisq,hokq,hsub,hcont'⟩:=HAB.out rfl;have hi:=HIX.out rfl;have hce:Gf es (s,z)=chE es (plK (s,z)):=NG HK.out (Ru HCK.out).1 (Ru HCK.out).2;rw [hce] at hi;obtain ⟨k,hkk⟩:∃ k,k=chE es (plK (s,z)):=⟨_,rfl⟩
   rw [<- hkk] at hi hlt hqp hcont';subst hi;have hcell:∃ bq oq,a1=some ⟨bq,oq,none⟩/\w4.cell? ⟨bq,oq+k * 3+2,none⟩=some (.int .i64 q.1):=by
    have h:=HWAY4.out.nds ⟨(pq:Int),(k:Int),⟨false,a1,c1,es⟩⟩ (by simp);rcases h.2 with h0 | ⟨bq,oq,e1,-,e2⟩
    ·rw [show es=[] from h0] at hlt;cases hlt
    ·exact ⟨bq,oq,e1,by rw [(e2 k hlt).2.2,hqp]⟩
   obtain ⟨bq,oq,rfl,hcq⟩:=hcell;have hkn:(k:Int) < (n1:Int):=by have:=HN1.out;omega
   have hnn:(n1:Int)<=16:=by have:=HN1.out;have:=HE16.out;omega
   have hHC:=hid hcont';clear hlt hqp hkk hce hcont'
   go_wp2_with fail
   go_roundw
   case rel=>
    refine ⟨_,D',c',q.1,q.2,r'+1,rfl,HWAY4.out,hisq,hokq,?_,fun r hr=>?_,fun x hx=>HPG.out x (hsub x hx),HDV4.out,by have:=HRR.out;omega,by have:=HRR.out;have:=HL.out;simp;omega,HMV4.out,HXK4.out,by have:=Aj HXK4.out;omega⟩
    ·have:=HLEN.out;simp;omega
    ·have h:=HCONT.out _ (hHC.out r hr);rw [List.map_append,List.append_assoc];exact h
   case measure=>
    obtain ⟨a4,c4,h4,-⟩:=AO HWAY4.out.row;rw [h4];simp [gV];have:=HL.out;omega
theorem Ze {C:Nat->Nat} {w:World} {tp gd pa pn n:Nat} {S:St} {root:Nat} {ep:Int} {t:TrG} {ns:List Nat} {b:Nat} (h:CwR C w tp gd pa pn n S root ep t ns b) (hb:b<=900000) (s z:Int) (hk:okK (s,z)=true) :
  Calls Tryz.prog 104 #[.pointer (some ⟨tp,0,none⟩),.agg #[.int .i64 s,.int .i64 z]] w fun e w'=>∃ v ms,e=.returned (.tuple #[v,.int .i64 0])/\WayM 174 65 w.heap.size w' v ms/\DnT (CJ S) (plK (s,z)) root t ns (ms.map Sm4.stp)/\(∃ r',CwR C w' tp gd pa pn n {S with r:=r'} root ep t ns (b+8))/\Mv (fun i=>C i≠0) w w':=by
 cases t with
 | nil=>
  have hr:root=0:=h.is.1;subst hr;refine (Zd h.tc s z).mono ?_;rintro e w' ⟨rfl,hb'⟩;have hbud:=h.bud;exact ⟨_,[],rfl,⟨World.ownsRow_nil _ _ _ _,fun m hm=>by cases hm⟩,rfl,⟨S.r,h.step (r':=S.r) (h.dv.below hb') (Mv.of_below hb') (by omega) (by omega) (by omega)⟩,Mv.of_below hb'⟩
 | mk D sh=>exact dw h hb s z hk
end Go.Proofs.YtfhdojnobmfefaaGreatDoor
namespace Go.Inc
open Go Go.RowKit
theorem Qz {es:List Et} {k:Ky} (h:∀ x∈es,x.1≠k):pgK es k=0:=by
 have key:∀ n,n<=es.length->MX es k n=0:=by
  intro n
  induction n with
  | zero=>intro _;rfl
  | succ n ih=>
   intro hn;rw [Jm,if_neg (h _ (CX (d:=et0) (by omega)))];exact ih (by omega)
 exact key _ (Nat.le_refl _)
theorem aY {es:List Et} {k:Ky} {y:Et} (hy:y∈es) (hk:y.1=k) (h:∀ x∈es,x.1=k->x=y):pgK es k=y.2:=by
 have key:∀ n,n<=es.length->(MX es k n=y.2\/∀ i,i < n->es.getD i et0≠y):=by
  intro n
  induction n with
  | zero=>intro _;exact .inr fun i hi=>by omega
  | succ n ih=>
   intro hn;rw [Jm];by_cases e:(es.getD n et0).1=k
   ·rw [if_pos e,h _ (CX (d:=et0) (by omega)) e];exact .inl rfl
   ·rw [if_neg e];rcases ih (by omega) with h1 | h1
    ·exact .inl h1
    ·refine .inr fun i hi=>?_;by_cases hin:i=n
     ·subst hin;intro e';rw [e'] at e;exact e hk
     ·exact h1 i (by omega)
 rcases key _ (Nat.le_refl _) with h1 | h1
 ·exact h1
 ·obtain ⟨i,hi,e⟩:=List.mem_iff_getElem.1 hy;exact absurd (by rw [List.getD_eq_getElem?_getD,List.getElem?_eq_getElem hi];exact e) (h1 i hi)
theorem TU {v:Int->Option Nd} {k:Int}:∀ {D:Nat} {p:Int} {sh:Sh D} {zs:List Int} {st:List Stp},Dn v k D p sh zs st->okS D sh->Srt (enS D sh)->∃ A B,enS D sh=A++(Fv st++B)/\(∀ x∈A,plK x.1 < k)/\(∀ x∈B,k < plK x.1)
 | 0,p,es,zs,st,⟨a,_,_,h⟩,_,_=>by
  rw [h];exact ⟨[],[],by show es=[]++(es++[]);simp,(fun x hx=>by cases hx),fun x hx=>by cases hx⟩
 | D+1,p,cs,zs,st,h,hok,hs=>by
  obtain ⟨X,c,Y,lX,q,lY,r,hcs,_,_,_,_,hX,hr,rfl⟩:=h;obtain ⟨X',c',Y',hcs',hX',hlo,hhi,-⟩:=IZ (D:=D) (k:=k) (cs:=cs) hok.1 hok.2.2 hs;have e1:X=X'/\c::Y=c'::Y':=List.append_inj (hcs.symm.trans hcs') (by rw [hX,hX']);obtain ⟨rfl,e2⟩:=e1;simp only [List.cons.injEq] at e2;obtain ⟨rfl,rfl⟩:=e2;have hs2:=hs;rw [hcs,JP] at hs2;obtain ⟨-,s2,-⟩:=JA hs2;obtain ⟨A,B,h1,h2,h3⟩:=TU hr (hok.2.2 c (by rw [hcs];simp)) s2;refine ⟨enL D X++A,B++enL D Y,?_,fun x hx=>?_,fun x hx=>?_⟩
  ·rw [IU (Dn.ne hr),hcs,JP,h1];simp only [List.append_assoc]
  ·rcases List.mem_append.1 hx with hx | hx
   ·exact hlo x hx
   ·exact h2 x hx
  ·rcases List.mem_append.1 hx with hx | hx
   ·exact h3 x hx
   ·exact hhi x hx
theorem SH {A es B:List Et} {k:Ky} (hk:okK k=true) (hs:Srt (A++(es++B))) (hok:∀ x∈A++(es++B),okE x=true) (hA:∀ x∈A,plK x.1 < plK k) (hB:∀ x∈B,plK k < plK x.1) :
  (inK es k=true->pgK (A++(es++B)) k=(es.getD (atK es k) et0).2/\pgK (A++(es++B)) k≠0)/\(inK es k=false->pgK (A++(es++B)) k=0):=by
 have hse:=(JA hs).2.1;have hoke:∀ x∈es,okE x=true:=fun x hx=>hok x (by simp [hx]);constructor
 ·intro hin;obtain ⟨h1,h2⟩:=Ij hin;have hm:es.getD (atK es k) et0∈es:=CX h1;have hpg:=aY (es:=A++(es++B)) (k:=k) (y:=es.getD (atK es k) et0) (List.mem_append_right _ (List.mem_append_left _ hm)) h2 fun x hx e=>by
   rcases List.mem_append.1 hx with hx | hx
   ·have:=hA x hx;rw [e] at this;omega
   ·rcases List.mem_append.1 hx with hx | hx
    ·obtain ⟨i,hi,rfl⟩:=List.mem_iff_getElem.1 hx;by_cases h3:i=atK es k
     ·subst h3;rw [List.getD_eq_getElem?_getD,List.getElem?_eq_getElem hi];rfl
     ·exfalso;have h4:=List.pairwise_iff_getElem.1 hse;have h5:(es.getD (atK es k) et0)=es[atK es k]:=by rw [List.getD_eq_getElem?_getD,List.getElem?_eq_getElem h1];rfl
      rw [h5] at h2;rcases Nat.lt_or_gt_of_ne h3 with h6 | h6
      ·have:=h4 i (atK es k) hi h1 h6;rw [e,h2] at this;omega
      ·have:=h4 (atK es k) i h1 hi h6;rw [e,h2] at this;omega
    ·have:=hB x hx;rw [e] at this;omega
  refine ⟨hpg,?_⟩;rw [hpg];have:=(okE_iff.1 (hoke _ hm)).2.1;omega
 ·intro hin;refine Qz fun x hx e=>?_;rcases List.mem_append.1 hx with hx | hx
  ·have:=hA x hx;rw [e] at this;omega
  ·rcases List.mem_append.1 hx with hx | hx
   ·have:=(PP hk hse hoke).2 ⟨x,hx,by rw [e]⟩;rw [hin] at this;cases this
   ·have:=hB x hx;rw [e] at this;omega
theorem OU {f:Nat->Option Nd} {k:Ky} {root:Nat} {t:TrG} {ns:List Nat} {st:List Stp} (h:DnT f (plK k) root t ns st) (hg:t.good) (hk:okK k=true) :
  (inK (Fv st) k=true->pgK t.en k=((Fv st).getD (atK (Fv st) k) et0).2/\pgK t.en k≠0)/\(inK (Fv st) k=false->pgK t.en k=0):=by
 cases t with
 | nil=>
  have h':st=[]:=h;subst h';exact ⟨fun h=>by simp [Fv,inK,atK] at h,fun _=>rfl⟩
 | mk D sh=>
  obtain ⟨h1,h2,h3⟩:=hg;obtain ⟨A,B,e,hA,hB⟩:=TU h h1 h2;have e':TrG.en (.mk D sh)=A++(Fv st++B):=e;rw [e'] at h2 h3 ⊢;exact SH hk h2 h3 hA hB
theorem OV {v:Int->Option Nd} {k:Int}:∀ {D:Nat} {p:Int} {s:Sh D} {zs:List Int} {st:List Stp},Dn v k D p s zs st->okS D s->Fv st≠[]/\(Fv st).length<=16
 | 0,p,es,zs,st,⟨a,_,_,h⟩,hok=>by rw [h];exact ⟨hok.1,hok.2⟩
 | D+1,p,cs,zs,st,h,hok=>by
  obtain ⟨X,c,Y,lX,q,lY,r,rfl,_,_,_,_,_,hr,rfl⟩:=h;rw [IU (Dn.ne hr)];exact OV hr (hok.2.2 c (by simp))
theorem Ny {f:Nat->Option Nd} {k:Int} {root:Nat} {t:TrG} {ns:List Nat} {st:List Stp} (h:DnT f k root t ns st) (hg:t.good):Srt (Fv st)/\(∀ x∈Fv st,okE x=true)/\(Fv st).length<=16:=by
 cases t with
 | nil=>
  have h':st=[]:=h;subst h';exact ⟨List.Pairwise.nil,(fun x hx=>by cases hx),Nat.zero_le _⟩
 | mk D sh=>
  obtain ⟨h1,h2,h3⟩:=hg;obtain ⟨A,B,e,hA,hB⟩:=TU h h1 h2;have e':TrG.en (.mk D sh)=A++(Fv st++B):=e;rw [e'] at h2 h3;refine ⟨(JA h2).2.1,fun x hx=>h3 x (by simp [hx]),?_⟩;exact (OV h h1).2
end Go.Inc
namespace Go.Proofs.YtfhdojnobmfefaaGreatDoor
open Go.RowKit Go.Inc
theorem Qk {w:World} {tp gd pa:Nat} {r ep:Int} (htc:TC w tp gd pa r ep) (s z:Int) (hk:okK (s,z)=false):Calls Tryz.prog 57 #[.pointer (some ⟨tp,0,none⟩),.agg #[.int .i64 s,.int .i64 z]] w fun e w'=>e=.returned (.tuple #[.slice none 0 0,.int .i64 0,.int .i64 10])/\Below w.heap.size w w':=by
 obtain ⟨g,hg⟩:∃ g,g=w.heap.size:=⟨_,rfl⟩
 obtain ⟨w0,hw0⟩:∃ w0,w0=w.alloc (.cells #[.int .i64 s,.int .i64 z] 42):=⟨_,rfl⟩
 have HW:=hid hw0;have HG:=hid hg;have HB:Hid (Below w.heap.size w w0):=hid (by rw [hw0];exact Ad w _);have hx:w0.heap[g]?=some (.cells #[.int .i64 s,.int .i64 z] 42 (0,0)):=by rw [hw0,hg];exact heap_alloc_new w _
 have hk0:w0.cell? ⟨g,0,none⟩=some (.int .i64 s):=coR hx;have hk1:w0.cell? ⟨g,1,none⟩=some (.int .i64 z):=coR hx;have HN:=hid (Eu (htc.mv (F:=fun _=>False) (Mv.of_below HB.out) id));have HRT:=hid (Gj s z w0);rw [hk] at HRT;clear hw0 hg htc hx hk
 go_enter Tryz.func57,Tryz.ntmps57
 go_upto_region 1 with fail
 rw [<- HW.out,<- HG.out]
 go_wp2_with fail
 refine HN.out.mono ?_;rintro e w1 ⟨rfl,rfl⟩
 go_wp2_with fail
 refine HRT.out.mono ?_;rintro e w2 ⟨rfl,hb2⟩;have HB2:Hid (Below w.heap.size w w2):=hid (HB.out.trans (hb2.mono HB.out.size));clear hb2
 go_wp2_with fail
 go_ret3
 exact ⟨rfl,HB2.out⟩
structure SkA (C:Nat->Nat) (w:World) (tp gd pa pn n:Nat) (S:St) (root:Nat) (ep:Int) (t:TrG) (ns:List Nat) (b:Nat) (s z:Int) (v:Value) (ms:List Sm4) (had er:Int) (w':World):Prop where
 way:WayM 174 65 w.heap.size w' v ms
 dn:DnT (CJ S) (plK (s,z)) root t ns (ms.map Sm4.stp)
 yes:pgK t.en (s,z)≠0->er=0/\had=pgK t.en (s,z)
 no:pgK t.en (s,z)=0->er=7/\had=0
 rd:∃ r',CwR C w' tp gd pa pn n {S with r:=r'} root ep t ns (b+8)
 mv:Mv (fun i=>C i≠0) w w'
set_option maxRecDepth 20000 in
set_option maxHeartbeats 4000000 in
theorem Jq {C:Nat->Nat} {w:World} {tp gd pa pn n:Nat} {S:St} {root:Nat} {ep:Int} {t:TrG} {ns:List Nat} {b:Nat} (h:CwR C w tp gd pa pn n S root ep t ns b) (hb:b<=900000) (s z:Int) (hk:okK (s,z)=true) :
  Calls Tryz.prog 57 #[.pointer (some ⟨tp,0,none⟩),.agg #[.int .i64 s,.int .i64 z]] w fun e w'=>∃ v ms had er,e=.returned (.tuple #[v,.int .i64 had,.int .i64 er])/\SkA C w tp gd pa pn n S root ep t ns b s z v ms had er w':=by
 obtain ⟨g,hg⟩:∃ g,g=w.heap.size:=⟨_,rfl⟩
 obtain ⟨w0,hw0⟩:∃ w0,w0=w.alloc (.cells #[.int .i64 s,.int .i64 z] 42):=⟨_,rfl⟩
 have HW:=hid hw0;have HG:=hid hg;have HB:Hid (Below w.heap.size w w0):=hid (by rw [hw0];exact Ad w _);have HX:Hid (w0.heap[g]?=some (.cells #[.int .i64 s,.int .i64 z] 42 (0,0))):=hid (by rw [hw0,hg];exact heap_alloc_new w _);have hk0:w0.cell? ⟨g,0,none⟩=some (.int .i64 s):=coR HX.out;have hk1:w0.cell? ⟨g,1,none⟩=some (.int .i64 z):=coR HX.out;have HR0:=hid (h.below HB.out);have HN:=hid (Eu HR0.out.tc);have HRT:=hid (Gj s z w0);rw [hk] at HRT;have HCG:Hid (C g=0):=hid (h.dv.new (by omega));have HGOOD:=hid h.good;have HK:=hid hk;have HBB:=hid hb;clear hw0 hg h hk hb
 go_enter Tryz.func57,Tryz.ntmps57
 go_upto_region 1 with fail
 rw [<- HW.out,<- HG.out];clear HW
 go_wp2_with fail
 refine HN.out.mono ?_;rintro e w1 ⟨rfl,rfl⟩
 go_wp2_with fail
 refine HRT.out.mono ?_;rintro e w2 ⟨rfl,hb2⟩;have HR2:=hid (HR0.out.below hb2);have hx2:=Ac HX.out hb2;have HX2:=hid hx2;have HB2:Hid (Below w.heap.size w w2):=hid (HB.out.trans (hb2.mono HB.out.size));have HDO:=hid (Ze HR2.out HBB.out s z HK.out);clear hk0 hk1 hb2 HR0 HX HN HRT;have hk0:w2.cell? ⟨g,0,none⟩=some (.int .i64 s):=coR hx2;have hk1:w2.cell? ⟨g,1,none⟩=some (.int .i64 z):=coR hx2;clear hx2
 go_wp2_with fail
 refine HDO.out.mono ?_;clear HDO hk0 hk1;rintro e w3 ⟨v,ms,rfl,hway,hdn,⟨r',hr'⟩,hm3⟩;have HWAY:=hid hway;have HDN:=hid hdn;have HR3:=hid hr';have HM3:=hid hm3;have HX3:=hid (hm3.row HX2.out fun hh=>hh HCG.out);have HE:=hid (Lu hway);clear hway hdn hr' hm3 HX2
 go_wp2_with fail
 refine HE.out.mono ?_;clear HE;rintro e w4 ⟨rfl,hb4⟩;obtain ⟨nl,hnl⟩:∃ nl,nl=(BO ms).es.length:=⟨_,rfl⟩
 obtain ⟨nd,hnd⟩:∃ nd,nd=BO ms:=⟨_,rfl⟩
 rw [<- hnd] at hnl ⊢;rw [<- hnl];obtain ⟨w5,hw5⟩:∃ w5,w5=w4.alloc (.cells #[.bool nd.lf,.slice nd.a nl nd.c] 114):=⟨_,rfl⟩
 obtain ⟨g5,hg5⟩:∃ g5,g5=w4.heap.size:=⟨_,rfl⟩
 have HW5:=hid hw5;have HG5:=hid hg5;have hb5:Below w4.heap.size w4 w5:=by rw [hw5];exact Ad w4 _
 have hb35:Below w3.heap.size w3 w5:=hb4.trans (hb5.mono hb4.size);have hx5:w5.heap[g5]?=some (.cells #[.bool nd.lf,.slice nd.a nl nd.c] 114 (0,0)):=by rw [hw5,hg5];exact heap_alloc_new w4 _
 have hxk5:=Ac HX3.out hb35;have HWAY5:=hid (HWAY.out.below hb35);have HR5:=hid (HR3.out.below hb35);have HM5:Hid (Mv (fun i=>C i≠0) w w5):=hid ((Mv.of_below HB2.out).trans (HM3.out.trans (Mv.of_below hb35)));have HND5:Hid (NmOk 65 w2.heap.size w5 nd):=hid (by rw [hnd];exact LC HWAY5.out);have HES:Hid (nd.es=Fv (ms.map Sm4.stp)):=hid (by rw [hnd];exact Ey ms);have HLF:=hid (Ny HDN.out HGOOD.out);have HTL:=hid (OU HDN.out HGOOD.out HK.out);rw [<- HES.out] at HLF HTL;have HFI:=hid (Gu nd.a nl nd.c nd.lf nd.es s z w5 (by rw [hnl];exact HND5.out.1) HLF.out.2.2 (badN_false.2 HLF.out.2.1) (srt_fall.2 HLF.out.1));have hk0:w5.cell? ⟨g,0,none⟩=some (.int .i64 s):=coR hxk5;have hk1:w5.cell? ⟨g,1,none⟩=some (.int .i64 z):=coR hxk5;have hl0:w5.cell? ⟨g5,0,none⟩=some (.bool nd.lf):=coR hx5;have hl1:w5.cell? ⟨g5,1,none⟩=some (.slice nd.a nl nd.c):=coR hx5;have HX5:=hid hx5;have HNL:=hid hnl;clear hw5 hg5 hb4 hb5 hb35 hx5 hxk5 hnl hnd HX3 HWAY HR3 HM3
 go_upto_region 9 with fail
 rw [<- HW5.out,<- HG5.out];clear HW5
 go_wp2_with fail
 refine HFI.out.mono ?_;clear HFI hk0 hk1 hl0 hl1;rintro e w6 ⟨⟨i,B,rfl,hi1,hi2,hi3⟩,hb6⟩;have hi:=hi3 HK.out;subst hi;have hBin:B=inK nd.es (s,z):=by rw [hi2];rfl
 have HWAY6:=hid (HWAY5.out.below hb6);have HR6:=hid (HR5.out.below hb6);have HM6:Hid (Mv (fun i=>C i≠0) w w6):=hid (HM5.out.trans (Mv.of_below hb6));have hx6:=Ac HX5.out hb6;have HND6:=hid (HND5.out.below hb6);have hl1:w6.cell? ⟨g5,1,none⟩=some (.slice nd.a nl nd.c):=coR hx6;have hin0:inK nd.es (s,z)=true->atK nd.es (s,z) < nd.es.length:=fun h=>(Ij h).1;clear hi1 hi2 hi3 hb6 hx6 HX5 HWAY5 HR5 HM5 HND5;rw [hBin];clear hBin;obtain ⟨at0,hat⟩:∃ k,k=atK nd.es (s,z):=⟨_,rfl⟩
 cases hin:inK nd.es (s,z) with
 | false=>
  have HNO:=hid (HTL.out.2 hin);clear hin hl1
  go_wp2_with fail
  go_ret3
  refine ⟨_,ms,_,_,rfl,HWAY6.out.weaken HB2.out.size,HDN.out,fun h=>absurd HNO.out h,fun _=>⟨rfl,rfl⟩,⟨r',HR6.out⟩,HM6.out⟩
 | true=>
  have hYES:=HTL.out.1 hin;have hlt:=hin0 hin;rw [<- hat] at hYES hlt;have hcell:∃ bq oq,nd.a=some ⟨bq,oq,none⟩/\w6.cell? ⟨bq,oq+at0 * 3+2,none⟩=some (.int .i64 (nd.es.getD at0 et0).2):=by
   rcases HND6.out.2 with h0 | ⟨bq,oq,e1,-,e2⟩
   ·rw [show nd.es=[] from h0] at hlt;cases hlt
   ·exact ⟨bq,oq,e1,(e2 at0 hlt).2.2⟩
  obtain ⟨bq,oq,hna,hcq⟩:=hcell;obtain ⟨pgv,hpgv⟩:∃ x,x=(nd.es.getD at0 et0).2:=⟨_,rfl⟩
  rw [<- hpgv] at hYES hcq;have HYES:=hid hYES;have hkn:(at0:Int) < (nl:Int):=by have:=HNL.out;omega
  have hnn:(nl:Int)<=16:=by have:=HNL.out;have:=HLF.out.2.2;omega
  rw [hna] at hl1;clear hin hYES hlt hpgv hin0;rw [<- hat];clear hat
  go_wp2_with fail
  go_quiet (fail)
  have hbq:=BX w6 nq;have HWAY7:=hid (HWAY6.out.below hbq);have HR7:=hid (HR6.out.below hbq);have HM7:Hid (Mv (fun i=>C i≠0) w (w6.drewN nq)):=hid (HM6.out.trans (Mv.of_below hbq));generalize w6.drewN nq=wq at *
  go_wp2_with fail
  go_ret3
  exact ⟨_,ms,_,_,rfl,HWAY7.out.weaken HB2.out.size,HDN.out,fun _=>⟨rfl,HYES.out.1.symm⟩,fun h=>absurd h HYES.out.2,⟨r',HR7.out⟩,HM7.out⟩
end Go.Proofs.YtfhdojnobmfefaaGreatDoor
namespace Go.Proofs.YtfhdojnobmfefaaGreatDoor
open Go.RowKit Go.Inc
theorem CwR.more {C:Nat->Nat} {w:World} {tp gd pa pn n:Nat} {S:St} {root:Nat} {ep:Int} {t:TrG} {ns:List Nat} {b b':Nat} (h:CwR C w tp gd pa pn n S root ep t ns b) (hb:b<=b'):CwR C w tp gd pa pn n S root ep t ns b':=
 ⟨h.dv,h.ctp,h.tc,h.ep1,h.on,h.arm,h.bytes,h.good,h.deep,h.cnt,h.is,h.pg,⟨by have:=h.bud;omega,h.bud.2.1,by have:=h.bud;omega,h.bud.2.2.2.1,by have:=h.bud;omega⟩⟩
theorem WU {C:Nat->Nat} {w:World} {tp gd pa pn n:Nat} {S:St} {root:Nat} {ep:Int} {t:TrG} {ns:List Nat} {b:Nat} (s z:Int) (h:CwR C w tp gd pa pn n S root ep t ns b) (hb:b<=900000) :
  Calls Tryz.prog 20 #[.pointer (some ⟨tp,0,none⟩),.agg #[.int .i64 s,.int .i64 z]] w fun e w'=>(∃ pg er:Int,e=.returned (.tuple #[.int .i64 pg,.int .i64 er])/\(okK (s,z)=false->er=10)/\(okK (s,z)=true->pgK t.en (s,z)=0->er=7)/\(okK (s,z)=true->pgK t.en (s,z)≠0->er=0/\pg=pgK t.en (s,z)))/\(∃ r',CwR C w' tp gd pa pn n {S with r:=r'} root ep t ns (b+40))/\Mv (fun i=>C i≠0) w w':=by
 obtain ⟨g,hg⟩:∃ g,g=w.heap.size:=⟨_,rfl⟩
 obtain ⟨w0,hw0⟩:∃ w0,w0=w.alloc (.cells #[.int .i64 s,.int .i64 z] 42):=⟨_,rfl⟩
 have HW:=hid hw0;have HG:=hid hg;have HB:Hid (Below w.heap.size w w0):=hid (by rw [hw0];exact Ad w _);have hx:w0.heap[g]?=some (.cells #[.int .i64 s,.int .i64 z] 42 (0,0)):=by rw [hw0,hg];exact heap_alloc_new w _
 have hk0:w0.cell? ⟨g,0,none⟩=some (.int .i64 s):=coR hx;have hk1:w0.cell? ⟨g,1,none⟩=some (.int .i64 z):=coR hx;have HR:=hid (h.below HB.out);have HBB:=hid hb;clear hw0 hg hx h hb;cases hk:okK (s,z) with
 | false=>
  have HK:=hid hk;clear hk
  go_enter Tryz.func20,Tryz.ntmps20
  go_upto_region 1 with fail
  rw [<- HW.out,<- HG.out]
  go_wp2_with fail
  refine (Qk HR.out.tc s z HK.out).mono ?_;rintro e w1 ⟨rfl,hb1⟩;have HR1:=hid (HR.out.below hb1);have HM1:Hid (Mv (fun i=>C i≠0) w w1):=hid ((Mv.of_below HB.out).trans (Mv.of_below hb1));clear hb1 hk0 hk1
  go_wp2_with fail
  go_ret2
  exact ⟨⟨_,_,rfl,fun _=>rfl,fun h=>(by cases h),fun h=>by cases h⟩,⟨S.r,HR1.out.more (by omega)⟩,HM1.out⟩
 | true=>
  have HK:=hid hk;clear hk
  go_enter Tryz.func20,Tryz.ntmps20
  go_upto_region 1 with fail
  rw [<- HW.out,<- HG.out]
  go_wp2_with fail
  refine (Jq HR.out HBB.out s z HK.out).mono ?_;rintro e w1 ⟨v,ms,had,er,rfl,ha⟩;have HA:=hid ha;clear ha hk0 hk1
  go_wp2_with fail
  go_ret2
  obtain ⟨r',hr'⟩:=HA.out.rd;exact ⟨⟨_,_,rfl,fun h=>(by cases h),fun _ h=>(HA.out.no h).1,fun _ h=>HA.out.yes h⟩,⟨r',hr'.more (by omega)⟩,(Mv.of_below HB.out).trans HA.out.mv⟩
end Go.Proofs.YtfhdojnobmfefaaGreatDoor
namespace Go.Inc
open Go Go.RowKit
def Nw (w:World) (v v':Value):Prop:=v'.ownBlock=v.ownBlock\/∃ j,v'.ownBlock=some j/\w.heap.size<=j
theorem Nw.refl (w:World) (v:Value):Nw w v v:=.inl rfl
theorem Nw.trans {w w1:World} {v v1 v2:Value} (h:Nw w v v1) (k:Nw w1 v1 v2) (hs:w.heap.size<=w1.heap.size):Nw w v v2:=by
 rcases k with k | ⟨j,k1,k2⟩
 ·rcases h with h | ⟨i,h1,h2⟩
  ·exact .inl (k.trans h)
  ·exact .inr ⟨i,k.trans h1,h2⟩
 ·exact .inr ⟨j,k1,Nat.le_trans hs k2⟩
theorem Nw.less {w w1:World} {v v1:Value} (h:Nw w1 v v1) (hs:w.heap.size<=w1.heap.size):Nw w v v1:=by
 rcases h with h | ⟨i,h1,h2⟩
 ·exact .inl h
 ·exact .inr ⟨i,h1,Nat.le_trans hs h2⟩
theorem Nw.mv {F:Nat->Prop} {w w1 w2:World} {v v1:Value} (h:Nw w v v1) (hm:Mv (fun b=>F b\/v.ownBlock=some b) w w1) (hm2:Mv (fun b=>F b\/v1.ownBlock=some b) w1 w2):Mv (fun b=>F b\/v.ownBlock=some b) w w2:=
 hm.trans' hm2 fun i hi hf=>by
  rcases hf with hf | hf
  ·exact .inl hf
  ·rcases h with h | ⟨j,h1,h2⟩
   ·exact .inr (h ▸ hf)
   ·rw [h1] at hf;simp only [Option.some.injEq] at hf;omega
theorem BZ {P:Program} (w:World) {ops:Array Oper} {rest:List Oper} {o:Oper} {a:Act} {Q:Exit->Act->World->Prop} (hgd:o.guard=none) (s x:Operand) (t:TypeId)
  (ho:o.op=.call {callee:=.builtin .append,args:=#[s,x],argTypes:=#[t,t]})
  (base:Nat) (e:TypeId) (i:TypeInfo) (z:Value) (size bytes:Nat) (ht:P.underlying t=some (.slice e)) (hi:P.info? e=some i) (hz:i.zero=some z)
  (hsize:i.size=size) (hby:i.bytes=bytes) (hzs:z.cells.size=size) (hsz:0 < size)
  (v:Value) (n:Nat) (xs:List Value) (hs:a.eval s=v) (hown:w.ownsRow base e size v n xs)
  (ad:Addr) (m c:Nat) (news:List Value) (hx:a.eval x=.slice (some ad) m c) (hl:news.length=m * size) (hnews:∀ j u,news[j]?=some u->w.cell? (ad.add j)=some u) (h1:∀ u∈news,u.oneCell'=true)
  (h63:n+m<=maxLen) (hbytes:(n+m) * bytes<=140737488355328) (hbase:base<=w.heap.size)
  (h:∀ v' w',w'.ownsRow base e size v' (n+m) (xs++news)->w.grownBy w' v.ownBlock->Nw w v v'->wpList P ops Q rest (a.put o.dst v') w'):wpList P ops Q (o::rest) a w:=by
 refine wpList_plain hgd fun K hK=>?_;obtain ⟨v',w',hr,h2,h3,-⟩:=run_append_own (P:=P) w base t o.type e i z size bytes ht hi hz hsize hby hzs hsz v n xs hown ad m c news hl hnews h1 h63 hbytes hbase;have hnw:Nw w v v':=by
  have hsmall:n+m<=9223372036854775807:=by simp only [maxLen] at h63;omega
  rcases hown.2 with ⟨rfl,rfl⟩ | ⟨g,cap,cur,rfl,hbg,hg,hnc,hcm,hcs,htake⟩
  ·by_cases hm:m=0
   ·subst hm;have hn:news=[]:=List.eq_nil_of_length_eq_zero (by simpa using hl);subst hn;have hr2:(Builtin.append_ #[t,t] o.type #[.slice none 0 0,.slice (some ad) 0 c]).run P w=.ok (.slice none 0 0) w:=by
     simp [Builtin.append_,run_underlying ht,sizeOf,typeInfo,hi,Builtin.lenOf,Builtin.firstCells,loadCells,loadCellsFrom]
    rw [hr2] at hr;cases hr;exact .inl rfl
   ·have hr2:=run_append_nil (P:=P) w t o.type e i z ht hi hz ad m c news (by rw [hsize];exact hl) hnews (by omega) (by omega) (by rw [hby];have hb:=hbytes;simp only [Nat.zero_add] at hb;omega);rw [hr2] at hr;cases hr;exact .inr ⟨_,rfl,Nat.le_refl _⟩
  ·by_cases hroom:n+m<=cap
   ·have hr2:=run_append_room (P:=P) w t o.type e i ht hi g n cap cur hg ad m c news (by rw [hsize];exact hl) hnews h1 hroom (by rw [hl,hcs,hsize,<- Nat.add_mul];exact Nat.mul_le_mul_right _ hroom);rw [hr2] at hr;cases hr;exact .inl rfl
   ·have ER:∀ j u,xs[j]?=some u->w.cell? ((⟨g,0,none⟩:Addr).add j)=some u:=hown.cells (g:=g) rfl;have hr2:=run_append_grow (P:=P) w t o.type e i z ht hi hz ⟨g,0,none⟩ n cap xs (by rw [hsize];exact hown.1) ER ad m c news (by rw [hsize];exact hl) hnews (by omega) (by omega) (growslice_fits (by omega) (by rw [hby];exact hbytes));rw [hr2] at hr;cases hr;exact .inr ⟨_,rfl,Nat.le_refl _⟩
 unfold Oper.wp execOp;simp only [ho,resolve,invoke,builtin,Sem.run_bind,Sem.run_pure,Result.andThen_ok,List.map_toArray,List.map_cons,List.map_nil,hs,hx,hr];exact hK _ _ (h v' w' h2 h3 hnw)
end Go.Inc
namespace Go.Proofs.YtfhdojnobmfefaaGreatDoor
open Go.RowKit Go.Inc
theorem Va:(Tryz.prog.info? 65).map (fun i=>(i.zero,i.size,i.bytes))=some (some (.agg #[.int .i64 0,.int .i64 0,.int .i64 0]),3,24):=by kernel_rfl
theorem PN:(Tryz.prog.info? 3).map (fun i=>(i.zero,i.size,i.bytes))=some (some (.int .i64 0),1,8):=by kernel_rfl
set_option maxRecDepth 20000 in
theorem MJ {B gl:Nat} {v:Value} {ks:List Nat} {W:World} (pg:Nat) (lf:Bool) (a:Option Addr) (n c:Nat) (hx:W.heap[gl]?=some (.cells #[v] 54 (0,0))) (hr:W.ownsRow B 3 1 v ks.length (Dl ks)) (hl:ks.length<=100000) (hB:B<=W.heap.size) :
  Calls Tryz.prog 78 #[.int .i64 (pg:Int),.agg #[.bool lf,.slice a n c],.pointer (some ⟨gl,0,none⟩)] W fun e W'=>(∃ u,e=.returned u)/\∃ v',W'.heap[gl]?=some (.cells #[v'] 54 (0,0))/\W'.ownsRow B 3 1 v' (ks++[pg]).length (Dl (ks++[pg]))/\Nw W v v'/\Mv (fun b=>b=gl\/v.ownBlock=some b) W W':=by
 obtain ⟨i0,hi,hz0,hz1,hz2⟩:=info_parts PN;obtain ⟨w0,hw0⟩:∃ w0,w0=W.alloc (.cells #[.bool lf,.slice a n c] 114):=⟨_,rfl⟩
 have hb0:Below W.heap.size W w0:=by rw [hw0];exact Ad W _
 have hx0:=Ac hx hb0;have hr0:w0.ownsRow B 3 1 v ks.length (Dl ks):=by rw [hw0];exact hr.alloc _
 obtain ⟨L,hL⟩:∃ L,L=ks.length:=⟨_,rfl⟩
 obtain ⟨a2,c2,rfl,-,-,-⟩:=AO hr;have HI:=hid (And.intro hi (And.intro hz0 (And.intro hz1 hz2)));have HW:=hid hw0;have HB:=hid hb0;have HX:=hid hx0;have HR:=hid hr0;rw [<- hL] at HR HX hl ⊢;have hc:w0.cell? ⟨gl,0,none⟩=some (.slice a2 L c2):=coR HX.out;have HBB:=hid hB;have HL:=hid hL;clear hw0 hb0 hx0 hr0 hx hr hi hz0 hz1 hz2 hB hL
 go_enter Tryz.func78,Tryz.ntmps78
 go_upto_region 1 with fail
 rw [<- HW.out]
 go_wp2_with (refine BZ _ rfl (.tmp 5) (.tmp 7) 54 rfl B 3 i0 (.int .i64 0) 1 8 Tryz.underlying54 HI.out.1 HI.out.2.1 HI.out.2.2.1 HI.out.2.2.2 rfl (by decide) _ L _ rfl (HR.out.alloc _) ⟨w0.heap.size,0,none⟩ 1 1 [.int .i64 (pg:Int)] rfl rfl (Gx w0 [.int .i64 (pg:Int)] 3) (by simp [Value.oneCell']) (by unfold maxLen;omega) (by omega) (by have:=HBB.out;have:=HB.out.size;simp;omega) ?_)
 intro v4 w4 hr4 hg4 hn4;obtain ⟨wb,hwb⟩:∃ wb,wb=w0.alloc (.cells #[.int .i64 (pg:Int)] 3):=⟨_,rfl⟩
 rw [<- hwb] at hg4 hn4;have hbb:Below w0.heap.size w0 wb:=by rw [hwb];exact Ad w0 _
 have hxb:Boxed wb gl 54 (.slice a2 L c2):=Ac HX.out hbb;have hrb:wb.ownsRow B 3 1 (.slice a2 L c2) L (Dl ks):=by rw [hwb];exact HR.out.alloc _
 have hbx:Boxed w4 gl 54 (.slice a2 L c2):=hxb.kept hg4 (hxb.not_row (by decide) hrb);obtain ⟨g4,c4,rfl⟩:=ownsRow_succ hr4;have HN4:Hid (Nw W (.slice a2 L c2) (.slice (some ⟨g4,0,none⟩) (L+1) c4)):=hid (hn4.less (Nat.le_trans HB.out.size hbb.size));have HM4:Hid (Mv (fun b=>b=gl\/(Value.slice a2 L c2).ownBlock=some b) W w4):=hid ((Mv.of_below HB.out).trans ((Mv.of_below hbb).trans (Mv.of_grown hg4 fun j hj _=>.inr hj)));have HX4:=hid hbx;have HR4:=hid hr4;have hc4:=hbx.cell;have hf4:=hbx.frozen;clear hwb hg4 hn4 hbb hxb hrb hbx hr4 hc
 go_wp2_with fail
 obtain ⟨w5,hw5⟩:∃ w5,w5=w4.setCell ⟨gl,0,none⟩ (.slice (some ⟨g4,0,none⟩) (L+1) c4):=⟨_,rfl⟩
 rw [<- hw5];have hx5:Boxed w5 gl 54 (.slice (some ⟨g4,0,none⟩) (L+1) c4):=by rw [hw5];exact HX4.out.set _
 have hg5:w4.grownBy w5 (some gl):=by rw [hw5];exact grownBy_setCell' w4 gl _
 have hr5:w5.ownsRow B 3 1 (.slice (some ⟨g4,0,none⟩) (L+1) c4) (L+1) (Dl ks++[.int .i64 (pg:Int)]):=HR4.out.kept hg5 (.inr (Ne.symm (HX4.out.not_row (by decide) HR4.out)));have hm5:Mv (fun b=>b=gl\/(Value.slice a2 L c2).ownBlock=some b) W w5:=HM4.out.trans (Mv.of_grown hg5 fun j hj _=>by cases hj;exact .inl rfl);refine bodyPost_end (results_none rfl _ _ _) rfl ⟨⟨_,rfl⟩,_,hx5,?_,HN4.out,hm5⟩;rw [MF,List.length_append,<- HL.out];exact hr5
end Go.Proofs.YtfhdojnobmfefaaGreatDoor
namespace Go.Inc
open Go Go.RowKit
def rfB (a b:Ky) (e:Et):Bool:=!CZ e.1 a && CZ e.1 b
theorem XM {es:List Et} {f:Et->Bool} {k:Nat} (h:k < es.length):(es.take (k+1)).filter f=(es.take k).filter f++(if f (es.getD k et0)=true then [es.getD k et0] else []):=by
 rw [DK (d:=et0) h,List.filter_append]
 congr 1
 by_cases hf:f (es.getD k et0)=true
 ·rw [if_pos hf,List.filter_cons,if_pos hf];rfl
 ·rw [if_neg hf,List.filter_cons,if_neg hf];rfl
def J6 (lf:Bool) (l:List Et):List Et:=if lf=true then l else []
theorem Gi (l:List Et):J6 true l=l:=rfl
theorem SK (l:List Et):J6 false l=[]:=rfl
theorem X9 (lf:Bool):J6 lf []=[]:=by cases lf<;>rfl
theorem aH (lf:Bool) (l:List Et):(J6 lf l).length<=l.length:=by cases lf<;>simp [J6]
end Go.Inc
namespace Go.Proofs.YtfhdojnobmfefaaGreatDoor
open Go.RowKit Go.Inc
set_option maxRecDepth 20000 in
set_option maxHeartbeats 4000000 in
theorem LW {B gl g1 g2:Nat} {v:Value} {acc:List Et} {W:World} {s z s' z':Int} (pg:Int) (lf:Bool) (a:Option Addr) (c:Nat) (es:List Et) (hx:Boxed W gl 48 v) (hr:W.ownsRow B 65 3 v acc.length (Ak acc)) (hl:acc.length<=100000) (hB:B<=W.heap.size) (he16:es.length<=16) (hnd:NmOk 65 B W ⟨lf,a,c,es⟩) (hap:∀ b o,a=some ⟨b,o,none⟩->v.ownBlock≠some b) (hk1:W.heap[g1]?=some (.cells #[.int .i64 s,.int .i64 z] 42 (0,0))) (hk2:W.heap[g2]?=some (.cells #[.int .i64 s',.int .i64 z'] 42 (0,0))) :
  Calls Tryz.prog 65 #[.int .i64 pg,.agg #[.bool lf,.slice a es.length c],.pointer (some ⟨g1,0,none⟩),.pointer (some ⟨g2,0,none⟩),.pointer (some ⟨gl,0,none⟩)] W fun e W'=>(∃ u,e=.returned u)/\∃ v',Boxed W' gl 48 v'/\W'.ownsRow B 65 3 v' (acc++J6 lf (es.filter (rfB (s,z) (s',z')))).length (Ak (acc++J6 lf (es.filter (rfB (s,z) (s',z')))))/\Nw W v v'/\Mv (fun b=>b=gl\/v.ownBlock=some b) W W':=by
 obtain ⟨i0,hi,hz0,hz1,hz2⟩:=info_parts Va;have HI:=hid (And.intro hi (And.intro hz0 (And.intro hz1 hz2)));obtain ⟨n,hn⟩:∃ n,n=es.length:=⟨_,rfl⟩
 obtain ⟨g,hg⟩:∃ g,g=W.heap.size:=⟨_,rfl⟩
 obtain ⟨w0,hw0⟩:∃ w0,w0=W.alloc (.cells #[.bool lf,.slice a n c] 114):=⟨_,rfl⟩
 have HW:=hid hw0;have HG:=hid hg;have hb0:Below W.heap.size W w0:=by rw [hw0];exact Ad W _
 have hx0:w0.heap[g]?=some (.cells #[.bool lf,.slice a n c] 114 (0,0)):=by rw [hw0,hg];exact heap_alloc_new W _
 have HN:=hid hn;have H0:Hid (Boxed w0 gl 48 v/\w0.ownsRow B 65 3 v acc.length (Ak acc)/\NmOk 65 B w0 ⟨lf,a,c,es⟩/\w0.heap[g1]?=some (.cells #[.int .i64 s,.int .i64 z] 42 (0,0))/\w0.heap[g2]?=some (.cells #[.int .i64 s',.int .i64 z'] 42 (0,0))/\w0.heap[g]?=some (.cells #[.bool lf,.slice a n c] 114 (0,0))):=hid ⟨Ac hx hb0,Ag (F:=fun _=>False) hr (Mv.of_below hb0) (fun _ _=>id),hnd.below hb0,Ac hk1 hb0,Ac hk2 hb0,hx0⟩;have HB:=hid hb0;have HBB:=hid hB;have HAL:=hid hl;have H16:=hid he16;have HAP:=hid hap;have hc1:w0.cell? ⟨g,1,none⟩=some (.slice a n c):=coR hx0;have hn16:(n:Int)<=16:=by omega
 rw [<- hn];clear hw0 hg hb0 hx0 hn hB hl he16 hnd hap hk1 hk2 hx hr hi hz0 hz1 hz2
 go_enter Tryz.func65,Tryz.ntmps65
 go_upto_region 1 with fail
 rw [<- HW.out,<- HG.out];clear HW
 go_wp2_with fail
 clear hc1
 go_loopw [12] (fun i wr=>∃ (k:Nat) (u:Value),i=.int .i64 (k:Int)/\k<=n/\Boxed wr gl 48 u/\wr.ownsRow B 65 3 u (acc++J6 lf ((es.take k).filter (rfB (s,z) (s',z')))).length (Ak (acc++J6 lf ((es.take k).filter (rfB (s,z) (s',z')))))/\NmOk 65 B wr ⟨lf,a,c,es⟩/\wr.heap[g1]?=some (.cells #[.int .i64 s,.int .i64 z] 42 (0,0))/\wr.heap[g2]?=some (.cells #[.int .i64 s',.int .i64 z'] 42 (0,0))/\wr.heap[g]?=some (.cells #[.bool lf,.slice a n c] 114 (0,0))/\Nw w0 v u/\Mv (fun b=>b=gl\/v.ownBlock=some b) W wr/\w0.heap.size<=wr.heap.size) (fun i _=>n+1 - (intOf i).toNat)
 case atStart=>
  obtain ⟨h1,h2,h3,h4,h5,h6⟩:=H0.out;refine ⟨0,v,rfl,Nat.zero_le _,h1,?_,h3,h4,h5,h6,Nw.refl _ _,Mv.of_below HB.out,Nat.le_refl _⟩;rw [List.take_zero,List.filter_nil,X9,List.append_nil];exact h2
 case round=>
  obtain ⟨k,u,rfl,hk,h1,h2,h3,h4,h5,h6,h7,h8,h9⟩:=hrel;by_cases hlt:(k:Int) < (n:Int)
  ·have hkl:k < es.length:=by have:=HN.out;omega
   obtain ⟨bq,oq,hae,hce⟩:∃ bq oq,a=some ⟨bq,oq,none⟩/\wr.cell? ⟨bq,oq+k * 3,none⟩=some (.int .i64 (es.getD k et0).1.1)/\wr.cell? ⟨bq,oq+k * 3+1,none⟩=some (.int .i64 (es.getD k et0).1.2)/\wr.cell? ⟨bq,oq+k * 3+2,none⟩=some (.int .i64 (es.getD k et0).2):=by
    rcases h3.2 with h0 | ⟨bq,oq,e1,-,e2⟩
    ·rw [show es=[] from h0] at hkl;cases hkl
    ·exact ⟨bq,oq,e1,e2 k hkl⟩
   obtain ⟨x,hx⟩:∃ x,x=es.getD k et0:=⟨_,rfl⟩
   rw [<- hx] at hce;obtain ⟨hq0,hq1,hq2⟩:=hce;obtain ⟨L,hL⟩:∃ L,L=(acc++J6 lf ((es.take k).filter (rfB (s,z) (s',z')))).length:=⟨_,rfl⟩
   have hLb:L<=100016:=by
    have:=HAL.out;have:=H16.out;have h9:((es.take k).filter (rfB (s,z) (s',z'))).length<=es.length:=Nat.le_trans (List.length_filter_le _ _) (by rw [List.length_take];omega);have h10:=aH lf ((es.take k).filter (rfB (s,z) (s',z')));rw [hL,List.length_append];omega
   have HL:=hid hL;have HRW:=hid h2;rw [<- hL] at HRW;have HXB:=hid h1;have HNM:=hid h3;have HG1:=hid h4;have HG2:=hid h5;have HGN:=hid h6;have HNW:=hid h7;have HMV:=hid h8;have HSZ:=hid h9;have HXE:=hid hx;have HAE:=hid hae;have HKL:=hid hkl;obtain ⟨w2,hw2⟩:∃ w2,w2=wr.alloc (.cells #[.int .i64 x.1.1,.int .i64 x.1.2,.int .i64 x.2] 65):=⟨_,rfl⟩
   obtain ⟨g3,hg3⟩:∃ g3,g3=wr.heap.size:=⟨_,rfl⟩
   have HW2:=hid hw2;have HG3:=hid hg3;have hb2:Below wr.heap.size wr w2:=by rw [hw2];exact Ad wr _
   have HX3:Hid (w2.heap[g3]?=some (.cells #[.int .i64 x.1.1,.int .i64 x.1.2,.int .i64 x.2] 65 (0,0))):=hid (by rw [hw2,hg3];exact heap_alloc_new wr _);have HB2:=hid hb2;subst hae;clear h1 h2 h3 h4 h5 h6 h7 h8 h9 hx hL hw2 hg3 hkl
   go_upto_region 4 with fail
   rw [<- HW2.out,<- HG3.out];clear HW2 hq0 hq1 hq2;have hl0:w2.cell? ⟨g,0,none⟩=some (.bool lf):=coR (Ac HGN.out HB2.out);have hk0:w2.cell? ⟨g3,0,none⟩=some (.int .i64 x.1.1):=coR HX3.out;have hk1:w2.cell? ⟨g3,1,none⟩=some (.int .i64 x.1.2):=coR HX3.out;have ha0:w2.cell? ⟨g1,0,none⟩=some (.int .i64 s):=coR (Ac HG1.out HB2.out);have ha1:w2.cell? ⟨g1,1,none⟩=some (.int .i64 z):=coR (Ac HG1.out HB2.out);cases lf with
   | false=>
    go_wp2_with fail
    go_roundw
    case rel=>
     refine ⟨k+1,u,by go_num,by omega,Ac HXB.out HB2.out,?_,HNM.out.below HB2.out,Ac HG1.out HB2.out,Ac HG2.out HB2.out,Ac HGN.out HB2.out,HNW.out,HMV.out.trans (Mv.of_below HB2.out),Nat.le_trans HSZ.out HB2.out.size⟩;have h:=Ag (F:=fun _=>False) HRW.out (Mv.of_below HB2.out) (fun _ _=>id);rw [HL.out] at h;exact h
    case measure=>simp [intOf];omega
   | true=>
    have HLE:=hid (EN x.1.1 x.1.2 s z w2);cases hB1:CZ (x.1.1,x.1.2) (s,z) with
    | true=>
     rw [hB1] at HLE;have HB1:=hid hB1;clear hB1
     go_wp2_with fail
     refine HLE.out.mono ?_;clear HLE hl0 hk0 hk1 ha0 ha1;rintro e w4 ⟨rfl,hb4⟩;have HB4:Hid (Below wr.heap.size wr w4):=hid (HB2.out.trans (hb4.mono HB2.out.size));clear hb4
     go_wp2_with fail
     go_roundw
     case rel=>
      refine ⟨k+1,u,by go_num,by omega,Ac HXB.out HB4.out,?_,HNM.out.below HB4.out,Ac HG1.out HB4.out,Ac HG2.out HB4.out,Ac HGN.out HB4.out,HNW.out,HMV.out.trans (Mv.of_below HB4.out),Nat.le_trans HSZ.out HB4.out.size⟩;have h:=Ag (F:=fun _=>False) HRW.out (Mv.of_below HB4.out) (fun _ _=>id);rw [HL.out] at h;rw [Gi] at h ⊢;rw [XM HKL.out,<- HXE.out,show rfB (s,z) (s',z') x=false from by unfold rfB;rw [show CZ x.1 (s,z)=true from HB1.out];rfl];simpa using h
     case measure=>simp [intOf];omega
    | false=>
     rw [hB1] at HLE;have HB1:=hid hB1;clear hB1
     go_wp2_with fail
     refine HLE.out.mono ?_;clear HLE hl0 hk0 hk1 ha0 ha1;rintro e w4 ⟨rfl,hb4⟩;have HB4:Hid (Below wr.heap.size wr w4):=hid (HB2.out.trans (hb4.mono HB2.out.size));have HX4:=hid (Ac HX3.out hb4);clear hb4;have hk0:w4.cell? ⟨g3,0,none⟩=some (.int .i64 x.1.1):=coR HX4.out;have hk1:w4.cell? ⟨g3,1,none⟩=some (.int .i64 x.1.2):=coR HX4.out;have hk2:w4.cell? ⟨g3,2,none⟩=some (.int .i64 x.2):=coR HX4.out;have ha0:w4.cell? ⟨g2,0,none⟩=some (.int .i64 s'):=coR (Ac HG2.out HB4.out);have ha1:w4.cell? ⟨g2,1,none⟩=some (.int .i64 z'):=coR (Ac HG2.out HB4.out);have HLE:=hid (EN x.1.1 x.1.2 s' z' w4);cases hB2:CZ (x.1.1,x.1.2) (s',z') with
     | false=>
      rw [hB2] at HLE;have HBB2:=hid hB2;clear hB2
      go_wp2_with fail
      refine HLE.out.mono ?_;clear HLE hk0 hk1 hk2 ha0 ha1;rintro e w5 ⟨rfl,hb5⟩;have HB5:Hid (Below wr.heap.size wr w5):=hid (HB4.out.trans (hb5.mono HB4.out.size));clear hb5
      go_wp2_with fail
      go_roundw
      case rel=>
       refine ⟨k+1,u,by go_num,by omega,Ac HXB.out HB5.out,?_,HNM.out.below HB5.out,Ac HG1.out HB5.out,Ac HG2.out HB5.out,Ac HGN.out HB5.out,HNW.out,HMV.out.trans (Mv.of_below HB5.out),Nat.le_trans HSZ.out HB5.out.size⟩;have h:=Ag (F:=fun _=>False) HRW.out (Mv.of_below HB5.out) (fun _ _=>id);rw [HL.out] at h;rw [Gi] at h ⊢;rw [XM HKL.out,<- HXE.out,show rfB (s,z) (s',z') x=false from by unfold rfB;rw [show CZ x.1 (s',z')=false from HBB2.out];simp];simpa using h
      case measure=>simp [intOf];omega
     | true=>
      rw [hB2] at HLE;have HBB2:=hid hB2;clear hB2
      go_wp2_with fail
      refine HLE.out.mono ?_;clear HLE hk0 hk1 hk2 ha0 ha1;rintro e w5 ⟨rfl,hb5⟩;have HB5:Hid (Below wr.heap.size wr w5):=hid (HB4.out.trans (hb5.mono HB4.out.size));have HX5:=hid (Ac HX4.out hb5);have HXB5:Hid (Boxed w5 gl 48 u):=hid (Ac HXB.out HB5.out);have HR5:Hid (w5.ownsRow B 65 3 u L _):=hid (Ag (F:=fun _=>False) HRW.out (Mv.of_below HB5.out) (fun _ _=>id));clear hb5;have hk0:w5.cell? ⟨g3,0,none⟩=some (.int .i64 x.1.1):=coR HX5.out;have hk1:w5.cell? ⟨g3,1,none⟩=some (.int .i64 x.1.2):=coR HX5.out;have hk2:w5.cell? ⟨g3,2,none⟩=some (.int .i64 x.2):=coR HX5.out;have hcl:=HXB5.out.cell;obtain ⟨a2,c2,rfl,-,-,-⟩:=AO HR5.out
      go_wp2_with (refine BZ _ rfl (.tmp 31) (.tmp 33) 48 rfl B 65 i0 (.agg #[.int .i64 0,.int .i64 0,.int .i64 0]) 3 24 Tryz.underlying48 HI.out.1 HI.out.2.1 HI.out.2.2.1 HI.out.2.2.2 rfl (by decide) _ L _ rfl (HR5.out.alloc _) ⟨w5.heap.size,0,none⟩ 1 1 [.int .i64 x.1.1,.int .i64 x.1.2,.int .i64 x.2] rfl rfl (Gx w5 [.int .i64 x.1.1,.int .i64 x.1.2,.int .i64 x.2] 65) (by simp [Value.oneCell']) (by unfold maxLen;omega) (by omega) (by have:=HBB.out;have:=HB.out.size;have:=HSZ.out;have:=HB5.out.size;simp;omega) ?_)
      intro v6 w6 hr6 hg6 hn6;obtain ⟨wb,hwb⟩:∃ wb,wb=w5.alloc (.cells #[.int .i64 x.1.1,.int .i64 x.1.2,.int .i64 x.2] 65):=⟨_,rfl⟩
      rw [<- hwb] at hg6 hn6;have hbb:Below w5.heap.size w5 wb:=by rw [hwb];exact Ad w5 _
      have hbw:Below wr.heap.size wr wb:=HB5.out.trans (hbb.mono HB5.out.size);have hxb:Boxed wb gl 48 (.slice a2 L c2):=Ac HXB5.out hbb;have hrb:wb.ownsRow B 65 3 (.slice a2 L c2) L (Ak (acc++J6 true ((es.take k).filter (rfB (s,z) (s',z'))))):=by rw [hwb];exact HR5.out.alloc _
      have hbx:Boxed w6 gl 48 (.slice a2 L c2):=hxb.kept hg6 (hxb.not_row (by decide) hrb);have hap6:(Value.slice a2 L c2).ownBlock≠some bq:=by
       rcases HNW.out with h | ⟨j,h,hj⟩
       ·rw [h];exact HAP.out bq oq rfl
       ·rw [h];intro e;simp only [Option.some.injEq] at e;subst e;rcases (H0.out.2.2.1).2 with h0 | ⟨bq',oq',e1,⟨-,cs,e3⟩,-⟩
        ·have:=HKL.out;rw [show es=[] from h0] at this;cases this
        ·simp only [Option.some.injEq,Addr.mk.injEq] at e1;have:=Aj e3;omega
      have hkeep:∀ (i:Nat) (cs:Array Value) (T:TypeId),T≠65->wr.heap[i]?=some (.cells cs T (0,0))->w6.heap[i]?=some (.cells cs T (0,0)):=fun i cs T hT hi=>(Pq hrb hg6 (Ac hi hbw) (Ne.symm hT)).trans (Ac hi hbw);have hnm6:NmOk 65 B w6 ⟨true,some ⟨bq,oq,none⟩,c,es⟩:=by
       have h:=HNM.out.below hbw;have hblk:w6.heap[bq]?=wb.heap[bq]?:=by
        refine hg6.block bq ?_ (fun e=>hap6 e.symm);rcases h.2 with h0 | ⟨bq',oq',e1,⟨-,cs,e3⟩,-⟩
        ·have:=HKL.out;rw [show es=[] from h0] at this;cases this
        ·simp only [Option.some.injEq,Addr.mk.injEq] at e1;have:=Aj e3;omega
       have h2:EtT 65 B w6 (some ⟨bq,oq,none⟩) es:=by
        rcases h.2 with h0 | ⟨bq',oq',e1,⟨e2,cs,e3⟩,e4⟩
        ·exact .inl h0
        ·simp only [Option.some.injEq,Addr.mk.injEq] at e1;obtain ⟨rfl,rfl,-⟩:=e1;exact .inr ⟨_,_,rfl,⟨e2,cs,hblk.trans e3⟩,fun i hi=>⟨(World.cell?_of_block hblk).trans (e4 i hi).1,(World.cell?_of_block hblk).trans (e4 i hi).2.1,(World.cell?_of_block hblk).trans (e4 i hi).2.2⟩⟩
       exact ⟨⟨h.1.1,NdOk.mono h2.ets,h.1.2.2⟩,h2⟩
      obtain ⟨g4,c4,rfl⟩:=ownsRow_succ hr6;have HN6:Hid (Nw w0 v (.slice (some ⟨g4,0,none⟩) (L+1) c4)):=hid (HNW.out.trans (hn6.less hbw.size) HSZ.out);have HM6:Hid (Mv (fun b=>b=gl\/v.ownBlock=some b) W w6):=hid (by
       have h:=HNW.out.less HB.out.size;exact Nw.mv (F:=fun b=>b=gl) h HMV.out ((Mv.of_below hbw).trans (Mv.of_grown hg6 fun j hj _=>.inr hj)))
      have H6:Hid (Boxed w6 gl 48 (.slice a2 L c2)/\w6.ownsRow B 65 3 (.slice (some ⟨g4,0,none⟩) (L+1) c4) (L+1) (Ak (acc++J6 true ((es.take k).filter (rfB (s,z) (s',z'))))++[.int .i64 x.1.1,.int .i64 x.1.2,.int .i64 x.2])/\NmOk 65 B w6 ⟨true,some ⟨bq,oq,none⟩,c,es⟩/\w6.heap[g1]?=some (.cells #[.int .i64 s,.int .i64 z] 42 (0,0))/\w6.heap[g2]?=some (.cells #[.int .i64 s',.int .i64 z'] 42 (0,0))/\w6.heap[g]?=some (.cells #[.bool true,.slice (some ⟨bq,oq,none⟩) n c] 114 (0,0))/\wr.heap.size<=w6.heap.size):=hid ⟨hbx,hr6,hnm6,hkeep _ _ _ (by decide) HG1.out,hkeep _ _ _ (by decide) HG2.out,hkeep _ _ _ (by decide) HGN.out,Nat.le_trans hbw.size hg6.size⟩;have hc4:=hbx.cell;have hf4:=hbx.frozen;clear hwb hg6 hn6 hbb hbw hxb hrb hbx hr6 hap6 hkeep hnm6 hk0 hk1 hk2 hcl
      go_wp2_with fail
      obtain ⟨w7,hw7⟩:∃ w7,w7=w6.setCell ⟨gl,0,none⟩ (.slice (some ⟨g4,0,none⟩) (L+1) c4):=⟨_,rfl⟩
      rw [<- hw7];have hg7:w6.grownBy w7 (some gl):=by rw [hw7];exact grownBy_setCell' w6 gl _
      have hx7:Boxed w7 gl 48 (.slice (some ⟨g4,0,none⟩) (L+1) c4):=by rw [hw7];exact H6.out.1.set _
      have hother:∀ (i:Nat) (cs:Array Value) (T:TypeId),T≠48->w6.heap[i]?=some (.cells cs T (0,0))->w7.heap[i]?=some (.cells cs T (0,0)):=fun i cs T hT hi=>(hg7.block i (Aj hi) (fun e=>by
       cases e;have h:=H6.out.1;unfold Boxed at h;rw [h] at hi;simp only [Option.some.injEq,Obj.cells.injEq] at hi;exact hT hi.2.1.symm)).trans hi
      have H7:Hid (Boxed w7 gl 48 (.slice (some ⟨g4,0,none⟩) (L+1) c4)/\w7.ownsRow B 65 3 (.slice (some ⟨g4,0,none⟩) (L+1) c4) (L+1) (Ak (acc++J6 true ((es.take k).filter (rfB (s,z) (s',z'))))++[.int .i64 x.1.1,.int .i64 x.1.2,.int .i64 x.2])/\NmOk 65 B w7 ⟨true,some ⟨bq,oq,none⟩,c,es⟩/\w7.heap[g1]?=some (.cells #[.int .i64 s,.int .i64 z] 42 (0,0))/\w7.heap[g2]?=some (.cells #[.int .i64 s',.int .i64 z'] 42 (0,0))/\w7.heap[g]?=some (.cells #[.bool true,.slice (some ⟨bq,oq,none⟩) n c] 114 (0,0))/\Mv (fun b=>b=gl\/v.ownBlock=some b) W w7/\wr.heap.size<=w7.heap.size):=hid ⟨hx7,H6.out.2.1.kept hg7 (.inr (Ne.symm (H6.out.1.not_row (by decide) H6.out.2.1))),H6.out.2.2.1.apart hg7 H6.out.1 (by decide),hother _ _ _ (by decide) H6.out.2.2.2.1,hother _ _ _ (by decide) H6.out.2.2.2.2.1,hother _ _ _ (by decide) H6.out.2.2.2.2.2.1,HM6.out.trans (Mv.of_grown hg7 fun j hj _=>by cases hj;exact .inl rfl),Nat.le_trans H6.out.2.2.2.2.2.2 hg7.size⟩;clear hw7 hg7 hx7 hother hc4 hf4 H6 HM6
      go_wp2_with fail
      go_roundw
      case rel=>
       obtain ⟨k1,k2,k3,k4,k5,k6,k7,k8⟩:=H7.out;refine ⟨k+1,_,by go_num,by omega,k1,?_,k3,k4,k5,k6,HN6.out,k7,Nat.le_trans HSZ.out k8⟩;rw [Gi] at k2;rw [Gi,XM HKL.out,<- HXE.out,show rfB (s,z) (s',z') x=true from by unfold rfB;rw [show CZ x.1 (s,z)=false from HB1.out,show CZ x.1 (s',z')=true from HBB2.out];rfl,if_pos rfl,<- List.append_assoc,G8,show Ak [x]=[.int .i64 x.1.1,.int .i64 x.1.2,.int .i64 x.2] from rfl,List.length_append,show (acc++(es.take k).filter (rfB (s,z) (s',z'))).length=L from by rw [HL.out,Gi]];exact k2
      case measure=>simp [intOf];omega
  ·have hkn:k=n:=by omega
   subst hkn;have H9:=hid (And.intro h1 (And.intro h2 (And.intro h7 h8)));clear h1 h2 h3 h4 h5 h6 h7 h8 h9 hlt hk
   go_wp2_with fail
   obtain ⟨h1,h2,h7,h8⟩:=H9.out;refine bodyPost_end (results_none rfl _ _ _) rfl ⟨⟨_,rfl⟩,u,h1,?_,h7.less HB.out.size,h8⟩;rw [HN.out,List.take_of_length_le (Nat.le_refl _)] at h2;exact h2
end Go.Proofs.YtfhdojnobmfefaaGreatDoor
namespace Go.Proofs.YtfhdojnobmfefaaGreatDoor
open Go.RowKit Go.Inc
structure EnvN (C:Nat->Nat) (gd pn n:Nat) (S:St) (tp pa:Nat) (rt ep:Int) (B gm gt gv gh gl:Nat) (W:World) (m:Nat) (v:Value) (acc:List Nat) (r':Int):Prop where
 dv:Dv C W gd pn n {S with r:=r'}
 tc:TC W tp gd pa rt ep
 bm:Boxed W gm 3 (.int .i64 (m:Int))
 bt:Boxed W gt 27 (.pointer (some ⟨tp,0,none⟩))
 bv:Boxed W gv 127 (.func (.func 78) #[] #[.pointer (some ⟨gl,0,none⟩)])
 bh:Boxed W gh 182 (.func (.func 114) #[] #[.pointer (some ⟨gm,0,none⟩),.pointer (some ⟨gt,0,none⟩),.pointer (some ⟨gv,0,none⟩),.pointer (some ⟨gh,0,none⟩)])
 bl:Boxed W gl 54 v
 row:W.ownsRow B 3 1 v acc.length (Dl acc)
 ge:B<=gm/\B<=gt/\B<=gv/\B<=gh/\B<=gl
 cb:∀ b,B<=b->C b=0
 lt:tp < B
 ap:v.ownBlock≠some gm
 ct:C tp=0
theorem EnvN.mv {C:Nat->Nat} {gd pn n:Nat} {S:St} {tp pa:Nat} {rt ep:Int} {B gm gt gv gh gl:Nat} {W W':World} {m:Nat} {v:Value} {acc:List Nat} {r':Int} {F:Nat->Prop} {r2:Int} (h:EnvN C gd pn n S tp pa rt ep B gm gt gv gh gl W m v acc r') (hd:Dv C W' gd pn n {S with r:=r2}) (hm:Mv F W W') (hF:∀ b,F b->b < W.heap.size->b < B) (ht:¬ F tp):EnvN C gd pn n S tp pa rt ep B gm gt gv gh gl W' m v acc r2:=
 ⟨hd,h.tc.mv hm ht,hm.row h.bm (fun hf=>by have:=hF _ hf (Aj h.bm);have:=h.ge.1;omega),hm.row h.bt (fun hf=>by have:=hF _ hf (Aj h.bt);have:=h.ge.2.1;omega),hm.row h.bv (fun hf=>by have:=hF _ hf (Aj h.bv);have:=h.ge.2.2.1;omega),hm.row h.bh (fun hf=>by have:=hF _ hf (Aj h.bh);have:=h.ge.2.2.2.1;omega),hm.row h.bl (fun hf=>by have:=hF _ hf (Aj h.bl);have:=h.ge.2.2.2.2;omega),Md h.row hm hF,h.ge,h.cb,h.lt,h.ap,h.ct⟩
theorem EnvN.below {C:Nat->Nat} {gd pn n:Nat} {S:St} {tp pa:Nat} {rt ep:Int} {B gm gt gv gh gl:Nat} {W W':World} {m:Nat} {v:Value} {acc:List Nat} {r':Int} (h:EnvN C gd pn n S tp pa rt ep B gm gt gv gh gl W m v acc r') (hb:Below W.heap.size W W'):EnvN C gd pn n S tp pa rt ep B gm gt gv gh gl W' m v acc r':=
 h.mv (F:=fun _=>False) (h.dv.below hb) (Mv.of_below hb) (fun _ hf _=>hf.elim) id
theorem EnvN.read {C:Nat->Nat} {gd pn n:Nat} {S:St} {tp pa:Nat} {rt ep:Int} {B gm gt gv gh gl:Nat} {W W':World} {m:Nat} {v:Value} {acc:List Nat} {r':Int} {r2:Int} (h:EnvN C gd pn n S tp pa rt ep B gm gt gv gh gl W m v acc r') (hd:Dv C W' gd pn n {S with r:=r2}) (hm:Mv (fun b=>C b≠0) W W'):EnvN C gd pn n S tp pa rt ep B gm gt gv gh gl W' m v acc r2:=
 h.mv hd hm (fun b hf _=>Nat.lt_of_not_le fun hh=>hf (h.cb b hh)) fun hh=>hh h.ct
theorem EnvN.count {C:Nat->Nat} {gd pn n:Nat} {S:St} {tp pa:Nat} {rt ep:Int} {B gm gt gv gh gl:Nat} {W:World} {m:Nat} {v:Value} {acc:List Nat} {r':Int} (h:EnvN C gd pn n S tp pa rt ep B gm gt gv gh gl W m v acc r') (m2:Nat):EnvN C gd pn n S tp pa rt ep B gm gt gv gh gl (W.setCell ⟨gm,0,none⟩ (.int .i64 (m2:Int))) m2 v acc r':=by
 have hg:=grownBy_setCell' W gm (.int .i64 (m2:Int));have hm:Mv (fun b=>b=gm) W (W.setCell ⟨gm,0,none⟩ (.int .i64 (m2:Int))):=Mv.of_grown hg fun j hj _=>by cases hj;rfl
 have hne:∀ (i:Nat) (cs:Array Value) (T:TypeId),T≠3->W.heap[i]?=some (.cells cs T (0,0))->i≠gm:=fun i cs T hT hi e=>by
  subst e;have hb:=h.bm;unfold Boxed at hb;rw [hb] at hi;simp only [Option.some.injEq,Obj.cells.injEq] at hi;exact hT hi.2.1.symm
 refine ⟨h.dv.keep hm fun i hi=>by rw [hi];exact h.cb gm h.ge.1,h.tc.mv hm (fun e=>by have:=h.lt;have:=h.ge.1;omega),h.bm.set _,hm.row h.bt (hne _ _ _ (by decide) h.bt),hm.row h.bv (hne _ _ _ (by decide) h.bv),hm.row h.bh (hne _ _ _ (by decide) h.bh),hm.row h.bl (hne _ _ _ (by decide) h.bl),?_,h.ge,h.cb,h.lt,h.ap,h.ct⟩;refine Ag h.row hm fun i hi e=>?_;subst e;rcases h.row.2 with ⟨e,_⟩ | ⟨g,cap,cur,e,_,hgg,_,_,hcs,_⟩
 ·rw [e] at hi;cases hi
 ·rw [e] at hi;have:g=i:=by simpa [Value.ownBlock] using hi
  subst this;exact h.ap (by rw [e];rfl)
theorem EnvN.visited {C:Nat->Nat} {gd pn n:Nat} {S:St} {tp pa:Nat} {rt ep:Int} {B gm gt gv gh gl:Nat} {W W':World} {m:Nat} {v:Value} {acc:List Nat} {r':Int} {v2:Value} {acc2:List Nat} (h:EnvN C gd pn n S tp pa rt ep B gm gt gv gh gl W m v acc r') (hx:Boxed W' gl 54 v2) (hr:W'.ownsRow B 3 1 v2 acc2.length (Dl acc2)) (hn:Nw W v v2) (hm:Mv (fun b=>b=gl\/v.ownBlock=some b) W W'):EnvN C gd pn n S tp pa rt ep B gm gt gv gh gl W' m v2 acc2 r':=by
 have hob:=AB h.row;have hne:∀ (i:Nat) (cs:Array Value) (T:TypeId),T≠54->v.ownBlock≠some i->W.heap[i]?=some (.cells cs T (0,0))->W'.heap[i]?=some (.cells cs T (0,0)):=fun i cs T hT hv hi=>hm.row hi fun e=>by
  rcases e with e | e
  ·subst e;have hb:=h.bl;unfold Boxed at hb;rw [hb] at hi;simp only [Option.some.injEq,Obj.cells.injEq] at hi;exact hT hi.2.1.symm
  ·exact hv e
 have hap:∀ (i:Nat) (cs:Array Value) (T:TypeId),T≠3->W.heap[i]?=some (.cells cs T (0,0))->v.ownBlock≠some i:=fun i cs T hT hi e=>by
  have hbx:∀ {cs:Array Value},W.heap[i]?=some (.cells cs T (0,0))->False:=fun hi=>by
   rcases h.row.2 with ⟨e',_⟩ | ⟨g,cap,cur,e',_,hgg,_⟩
   ·rw [e'] at e;cases e
   ·rw [e'] at e;have:g=i:=by simpa [Value.ownBlock] using e
    subst this;rw [hgg] at hi;simp only [Option.some.injEq,Obj.cells.injEq] at hi;exact hT hi.2.1.symm
  exact hbx hi
 refine ⟨h.dv.keep hm fun i hi=>?_,h.tc.mv hm (fun e=>?_),hne _ _ _ (by decide) h.ap h.bm,hne _ _ _ (by decide) (hap _ _ _ (by decide) h.bt) h.bt,hne _ _ _ (by decide) (hap _ _ _ (by decide) h.bv) h.bv,hne _ _ _ (by decide) (hap _ _ _ (by decide) h.bh) h.bh,hx,hr,h.ge,h.cb,h.lt,?_,h.ct⟩
 ·rcases hi with hi | hi
  ·rw [hi];exact h.cb gl h.ge.2.2.2.2
  ·exact h.cb i (hob i hi)
 ·rcases e with e | e
  ·have:=h.lt;have:=h.ge.2.2.2.2;omega
  ·have:=hob _ e;have:=h.lt;omega
 ·rcases hn with hn | ⟨j,hn,hj⟩
  ·rw [hn];exact h.ap
  ·rw [hn];intro e;simp only [Option.some.injEq] at e;have:=h.bm.lt;omega
structure EnvR (C:Nat->Nat) (gd pn n:Nat) (S:St) (tp pa:Nat) (rt ep:Int) (B gm gt gv gh gl:Nat) (g1 g2:Nat) (s z s' z':Int) (W:World) (m:Nat) (v:Value) (acc:List Et) (r':Int):Prop where
 dv:Dv C W gd pn n {S with r:=r'}
 tc:TC W tp gd pa rt ep
 bm:Boxed W gm 3 (.int .i64 (m:Int))
 bt:Boxed W gt 27 (.pointer (some ⟨tp,0,none⟩))
 bv:Boxed W gv 127 (.func (.func 65) #[] #[.pointer (some ⟨g1,0,none⟩),.pointer (some ⟨g2,0,none⟩),.pointer (some ⟨gl,0,none⟩)])
 bh:Boxed W gh 182 (.func (.func 114) #[] #[.pointer (some ⟨gm,0,none⟩),.pointer (some ⟨gt,0,none⟩),.pointer (some ⟨gv,0,none⟩),.pointer (some ⟨gh,0,none⟩)])
 bl:Boxed W gl 48 v
 row:W.ownsRow B 65 3 v acc.length (Ak acc)
 k1:W.heap[g1]?=some (.cells #[.int .i64 s,.int .i64 z] 42 (0,0))
 k2:W.heap[g2]?=some (.cells #[.int .i64 s',.int .i64 z'] 42 (0,0))
 ge:B<=gm/\B<=gt/\B<=gv/\B<=gh/\B<=gl/\B<=g1/\B<=g2
 cb:∀ b,B<=b->C b=0
 lt:tp < B
 ct:C tp=0
theorem EnvR.mv {C:Nat->Nat} {gd pn n:Nat} {S:St} {tp pa:Nat} {rt ep:Int} {B gm gt gv gh gl:Nat} {g1 g2:Nat} {s z s' z':Int} {W W':World} {m:Nat} {v:Value} {acc:List Et} {r':Int} {F:Nat->Prop} {r2:Int} (h:EnvR C gd pn n S tp pa rt ep B gm gt gv gh gl g1 g2 s z s' z' W m v acc r') (hd:Dv C W' gd pn n {S with r:=r2}) (hm:Mv F W W') (hF:∀ b,F b->b < W.heap.size->b < B) (ht:¬ F tp):EnvR C gd pn n S tp pa rt ep B gm gt gv gh gl g1 g2 s z s' z' W' m v acc r2:=
 ⟨hd,h.tc.mv hm ht,hm.row h.bm (fun hf=>by have:=hF _ hf (Aj h.bm);have:=h.ge.1;omega),hm.row h.bt (fun hf=>by have:=hF _ hf (Aj h.bt);have:=h.ge.2.1;omega),hm.row h.bv (fun hf=>by have:=hF _ hf (Aj h.bv);have:=h.ge.2.2.1;omega),hm.row h.bh (fun hf=>by have:=hF _ hf (Aj h.bh);have:=h.ge.2.2.2.1;omega),hm.row h.bl (fun hf=>by have:=hF _ hf (Aj h.bl);have:=h.ge.2.2.2.2.1;omega),Md h.row hm hF,hm.row h.k1 (fun hf=>by have:=hF _ hf (Aj h.k1);have:=h.ge.2.2.2.2.2.1;omega),hm.row h.k2 (fun hf=>by have:=hF _ hf (Aj h.k2);have:=h.ge.2.2.2.2.2.2;omega),h.ge,h.cb,h.lt,h.ct⟩
theorem EnvR.below {C:Nat->Nat} {gd pn n:Nat} {S:St} {tp pa:Nat} {rt ep:Int} {B gm gt gv gh gl:Nat} {g1 g2:Nat} {s z s' z':Int} {W W':World} {m:Nat} {v:Value} {acc:List Et} {r':Int} (h:EnvR C gd pn n S tp pa rt ep B gm gt gv gh gl g1 g2 s z s' z' W m v acc r') (hb:Below W.heap.size W W'):EnvR C gd pn n S tp pa rt ep B gm gt gv gh gl g1 g2 s z s' z' W' m v acc r':=
 h.mv (F:=fun _=>False) (h.dv.below hb) (Mv.of_below hb) (fun _ hf _=>hf.elim) id
theorem EnvR.read {C:Nat->Nat} {gd pn n:Nat} {S:St} {tp pa:Nat} {rt ep:Int} {B gm gt gv gh gl:Nat} {g1 g2:Nat} {s z s' z':Int} {W W':World} {m:Nat} {v:Value} {acc:List Et} {r':Int} {r2:Int} (h:EnvR C gd pn n S tp pa rt ep B gm gt gv gh gl g1 g2 s z s' z' W m v acc r') (hd:Dv C W' gd pn n {S with r:=r2}) (hm:Mv (fun b=>C b≠0) W W'):EnvR C gd pn n S tp pa rt ep B gm gt gv gh gl g1 g2 s z s' z' W' m v acc r2:=
 h.mv hd hm (fun b hf _=>Nat.lt_of_not_le fun hh=>hf (h.cb b hh)) fun hh=>hh h.ct
theorem EnvR.count {C:Nat->Nat} {gd pn n:Nat} {S:St} {tp pa:Nat} {rt ep:Int} {B gm gt gv gh gl:Nat} {g1 g2:Nat} {s z s' z':Int} {W:World} {m:Nat} {v:Value} {acc:List Et} {r':Int} (h:EnvR C gd pn n S tp pa rt ep B gm gt gv gh gl g1 g2 s z s' z' W m v acc r') (m2:Nat):EnvR C gd pn n S tp pa rt ep B gm gt gv gh gl g1 g2 s z s' z' (W.setCell ⟨gm,0,none⟩ (.int .i64 (m2:Int))) m2 v acc r':=by
 have hg:=grownBy_setCell' W gm (.int .i64 (m2:Int));have hm:Mv (fun b=>b=gm) W (W.setCell ⟨gm,0,none⟩ (.int .i64 (m2:Int))):=Mv.of_grown hg fun j hj _=>by cases hj;rfl
 have hne:∀ (i:Nat) (cs:Array Value) (T:TypeId),T≠3->W.heap[i]?=some (.cells cs T (0,0))->i≠gm:=fun i cs T hT hi e=>by
  subst e;have hb:=h.bm;unfold Boxed at hb;rw [hb] at hi;simp only [Option.some.injEq,Obj.cells.injEq] at hi;exact hT hi.2.1.symm
 refine ⟨h.dv.keep hm fun i hi=>by rw [hi];exact h.cb gm h.ge.1,h.tc.mv hm (fun e=>by have:=h.lt;have:=h.ge.1;omega),h.bm.set _,hm.row h.bt (hne _ _ _ (by decide) h.bt),hm.row h.bv (hne _ _ _ (by decide) h.bv),hm.row h.bh (hne _ _ _ (by decide) h.bh),hm.row h.bl (hne _ _ _ (by decide) h.bl),?_,hm.row h.k1 (hne _ _ _ (by decide) h.k1),hm.row h.k2 (hne _ _ _ (by decide) h.k2),h.ge,h.cb,h.lt,h.ct⟩;refine Ag h.row hm fun i hi e=>?_;subst e;exact h.bm.not_row (by decide) h.row hi.symm
theorem EnvR.visited {C:Nat->Nat} {gd pn n:Nat} {S:St} {tp pa:Nat} {rt ep:Int} {B gm gt gv gh gl:Nat} {g1 g2:Nat} {s z s' z':Int} {W W':World} {m:Nat} {v:Value} {acc:List Et} {r':Int} {v2:Value} {acc2:List Et} (h:EnvR C gd pn n S tp pa rt ep B gm gt gv gh gl g1 g2 s z s' z' W m v acc r') (hx:Boxed W' gl 48 v2) (hr:W'.ownsRow B 65 3 v2 acc2.length (Ak acc2)) (_:Nw W v v2) (hm:Mv (fun b=>b=gl\/v.ownBlock=some b) W W'):EnvR C gd pn n S tp pa rt ep B gm gt gv gh gl g1 g2 s z s' z' W' m v2 acc2 r':=by
 have hob:=AB h.row;have hne:∀ (i:Nat) (cs:Array Value) (T:TypeId),T≠48->v.ownBlock≠some i->W.heap[i]?=some (.cells cs T (0,0))->W'.heap[i]?=some (.cells cs T (0,0)):=fun i cs T hT hv hi=>hm.row hi fun e=>by
  rcases e with e | e
  ·subst e;have hb:=h.bl;unfold Boxed at hb;rw [hb] at hi;simp only [Option.some.injEq,Obj.cells.injEq] at hi;exact hT hi.2.1.symm
  ·exact hv e
 have hap:∀ (i:Nat) (cs:Array Value) (T:TypeId),T≠65->W.heap[i]?=some (.cells cs T (0,0))->v.ownBlock≠some i:=fun i cs T hT hi e=>by
  rcases h.row.2 with ⟨e',_⟩ | ⟨g,cap,cur,e',_,hgg,_⟩
  ·rw [e'] at e;cases e
  ·rw [e'] at e;have:g=i:=by simpa [Value.ownBlock] using e
   subst this;rw [hgg] at hi;simp only [Option.some.injEq,Obj.cells.injEq] at hi;exact hT hi.2.1.symm
 have hk:∀ (i:Nat) (cs:Array Value) (T:TypeId),T≠48->T≠65->W.heap[i]?=some (.cells cs T (0,0))->W'.heap[i]?=some (.cells cs T (0,0)):=fun i cs T h1 h2 hi=>hne i cs T h1 (hap i cs T h2 hi) hi;refine ⟨h.dv.keep hm fun i hi=>?_,h.tc.mv hm (fun e=>?_),hk _ _ _ (by decide) (by decide) h.bm,hk _ _ _ (by decide) (by decide) h.bt,hk _ _ _ (by decide) (by decide) h.bv,hk _ _ _ (by decide) (by decide) h.bh,hx,hr,hk _ _ _ (by decide) (by decide) h.k1,hk _ _ _ (by decide) (by decide) h.k2,h.ge,h.cb,h.lt,h.ct⟩
 ·rcases hi with hi | hi
  ·rw [hi];exact h.cb gl h.ge.2.2.2.2.1
  ·exact h.cb i (hob i hi)
 ·rcases e with e | e
  ·have:=h.lt;have:=h.ge.2.2.2.2.1;omega
  ·have:=hob _ e;have:=h.lt;omega
end Go.Proofs.YtfhdojnobmfefaaGreatDoor
namespace Go.Proofs.YtfhdojnobmfefaaGreatDoor
open Go.RowKit Go.Inc
set_option maxRecDepth 20000 in
set_option maxHeartbeats 8000000 in
theorem XH {C:Nat->Nat} {gd pn n:Nat} {S:St} {tp pa:Nat} {rt ep:Int} {B gm gt gv gh gl:Nat} (hon:S.on=true) (hby:∀ q,q < pn->Bytes (rd S q)) (hn:n<=1000000):∀ (D:Nat),∀ (p:Nat) (lv:Int) (m:Nat) (sh:Sh D) (ns:List Nat) (acc:List Nat) (v:Value) (W:World) (r':Int),EnvN C gd pn n S tp pa rt ep B gm gt gv gh gl W m v acc r'->IsN (CJ S) D p sh ns->okS D sh->1<=lv->lv+((D:Nat):Int)<=8->m+ns.length<=2048->(∀ q∈ns,q < pn)->acc.length<=16 * m->r'+(ns.length:Int)<=1000000->
  Calls Tryz.prog 114 #[.agg #[.int .i64 (p:Int),.int .i64 lv],.pointer (some ⟨gm,0,none⟩),.pointer (some ⟨gt,0,none⟩),.pointer (some ⟨gv,0,none⟩),.pointer (some ⟨gh,0,none⟩)] W fun e W'=>e=.returned (.int .i64 0)/\∃ v',EnvN C gd pn n S tp pa rt ep B gm gt gv gh gl W' (m+ns.length) v' (acc++ns) (r'+(ns.length:Int))/\(acc++ns).length<=16 * (m+ns.length)/\Nw W v v'/\Mv (fun b=>(C b≠0\/b=gm\/b=gl)\/v.ownBlock=some b) W W':=by
 have HS:=hid (And.intro hon (And.intro hby hn));clear hon hby hn;intro D
 induction D with
 | zero=>
  intro p lv m sh ns acc v W r' henv his hok hlv1 hlv hml hpn hac hrb;obtain ⟨hf,rfl⟩:=his;have h16:List.length sh<=16:=hok.2;obtain ⟨lf,hlf⟩:∃ lf,lf=true:=⟨_,rfl⟩
  obtain ⟨es,hes⟩:∃ es:List Et,es=sh:=⟨_,rfl⟩
  rw [<- hlf,<- hes] at hf;rw [<- hes] at h16;have HL:=hid (And.intro hlf hes);have HNE:Hid (es≠[]):=hid (by rw [hes];exact hok.1);have HHEAD:p∈[p]:=List.mem_singleton.2 rfl;have HPOS:Hid (0 < [p].length):=hid (Nat.zero_lt_one);clear hlf hes hok;have hpos:=HPOS.out;have HE:=hid henv;have HAC:=hid hac;have HML:=hid hml;have H16:=hid h16;have HF:=hid hf;obtain ⟨g0,hg0⟩:∃ g,g=W.heap.size:=⟨_,rfl⟩
  obtain ⟨W1,hW1⟩:∃ w,w=W.alloc (.cells #[.int .i64 (p:Int),.int .i64 lv] 184):=⟨_,rfl⟩
  have HW1:=hid hW1;have HG0:=hid hg0;have hb1:Below W.heap.size W W1:=by rw [hW1];exact Ad W _
  have hx1:W1.heap[g0]?=some (.cells #[.int .i64 (p:Int),.int .i64 lv] 184 (0,0)):=by rw [hW1,hg0];exact heap_alloc_new W _
  have hE1:=henv.below hb1;have HBW:Hid (B<=W.heap.size):=hid (by have:=henv.bm.lt;have:=henv.ge.1;omega);have hcm:=hE1.bm.cell;have hfm:=hE1.bm.frozen;have hm1:((m:Int) == 2048)=false:=by rw [beq_eq_false_iff_ne];omega
  have hm2:(m=2048)=False:=eq_false (by omega);have hm3:(m:Int)+1<=2048:=by omega
  have HE1:=hid hE1;have HX1:=hid hx1;have HB1:=hid hb1;have HPN:=hid hpn;have HRB:=hid hrb;have HLV:=hid hlv;have HLV1:=hid hlv1;clear hlv1 hW1 hg0 hb1 hx1 hE1 henv hac hml h16 hf hpn hrb hlv
  go_enter Tryz.func114,Tryz.ntmps114
  go_upto_region 1 with fail
  rw [<- HW1.out,<- HG0.out];clear HW1
  go_upto_region 4 with fail
  obtain ⟨W2,hW2⟩:∃ w,w=W1.setCell ⟨gm,0,none⟩ (.int .i64 ((m+1:Nat):Int)):=⟨_,rfl⟩
  have hW2':W1.setCell ⟨gm,0,none⟩ (.int .i64 ((m:Int)+1))=W2:=by rw [hW2];rfl
  rw [hW2'];have hE2:EnvN C gd pn n S tp pa rt ep B gm gt gv gh gl W2 (m+1) v acc r':=by rw [hW2];exact HE1.out.count (m+1)
  have hg2:W1.grownBy W2 (some gm):=by rw [hW2];exact grownBy_setCell' W1 gm _
  have hgm0:gm≠g0:=by have:=HE.out.bm.lt;have:=HG0.out;omega
  have hx2:W2.heap[g0]?=some (.cells #[.int .i64 (p:Int),.int .i64 lv] 184 (0,0)):=(hg2.block g0 (Aj HX1.out) (fun e=>hgm0 (by cases e;rfl))).trans HX1.out;have HM2:Hid (Mv (fun b=>(C b≠0\/b=gm\/b=gl)\/v.ownBlock=some b) W W2):=hid ((Mv.of_below HB1.out).trans (Mv.of_grown hg2 fun j hj _=>by cases hj;exact .inl (.inr (.inl rfl))));have hct:=hE2.bt.cell;have hp0:W2.cell? ⟨g0,0,none⟩=some (.int .i64 (p:Int)):=coR hx2;have hp1:W2.cell? ⟨g0,1,none⟩=some (.int .i64 lv):=coR hx2;have HE2:=hid hE2;have HX2:=hid hx2;have HS2:Hid (W1.heap.size<=W2.heap.size/\g0 < W1.heap.size):=hid ⟨hg2.size,Aj HX1.out⟩;have HND:=hid (EM (w:=W2) hE2.dv hE2.tc hE2.ct HS.out.1 HS.out.2.2 (show r'<=1000000 by have:=HRB.out;omega) p lv (by have:=HLV.out;omega) (HPN.out p HHEAD) (HS.out.2.1 p (HPN.out p HHEAD)) lf es HF.out);clear hW2 hW2' hE2 hg2 hx2 hgm0 HE1 hm1 hm2 hm3 hcm hfm
  go_wp2_with fail
  refine HND.out.mono ?_;clear HND hct hp0 hp1;rintro e W3 ⟨⟨nv,rfl,a1,n1,c1,rfl,hok3,hnew3⟩,hd3,hmv3⟩;have hn1:n1=es.length:=hok3.1;obtain ⟨W4,hW4⟩:∃ w,w=W3.alloc (.cells #[.bool lf,.slice a1 n1 c1] 114):=⟨_,rfl⟩
  obtain ⟨g7,hg7⟩:∃ g,g=W3.heap.size:=⟨_,rfl⟩
  have HW4:=hid hW4;have HG7:=hid hg7;have hb4:Below W3.heap.size W3 W4:=by rw [hW4];exact Ad W3 _
  have hE3:=HE2.out.read hd3 hmv3;have HE4:=hid (hE3.below hb4);have hx4:W4.heap[g7]?=some (.cells #[.bool lf,.slice a1 n1 c1] 114 (0,0)):=by rw [hW4,hg7];exact heap_alloc_new W3 _
  have HX4:=hid hx4;have HXP4:=hid (Ac (hmv3.row HX2.out fun hh=>hh (HE2.out.cb g0 (by have:=HBW.out;have:=HG0.out;omega))) hb4);have HM4:Hid (Mv (fun b=>(C b≠0\/b=gm\/b=gl)\/v.ownBlock=some b) W W4):=hid (HM2.out.trans' (hmv3.trans (Mv.of_below hb4)) fun i _ h=>.inl (.inl h));have HS43:Hid (W2.heap.size<=W3.heap.size):=hid hmv3.size;have HS4:Hid (W.heap.size<=W2.heap.size/\W2.heap.size<=W4.heap.size):=hid ⟨Nat.le_trans HB1.out.size HS2.out.1,Nat.le_trans hmv3.size hb4.size⟩;have HNM4:Hid (NmOk 65 W.heap.size W4 ⟨lf,a1,c1,es⟩):=hid ⟨by rw [<- hn1];exact hok3.below hb4,(hnew3.below hb4).weaken HS4.out.1⟩;have HAP4:Hid (∀ b o,a1=some ⟨b,o,none⟩->v.ownBlock≠some b):=hid fun b o hab e=>by
   rcases hnew3 with h0 | ⟨b',o',e1,⟨h2,-⟩,-⟩
   ·exact HNE.out h0
   ·rw [hab] at e1;simp only [Option.some.injEq,Addr.mk.injEq] at e1;obtain ⟨rfl,-,-⟩:=e1;rcases HE.out.row.lt b e with ⟨-,h3⟩;have:=HS4.out.1;omega
  have HN1:=hid hn1;have HBQ:=hid (HNM4.out.blk HNE.out);have HVI:=hid (MJ p lf a1 n1 c1 HE4.out.bl HE4.out.row (by have:=HAC.out;have:=HML.out;omega) (by have:=HBW.out;have:=HS4.out;omega));have hcv:=HE4.out.bv.cell;have hp0:W4.cell? ⟨g0,0,none⟩=some (.int .i64 (p:Int)):=coR HXP4.out;have hl0:W4.cell? ⟨g7,0,none⟩=some (.bool lf):=coR hx4;have hl1:W4.cell? ⟨g7,1,none⟩=some (.slice a1 n1 c1):=coR hx4;clear hW4 hg7 hb4 hx4 hE3 hok3 hnew3 hd3 hmv3 hn1 HE2 HX2 HM2
  go_upto_region 7 with fail
  rw [<- HW4.out,<- HG7.out];clear HW4
  go_wp2_with fail
  refine HVI.out.mono ?_;clear HVI hcv hp0 hl0 hl1;rintro e W5 ⟨⟨u5,rfl⟩,v5,hx5,hr5,hn5,hm5⟩;have hF5:∀ b,(b=gl\/v.ownBlock=some b)->b < W4.heap.size->b < W.heap.size:=fun b hb _=>by
   rcases hb with hb | hb
   ·rw [hb];exact HE.out.bl.lt
   ·exact (HE.out.row.lt b hb).2
  have HE5:=hid (HE4.out.visited hx5 hr5 hn5 hm5);have HX5:=hid (hm5.row HX4.out fun hh=>by have:=hF5 _ hh (Aj HX4.out);have:=HG7.out;have:=HS4.out;have:=HS43.out;omega);have HXP5:=hid (hm5.row HXP4.out fun hh=>by have:=hF5 _ hh (Aj HXP4.out);have:=HG0.out;omega);have HNM5:=hid (HNM4.out.mv hm5 hF5);have HM5:Hid (Mv (fun b=>(C b≠0\/b=gm\/b=gl)\/v.ownBlock=some b) W W5):=hid (HM4.out.trans' hm5 fun i _ h=>h.elim (fun h=>.inl (.inr (.inr h))) .inr);have HNW5:Hid (Nw W v v5):=hid (hn5.less (Nat.le_trans HS4.out.1 HS4.out.2));have HOB5:Hid (∀ j,v5.ownBlock=some j->j < W.heap.size\/W4.heap.size<=j):=hid fun j hj=>by
   rcases hn5 with h | ⟨i,h,hi⟩
   ·rw [h] at hj;exact .inl (HE.out.row.lt j hj).2
   ·rw [h] at hj;cases hj;exact .inr hi
  have HS5:=hid hm5.size;have hl0:W5.cell? ⟨g7,0,none⟩=some (.bool lf):=coR HX5.out;have hl1:W5.cell? ⟨g7,1,none⟩=some (.slice a1 n1 c1):=coR HX5.out;have HGML:Hid (gm < W.heap.size/\gl < W.heap.size):=hid ⟨HE.out.bm.lt,HE.out.bl.lt⟩;have HG74:Hid (g7 < W4.heap.size):=hid (Aj HX4.out);clear hx5 hr5 hn5 hm5 hF5 HE4 HX4 HXP4 HM4 HNM4 HAP4 HE;obtain ⟨rfl,rfl⟩:=HL.out
  go_wp2_with fail
  go_ret
  refine ⟨rfl,v5,HE5.out,?_,HNW5.out,HM5.out⟩;have:=HAC.out;rw [List.length_append];simp;omega
 | succ D ih=>
  intro p lv m cs ns acc v W r' henv his hok hlv1 hlv hml hpn hac hrb;obtain ⟨l,hll,hf,hns,hch⟩:=his;have h16:(Ii D cs l).length<=16:=by rw [EO hll];exact hok.2.1
  obtain ⟨lf,hlf⟩:∃ lf,lf=false:=⟨_,rfl⟩
  obtain ⟨es,hes⟩:∃ es:List Et,es=Ii D cs l:=⟨_,rfl⟩
  rw [<- hlf,<- hes] at hf;rw [<- hes] at h16;have HNE:Hid (es≠[]):=hid (by
   intro h0;have h1:(Ii D cs l).length=0:=by rw [<- hes,h0];rfl
   rw [EO hll] at h1;exact hok.1 (List.eq_nil_of_length_eq_zero h1))
  have HL:=hid (And.intro hlf hes);have HHEAD:p∈ns:=by rw [hns];exact List.mem_cons_self ..
  have HPOS:Hid (0 < ns.length):=hid (List.length_pos_of_mem HHEAD);have HOKC:=hid hok;have HLL:=hid hll;have HNS:=hid hns;have HCH:=hid hch;clear hlf hes hok hll hns hch;have hpos:=HPOS.out;have HE:=hid henv;have HAC:=hid hac;have HML:=hid hml;have H16:=hid h16;have HF:=hid hf;obtain ⟨g0,hg0⟩:∃ g,g=W.heap.size:=⟨_,rfl⟩
  obtain ⟨W1,hW1⟩:∃ w,w=W.alloc (.cells #[.int .i64 (p:Int),.int .i64 lv] 184):=⟨_,rfl⟩
  have HW1:=hid hW1;have HG0:=hid hg0;have hb1:Below W.heap.size W W1:=by rw [hW1];exact Ad W _
  have hx1:W1.heap[g0]?=some (.cells #[.int .i64 (p:Int),.int .i64 lv] 184 (0,0)):=by rw [hW1,hg0];exact heap_alloc_new W _
  have hE1:=henv.below hb1;have HBW:Hid (B<=W.heap.size):=hid (by have:=henv.bm.lt;have:=henv.ge.1;omega);have hcm:=hE1.bm.cell;have hfm:=hE1.bm.frozen;have hm1:((m:Int) == 2048)=false:=by rw [beq_eq_false_iff_ne];omega
  have hm2:(m=2048)=False:=eq_false (by omega);have hm3:(m:Int)+1<=2048:=by omega
  have HE1:=hid hE1;have HX1:=hid hx1;have HB1:=hid hb1;have HPN:=hid hpn;have HRB:=hid hrb;have HLV:=hid hlv;have HLV1:=hid hlv1;clear hlv1 hW1 hg0 hb1 hx1 hE1 henv hac hml h16 hf hpn hrb hlv
  go_enter Tryz.func114,Tryz.ntmps114
  go_upto_region 1 with fail
  rw [<- HW1.out,<- HG0.out];clear HW1
  go_upto_region 4 with fail
  obtain ⟨W2,hW2⟩:∃ w,w=W1.setCell ⟨gm,0,none⟩ (.int .i64 ((m+1:Nat):Int)):=⟨_,rfl⟩
  have hW2':W1.setCell ⟨gm,0,none⟩ (.int .i64 ((m:Int)+1))=W2:=by rw [hW2];rfl
  rw [hW2'];have hE2:EnvN C gd pn n S tp pa rt ep B gm gt gv gh gl W2 (m+1) v acc r':=by rw [hW2];exact HE1.out.count (m+1)
  have hg2:W1.grownBy W2 (some gm):=by rw [hW2];exact grownBy_setCell' W1 gm _
  have hgm0:gm≠g0:=by have:=HE.out.bm.lt;have:=HG0.out;omega
  have hx2:W2.heap[g0]?=some (.cells #[.int .i64 (p:Int),.int .i64 lv] 184 (0,0)):=(hg2.block g0 (Aj HX1.out) (fun e=>hgm0 (by cases e;rfl))).trans HX1.out;have HM2:Hid (Mv (fun b=>(C b≠0\/b=gm\/b=gl)\/v.ownBlock=some b) W W2):=hid ((Mv.of_below HB1.out).trans (Mv.of_grown hg2 fun j hj _=>by cases hj;exact .inl (.inr (.inl rfl))));have hct:=hE2.bt.cell;have hp0:W2.cell? ⟨g0,0,none⟩=some (.int .i64 (p:Int)):=coR hx2;have hp1:W2.cell? ⟨g0,1,none⟩=some (.int .i64 lv):=coR hx2;have HE2:=hid hE2;have HX2:=hid hx2;have HS2:Hid (W1.heap.size<=W2.heap.size/\g0 < W1.heap.size):=hid ⟨hg2.size,Aj HX1.out⟩;have HND:=hid (EM (w:=W2) hE2.dv hE2.tc hE2.ct HS.out.1 HS.out.2.2 (show r'<=1000000 by have:=HRB.out;omega) p lv (by have:=HLV.out;omega) (HPN.out p HHEAD) (HS.out.2.1 p (HPN.out p HHEAD)) lf es HF.out);clear hW2 hW2' hE2 hg2 hx2 hgm0 HE1 hm1 hm2 hm3 hcm hfm
  go_wp2_with fail
  refine HND.out.mono ?_;clear HND hct hp0 hp1;rintro e W3 ⟨⟨nv,rfl,a1,n1,c1,rfl,hok3,hnew3⟩,hd3,hmv3⟩;have hn1:n1=es.length:=hok3.1;obtain ⟨W4,hW4⟩:∃ w,w=W3.alloc (.cells #[.bool lf,.slice a1 n1 c1] 114):=⟨_,rfl⟩
  obtain ⟨g7,hg7⟩:∃ g,g=W3.heap.size:=⟨_,rfl⟩
  have HW4:=hid hW4;have HG7:=hid hg7;have hb4:Below W3.heap.size W3 W4:=by rw [hW4];exact Ad W3 _
  have hE3:=HE2.out.read hd3 hmv3;have HE4:=hid (hE3.below hb4);have hx4:W4.heap[g7]?=some (.cells #[.bool lf,.slice a1 n1 c1] 114 (0,0)):=by rw [hW4,hg7];exact heap_alloc_new W3 _
  have HX4:=hid hx4;have HXP4:=hid (Ac (hmv3.row HX2.out fun hh=>hh (HE2.out.cb g0 (by have:=HBW.out;have:=HG0.out;omega))) hb4);have HM4:Hid (Mv (fun b=>(C b≠0\/b=gm\/b=gl)\/v.ownBlock=some b) W W4):=hid (HM2.out.trans' (hmv3.trans (Mv.of_below hb4)) fun i _ h=>.inl (.inl h));have HS43:Hid (W2.heap.size<=W3.heap.size):=hid hmv3.size;have HS4:Hid (W.heap.size<=W2.heap.size/\W2.heap.size<=W4.heap.size):=hid ⟨Nat.le_trans HB1.out.size HS2.out.1,Nat.le_trans hmv3.size hb4.size⟩;have HNM4:Hid (NmOk 65 W.heap.size W4 ⟨lf,a1,c1,es⟩):=hid ⟨by rw [<- hn1];exact hok3.below hb4,(hnew3.below hb4).weaken HS4.out.1⟩;have HAP4:Hid (∀ b o,a1=some ⟨b,o,none⟩->v.ownBlock≠some b):=hid fun b o hab e=>by
   rcases hnew3 with h0 | ⟨b',o',e1,⟨h2,-⟩,-⟩
   ·exact HNE.out h0
   ·rw [hab] at e1;simp only [Option.some.injEq,Addr.mk.injEq] at e1;obtain ⟨rfl,-,-⟩:=e1;rcases HE.out.row.lt b e with ⟨-,h3⟩;have:=HS4.out.1;omega
  have HN1:=hid hn1;have HBQ:=hid (HNM4.out.blk HNE.out);have HVI:=hid (MJ p lf a1 n1 c1 HE4.out.bl HE4.out.row (by have:=HAC.out;have:=HML.out;omega) (by have:=HBW.out;have:=HS4.out;omega));have hcv:=HE4.out.bv.cell;have hp0:W4.cell? ⟨g0,0,none⟩=some (.int .i64 (p:Int)):=coR HXP4.out;have hl0:W4.cell? ⟨g7,0,none⟩=some (.bool lf):=coR hx4;have hl1:W4.cell? ⟨g7,1,none⟩=some (.slice a1 n1 c1):=coR hx4;clear hW4 hg7 hb4 hx4 hE3 hok3 hnew3 hd3 hmv3 hn1 HE2 HX2 HM2
  go_upto_region 7 with fail
  rw [<- HW4.out,<- HG7.out];clear HW4
  go_wp2_with fail
  refine HVI.out.mono ?_;clear HVI hcv hp0 hl0 hl1;rintro e W5 ⟨⟨u5,rfl⟩,v5,hx5,hr5,hn5,hm5⟩;have hF5:∀ b,(b=gl\/v.ownBlock=some b)->b < W4.heap.size->b < W.heap.size:=fun b hb _=>by
   rcases hb with hb | hb
   ·rw [hb];exact HE.out.bl.lt
   ·exact (HE.out.row.lt b hb).2
  have HE5:=hid (HE4.out.visited hx5 hr5 hn5 hm5);have HX5:=hid (hm5.row HX4.out fun hh=>by have:=hF5 _ hh (Aj HX4.out);have:=HG7.out;have:=HS4.out;have:=HS43.out;omega);have HXP5:=hid (hm5.row HXP4.out fun hh=>by have:=hF5 _ hh (Aj HXP4.out);have:=HG0.out;omega);have HNM5:=hid (HNM4.out.mv hm5 hF5);have HM5:Hid (Mv (fun b=>(C b≠0\/b=gm\/b=gl)\/v.ownBlock=some b) W W5):=hid (HM4.out.trans' hm5 fun i _ h=>h.elim (fun h=>.inl (.inr (.inr h))) .inr);have HNW5:Hid (Nw W v v5):=hid (hn5.less (Nat.le_trans HS4.out.1 HS4.out.2));have HOB5:Hid (∀ j,v5.ownBlock=some j->j < W.heap.size\/W4.heap.size<=j):=hid fun j hj=>by
   rcases hn5 with h | ⟨i,h,hi⟩
   ·rw [h] at hj;exact .inl (HE.out.row.lt j hj).2
   ·rw [h] at hj;cases hj;exact .inr hi
  have HS5:=hid hm5.size;have hl0:W5.cell? ⟨g7,0,none⟩=some (.bool lf):=coR HX5.out;have hl1:W5.cell? ⟨g7,1,none⟩=some (.slice a1 n1 c1):=coR HX5.out;have HGML:Hid (gm < W.heap.size/\gl < W.heap.size):=hid ⟨HE.out.bm.lt,HE.out.bl.lt⟩;have HG74:Hid (g7 < W4.heap.size):=hid (Aj HX4.out);clear hx5 hr5 hn5 hm5 hF5 HE4 HX4 HXP4 HM4 HNM4 HAP4 HE;obtain ⟨hlf,hes⟩:=HL.out;subst hlf
  go_wp2_with fail
  clear hl0 hl1;have HN1L:Hid (n1=List.length cs):=hid (by rw [HN1.out,hes,EO HLL.out]);have hn16:(n1:Int)<=16:=by have:=HN1.out;have:=H16.out;omega
  go_loopw [35] (fun i wr=>∃ (k:Nat) (v':Value),i=.int .i64 (k:Int)/\k<=n1/\EnvN C gd pn n S tp pa rt ep B gm gt gv gh gl wr (m+1+((l.take k).flatMap (·.2)).length) v' (acc++[p]++(l.take k).flatMap (·.2)) (r'+1+(((l.take k).flatMap (·.2)).length:Int))/\(acc++[p]++(l.take k).flatMap (·.2)).length<=16 * (m+1+((l.take k).flatMap (·.2)).length)/\(∀ j,v'.ownBlock=some j->j < W.heap.size\/W4.heap.size<=j)/\wr.heap[g7]?=some (.cells #[.bool false,.slice a1 n1 c1] 114 (0,0))/\wr.heap[g0]?=some (.cells #[.int .i64 (p:Int),.int .i64 lv] 184 (0,0))/\NmOk 65 W.heap.size wr ⟨false,a1,c1,es⟩/\Nw W v v'/\Mv (fun b=>(C b≠0\/b=gm\/b=gl)\/v.ownBlock=some b) W wr/\W4.heap.size<=wr.heap.size) (fun i _=>n1+1 - (intOf i).toNat)
  case atStart=>
   refine ⟨0,v5,rfl,Nat.zero_le _,?_,?_,HOB5.out,HX5.out,HXP5.out,HNM5.out,HNW5.out,HM5.out,HS5.out⟩
   ·have h:=HE5.out;simpa using h
   ·have:=HAC.out;simp;omega
  case round=>
   obtain ⟨k,v',rfl,hk,q1,q2,q3,q4,q5,q6,q7,q8,q9⟩:=hrel;by_cases hlt:(k:Int) < (n1:Int)
   ·have hkc:k < List.length cs:=by have:=HN1L.out;omega
    have hkl:k < l.length:=by rw [HLL.out];exact hkc
    obtain ⟨c,hc⟩:∃ c,cs[k]?=some c:=⟨_,List.getElem?_eq_getElem hkc⟩
    obtain ⟨q,hq⟩:∃ q,l[k]?=some q:=⟨_,List.getElem?_eq_getElem hkl⟩
    have hent:es.getD k et0=(Es D c,(q.1:Int)):=by rw [hes];exact MR hc hq
    have hkes:k < es.length:=by have:=HN1.out;omega
    obtain ⟨bq,oq,hae,hce⟩:∃ bq oq,a1=some ⟨bq,oq,none⟩/\wr.cell? ⟨bq,oq+k * 3,none⟩=some (.int .i64 (es.getD k et0).1.1)/\wr.cell? ⟨bq,oq+k * 3+1,none⟩=some (.int .i64 (es.getD k et0).1.2)/\wr.cell? ⟨bq,oq+k * 3+2,none⟩=some (.int .i64 (es.getD k et0).2):=by
     rcases q6.2 with h0 | ⟨bq,oq,e1,-,e2⟩
     ·rw [show es=[] from h0] at hkes;cases hkes
     ·exact ⟨bq,oq,e1,e2 k hkes⟩
    rw [hent] at hce;obtain ⟨xs,hxs⟩:∃ xs,xs=(Es D c).1:=⟨_,rfl⟩
    obtain ⟨xz,hxz⟩:∃ xz,xz=(Es D c).2:=⟨_,rfl⟩
    simp only [<- hxs,<- hxz] at hce;obtain ⟨hq0,hq1,hq2⟩:=hce;have hcq:=HCH.out k c q hc hq;have htk:(l.take (k+1)).flatMap (·.2)=(l.take k).flatMap (·.2)++q.2:=by
     rw [List.take_succ_eq_append_getElem hkl,List.flatMap_append];have:l[k]=q:=by rw [List.getElem?_eq_getElem hkl] at hq;exact Option.some.inj hq
     rw [this];simp
    have htc:True:=trivial;have hsub:(l.take k).flatMap (·.2)++q.2=(l.take (k+1)).flatMap (·.2):=htk.symm;have hlen:((l.take k).flatMap (·.2)).length+q.2.length+1<=ns.length:=by
     have h1:((l.take (k+1)).flatMap (·.2)).length<=(l.flatMap (·.2)).length:=by
      conv=>rhs;rw [<- List.take_append_drop (k+1) l]
      rw [List.flatMap_append,List.length_append];omega
     rw [htk,List.length_append] at h1;rw [HNS.out,List.length_cons];omega
    have hqn:∀ x∈q.2,x < pn:=fun x hx=>HPN.out x (by rw [HNS.out];exact List.mem_cons_of_mem _ (List.mem_flatMap.2 ⟨q,List.mem_of_getElem? hq,hx⟩));obtain ⟨w2,hw2⟩:∃ w2,w2=wr.alloc (.cells #[.int .i64 xs,.int .i64 xz,.int .i64 (q.1:Int)] 65):=⟨_,rfl⟩
    obtain ⟨g10,hg10⟩:∃ g,g=wr.heap.size:=⟨_,rfl⟩
    have HW2:=hid hw2;have HG10:=hid hg10;have hb2:Below wr.heap.size wr w2:=by rw [hw2];exact Ad wr _
    have hx10:w2.heap[g10]?=some (.cells #[.int .i64 xs,.int .i64 xz,.int .i64 (q.1:Int)] 65 (0,0)):=by rw [hw2,hg10];exact heap_alloc_new wr _
    have HQ1:=hid (q1.below hb2);have HQ3:=hid q3;have HQ4:=hid (Ac q4 hb2);have HQ5:=hid (Ac q5 hb2);have HQ6:=hid (q6.below hb2);have HQ7:=hid q7;have HQ8:Hid (Mv (fun b=>(C b≠0\/b=gm\/b=gl)\/v.ownBlock=some b) W w2):=hid (q8.trans (Mv.of_below hb2));have HQ9:Hid (W4.heap.size<=w2.heap.size):=hid (Nat.le_trans q9 hb2.size);have HIH:=hid (ih q.1 (lv+1) _ c q.2 _ v' w2 _ HQ1.out hcq (HOKC.out.2.2 c (List.mem_of_getElem? hc)) (by have:=HLV1.out;omega) (by have:=HLV.out;omega) (by have:=HML.out;omega) hqn q2 (by have:=HRB.out;omega));have HTK:=hid htk;have HTC:=hid htc;have hch:=HQ1.out.bh.cell;have hy2:w2.cell? ⟨g10,2,none⟩=some (.int .i64 (q.1:Int)):=coR hx10;have hz1:w2.cell? ⟨g0,1,none⟩=some (.int .i64 lv):=coR HQ5.out;have hlv8:lv<=8:=by have:=HLV.out;omega
    have hlvm:-9223372036854775808<=lv:=by have:=HLV1.out;omega
    subst hae;clear q1 q2 q3 q4 q5 q6 q7 q8 q9 hw2 hg10 hb2 hx10 hent hkes hkc hkl hc hq hcq htk htc hsub hlen hqn hxs hxz hk
    go_upto_region 13 with fail
    rw [<- HW2.out,<- HG10.out];clear HW2 hq0 hq1 hq2
    go_wp2_with fail
    refine HIH.out.mono ?_;clear HIH hch hy2 hz1;rintro e w3 ⟨rfl,v3,he3,hl3,hn3,hm3⟩;have hF3:∀ b,((C b≠0\/b=gm\/b=gl)\/v'.ownBlock=some b)->b < w2.heap.size->b < W.heap.size\/W4.heap.size<=b:=fun b hb _=>by
     rcases hb with (hb | hb | hb) | hb
     ·exact .inl (Nat.lt_of_not_le fun hh=>hb (HE5.out.cb b (Nat.le_trans HBW.out hh)))
     ·rw [hb];exact .inl HGML.out.1
     ·rw [hb];exact .inl HGML.out.2
     ·exact HQ3.out b hb
    have HR3:Hid (w3.heap[g7]?=some (.cells #[.bool false,.slice (some ⟨bq,oq,none⟩) n1 c1] 114 (0,0))):=hid (hm3.row HQ4.out fun hh=>by have:=hF3 _ hh (Aj HQ4.out);have:=HG7.out;have:=HS4.out;have:=HS43.out;have:=HG74.out;omega);have HP3:Hid (w3.heap[g0]?=some (.cells #[.int .i64 (p:Int),.int .i64 lv] 184 (0,0))):=hid (hm3.row HQ5.out fun hh=>by have:=hF3 _ hh (Aj HQ5.out);have:=HG0.out;have:=HS2.out;have:=HS4.out;omega);have HNM3:Hid (NmOk 65 W.heap.size w3 ⟨false,some ⟨bq,oq,none⟩,c1,es⟩):=hid (HQ6.out.keepA fun b o hb=>by
     have hbb:=HBQ.out b o hb;refine hm3.block b (by have:=HQ9.out;omega) fun hh=>?_;have:=hF3 b hh (by have:=HQ9.out;omega);omega)
    have HN3:Hid (Nw W v v3):=hid (HQ7.out.trans hn3 HQ8.out.size);have HO3:Hid (∀ j,v3.ownBlock=some j->j < W.heap.size\/W4.heap.size<=j):=hid fun j hj=>by
     rcases hn3 with h | ⟨i,h,hi⟩
     ·rw [h] at hj;exact HQ3.out j hj
     ·rw [h] at hj;cases hj;exact .inr (Nat.le_trans HQ9.out hi)
    have HM3:Hid (Mv (fun b=>(C b≠0\/b=gm\/b=gl)\/v.ownBlock=some b) W w3):=hid (Nw.mv (F:=fun b=>C b≠0\/b=gm\/b=gl) HQ7.out HQ8.out hm3);have HE3:=hid he3;have HL3:=hid hl3;have HS3:Hid (W4.heap.size<=w3.heap.size):=hid (Nat.le_trans HQ9.out hm3.size);clear he3 hl3 hn3 hm3 hF3 HQ1 HQ4 HQ5 HQ6
    go_wp2_with fail
    go_roundw
    case rel=>
     refine ⟨k+1,v3,by go_num,by omega,?_,?_,HO3.out,HR3.out,HP3.out,HNM3.out,HN3.out,HM3.out,HS3.out⟩
     ·have h:=HE3.out;rw [HTK.out,List.length_append];simpa [List.append_assoc,Nat.add_assoc,Int.add_assoc] using h
     ·have h:=HL3.out;rw [HTK.out,List.length_append];simp only [List.length_append,List.length_cons,List.length_nil] at h ⊢;omega
    case measure=>simp [intOf];omega
   ·have hkn:k=n1:=by omega
    have hkl:k=l.length:=by rw [HLL.out];have:=HN1L.out;omega
    rw [hkl,List.take_length] at q1 q2;have HQ1:=hid q1;have HQ2:=hid q2;have HQ7:=hid q7;have HQ8:=hid q8;have HKC:=hid hkl;clear q1 q2 q3 q4 q5 q6 q7 q8 q9 hkn hkl
    go_wp2_with fail
    go_ret
    refine ⟨rfl,v',?_,?_,HQ7.out,HQ8.out⟩
    ·have h:=HQ1.out;rw [HNS.out,List.length_cons];have e1:m+((l.flatMap (·.2)).length+1)=m+1+(l.flatMap (·.2)).length:=by omega
     have e2:r'+(((l.flatMap (·.2)).length+1:Nat):Int)=r'+1+((l.flatMap (·.2)).length:Int):=by omega
     rw [e1,e2];simpa [List.append_assoc] using h
    ·have h:=HQ2.out;rw [HNS.out,List.length_cons];have e1:m+((l.flatMap (·.2)).length+1)=m+1+(l.flatMap (·.2)).length:=by omega
     rw [e1];simpa [List.append_assoc] using h
set_option maxRecDepth 20000 in
set_option maxHeartbeats 8000000 in
theorem XG {C:Nat->Nat} {gd pn n:Nat} {S:St} {tp pa:Nat} {rt ep:Int} {B gm gt gv gh gl:Nat} {g1 g2:Nat} {s z s' z':Int} (hon:S.on=true) (hby:∀ q,q < pn->Bytes (rd S q)) (hn:n<=1000000):∀ (D:Nat),∀ (p:Nat) (lv:Int) (m:Nat) (sh:Sh D) (ns:List Nat) (acc:List Et) (v:Value) (W:World) (r':Int),EnvR C gd pn n S tp pa rt ep B gm gt gv gh gl g1 g2 s z s' z' W m v acc r'->IsN (CJ S) D p sh ns->okS D sh->1<=lv->lv+((D:Nat):Int)<=8->m+ns.length<=2048->(∀ q∈ns,q < pn)->acc.length<=16 * m->r'+(ns.length:Int)<=1000000->
  Calls Tryz.prog 114 #[.agg #[.int .i64 (p:Int),.int .i64 lv],.pointer (some ⟨gm,0,none⟩),.pointer (some ⟨gt,0,none⟩),.pointer (some ⟨gv,0,none⟩),.pointer (some ⟨gh,0,none⟩)] W fun e W'=>e=.returned (.int .i64 0)/\∃ v',EnvR C gd pn n S tp pa rt ep B gm gt gv gh gl g1 g2 s z s' z' W' (m+ns.length) v' (acc++(enS D sh).filter (rfB (s,z) (s',z'))) (r'+(ns.length:Int))/\(acc++(enS D sh).filter (rfB (s,z) (s',z'))).length<=16 * (m+ns.length)/\Nw W v v'/\Mv (fun b=>(C b≠0\/b=gm\/b=gl)\/v.ownBlock=some b) W W':=by
 have HS:=hid (And.intro hon (And.intro hby hn));clear hon hby hn;intro D
 induction D with
 | zero=>
  intro p lv m sh ns acc v W r' henv his hok hlv1 hlv hml hpn hac hrb;obtain ⟨hf,rfl⟩:=his;have h16:List.length sh<=16:=hok.2;obtain ⟨lf,hlf⟩:∃ lf,lf=true:=⟨_,rfl⟩
  obtain ⟨es,hes⟩:∃ es:List Et,es=sh:=⟨_,rfl⟩
  rw [<- hlf,<- hes] at hf;rw [<- hes] at h16;have HL:=hid (And.intro hlf hes);have HNE:Hid (es≠[]):=hid (by rw [hes];exact hok.1);have HHEAD:p∈[p]:=List.mem_singleton.2 rfl;have HPOS:Hid (0 < [p].length):=hid (Nat.zero_lt_one);clear hlf hes hok;have hpos:=HPOS.out;have HE:=hid henv;have HAC:=hid hac;have HML:=hid hml;have H16:=hid h16;have HF:=hid hf;obtain ⟨g0,hg0⟩:∃ g,g=W.heap.size:=⟨_,rfl⟩
  obtain ⟨W1,hW1⟩:∃ w,w=W.alloc (.cells #[.int .i64 (p:Int),.int .i64 lv] 184):=⟨_,rfl⟩
  have HW1:=hid hW1;have HG0:=hid hg0;have hb1:Below W.heap.size W W1:=by rw [hW1];exact Ad W _
  have hx1:W1.heap[g0]?=some (.cells #[.int .i64 (p:Int),.int .i64 lv] 184 (0,0)):=by rw [hW1,hg0];exact heap_alloc_new W _
  have hE1:=henv.below hb1;have HBW:Hid (B<=W.heap.size):=hid (by have:=henv.bm.lt;have:=henv.ge.1;omega);have hcm:=hE1.bm.cell;have hfm:=hE1.bm.frozen;have hm1:((m:Int) == 2048)=false:=by rw [beq_eq_false_iff_ne];omega
  have hm2:(m=2048)=False:=eq_false (by omega);have hm3:(m:Int)+1<=2048:=by omega
  have HE1:=hid hE1;have HX1:=hid hx1;have HB1:=hid hb1;have HPN:=hid hpn;have HRB:=hid hrb;have HLV:=hid hlv;have HLV1:=hid hlv1;clear hlv1 hW1 hg0 hb1 hx1 hE1 henv hac hml h16 hf hpn hrb hlv
  go_enter Tryz.func114,Tryz.ntmps114
  go_upto_region 1 with fail
  rw [<- HW1.out,<- HG0.out];clear HW1
  go_upto_region 4 with fail
  obtain ⟨W2,hW2⟩:∃ w,w=W1.setCell ⟨gm,0,none⟩ (.int .i64 ((m+1:Nat):Int)):=⟨_,rfl⟩
  have hW2':W1.setCell ⟨gm,0,none⟩ (.int .i64 ((m:Int)+1))=W2:=by rw [hW2];rfl
  rw [hW2'];have hE2:EnvR C gd pn n S tp pa rt ep B gm gt gv gh gl g1 g2 s z s' z' W2 (m+1) v acc r':=by rw [hW2];exact HE1.out.count (m+1)
  have hg2:W1.grownBy W2 (some gm):=by rw [hW2];exact grownBy_setCell' W1 gm _
  have hgm0:gm≠g0:=by have:=HE.out.bm.lt;have:=HG0.out;omega
  have hx2:W2.heap[g0]?=some (.cells #[.int .i64 (p:Int),.int .i64 lv] 184 (0,0)):=(hg2.block g0 (Aj HX1.out) (fun e=>hgm0 (by cases e;rfl))).trans HX1.out;have HM2:Hid (Mv (fun b=>(C b≠0\/b=gm\/b=gl)\/v.ownBlock=some b) W W2):=hid ((Mv.of_below HB1.out).trans (Mv.of_grown hg2 fun j hj _=>by cases hj;exact .inl (.inr (.inl rfl))));have hct:=hE2.bt.cell;have hp0:W2.cell? ⟨g0,0,none⟩=some (.int .i64 (p:Int)):=coR hx2;have hp1:W2.cell? ⟨g0,1,none⟩=some (.int .i64 lv):=coR hx2;have HE2:=hid hE2;have HX2:=hid hx2;have HS2:Hid (W1.heap.size<=W2.heap.size/\g0 < W1.heap.size):=hid ⟨hg2.size,Aj HX1.out⟩;have HND:=hid (EM (w:=W2) hE2.dv hE2.tc hE2.ct HS.out.1 HS.out.2.2 (show r'<=1000000 by have:=HRB.out;omega) p lv (by have:=HLV.out;omega) (HPN.out p HHEAD) (HS.out.2.1 p (HPN.out p HHEAD)) lf es HF.out);clear hW2 hW2' hE2 hg2 hx2 hgm0 HE1 hm1 hm2 hm3 hcm hfm
  go_wp2_with fail
  refine HND.out.mono ?_;clear HND hct hp0 hp1;rintro e W3 ⟨⟨nv,rfl,a1,n1,c1,rfl,hok3,hnew3⟩,hd3,hmv3⟩;have hn1:n1=es.length:=hok3.1;obtain ⟨W4,hW4⟩:∃ w,w=W3.alloc (.cells #[.bool lf,.slice a1 n1 c1] 114):=⟨_,rfl⟩
  obtain ⟨g7,hg7⟩:∃ g,g=W3.heap.size:=⟨_,rfl⟩
  have HW4:=hid hW4;have HG7:=hid hg7;have hb4:Below W3.heap.size W3 W4:=by rw [hW4];exact Ad W3 _
  have hE3:=HE2.out.read hd3 hmv3;have HE4:=hid (hE3.below hb4);have hx4:W4.heap[g7]?=some (.cells #[.bool lf,.slice a1 n1 c1] 114 (0,0)):=by rw [hW4,hg7];exact heap_alloc_new W3 _
  have HX4:=hid hx4;have HXP4:=hid (Ac (hmv3.row HX2.out fun hh=>hh (HE2.out.cb g0 (by have:=HBW.out;have:=HG0.out;omega))) hb4);have HM4:Hid (Mv (fun b=>(C b≠0\/b=gm\/b=gl)\/v.ownBlock=some b) W W4):=hid (HM2.out.trans' (hmv3.trans (Mv.of_below hb4)) fun i _ h=>.inl (.inl h));have HS43:Hid (W2.heap.size<=W3.heap.size):=hid hmv3.size;have HS4:Hid (W.heap.size<=W2.heap.size/\W2.heap.size<=W4.heap.size):=hid ⟨Nat.le_trans HB1.out.size HS2.out.1,Nat.le_trans hmv3.size hb4.size⟩;have HNM4:Hid (NmOk 65 W.heap.size W4 ⟨lf,a1,c1,es⟩):=hid ⟨by rw [<- hn1];exact hok3.below hb4,(hnew3.below hb4).weaken HS4.out.1⟩;have HAP4:Hid (∀ b o,a1=some ⟨b,o,none⟩->v.ownBlock≠some b):=hid fun b o hab e=>by
   rcases hnew3 with h0 | ⟨b',o',e1,⟨h2,-⟩,-⟩
   ·exact HNE.out h0
   ·rw [hab] at e1;simp only [Option.some.injEq,Addr.mk.injEq] at e1;obtain ⟨rfl,-,-⟩:=e1;rcases HE.out.row.lt b e with ⟨-,h3⟩;have:=HS4.out.1;omega
  have HN1:=hid hn1;have HBQ:=hid (HNM4.out.blk HNE.out);have HVI:=hid (LW (B:=B) p lf a1 c1 es HE4.out.bl HE4.out.row (by have:=HAC.out;have:=HML.out;omega) (by have:=HBW.out;have:=HS4.out;omega) H16.out (HNM4.out.weaken HBW.out) HAP4.out HE4.out.k1 HE4.out.k2);rw [<- hn1] at HVI;have hcv:=HE4.out.bv.cell;have hp0:W4.cell? ⟨g0,0,none⟩=some (.int .i64 (p:Int)):=coR HXP4.out;have hl0:W4.cell? ⟨g7,0,none⟩=some (.bool lf):=coR hx4;have hl1:W4.cell? ⟨g7,1,none⟩=some (.slice a1 n1 c1):=coR hx4;clear hW4 hg7 hb4 hx4 hE3 hok3 hnew3 hd3 hmv3 hn1 HE2 HX2 HM2
  go_upto_region 7 with fail
  rw [<- HW4.out,<- HG7.out];clear HW4
  go_wp2_with fail
  refine HVI.out.mono ?_;clear HVI hcv hp0 hl0 hl1;rintro e W5 ⟨⟨u5,rfl⟩,v5,hx5,hr5,hn5,hm5⟩;have hF5:∀ b,(b=gl\/v.ownBlock=some b)->b < W4.heap.size->b < W.heap.size:=fun b hb _=>by
   rcases hb with hb | hb
   ·rw [hb];exact HE.out.bl.lt
   ·exact (HE.out.row.lt b hb).2
  have HE5:=hid (HE4.out.visited hx5 hr5 hn5 hm5);have HX5:=hid (hm5.row HX4.out fun hh=>by have:=hF5 _ hh (Aj HX4.out);have:=HG7.out;have:=HS4.out;have:=HS43.out;omega);have HXP5:=hid (hm5.row HXP4.out fun hh=>by have:=hF5 _ hh (Aj HXP4.out);have:=HG0.out;omega);have HNM5:=hid (HNM4.out.mv hm5 hF5);have HM5:Hid (Mv (fun b=>(C b≠0\/b=gm\/b=gl)\/v.ownBlock=some b) W W5):=hid (HM4.out.trans' hm5 fun i _ h=>h.elim (fun h=>.inl (.inr (.inr h))) .inr);have HNW5:Hid (Nw W v v5):=hid (hn5.less (Nat.le_trans HS4.out.1 HS4.out.2));have HOB5:Hid (∀ j,v5.ownBlock=some j->j < W.heap.size\/W4.heap.size<=j):=hid fun j hj=>by
   rcases hn5 with h | ⟨i,h,hi⟩
   ·rw [h] at hj;exact .inl (HE.out.row.lt j hj).2
   ·rw [h] at hj;cases hj;exact .inr hi
  have HS5:=hid hm5.size;have hl0:W5.cell? ⟨g7,0,none⟩=some (.bool lf):=coR HX5.out;have hl1:W5.cell? ⟨g7,1,none⟩=some (.slice a1 n1 c1):=coR HX5.out;have HGML:Hid (gm < W.heap.size/\gl < W.heap.size):=hid ⟨HE.out.bm.lt,HE.out.bl.lt⟩;have HG74:Hid (g7 < W4.heap.size):=hid (Aj HX4.out);clear hx5 hr5 hn5 hm5 hF5 HE4 HX4 HXP4 HM4 HNM4 HAP4 HE;obtain ⟨rfl,rfl⟩:=HL.out
  go_wp2_with fail
  go_ret
  refine ⟨rfl,v5,HE5.out,?_,HNW5.out,HM5.out⟩;have:=HAC.out;have h9:(List.filter (rfB (s,z) (s',z')) es).length<=16:=Nat.le_trans (List.length_filter_le _ _) H16.out;rw [List.length_append];show _+(List.filter (rfB (s,z) (s',z')) es).length<=16 * (m+1)
  omega
 | succ D ih=>
  intro p lv m cs ns acc v W r' henv his hok hlv1 hlv hml hpn hac hrb;obtain ⟨l,hll,hf,hns,hch⟩:=his;have h16:(Ii D cs l).length<=16:=by rw [EO hll];exact hok.2.1
  obtain ⟨lf,hlf⟩:∃ lf,lf=false:=⟨_,rfl⟩
  obtain ⟨es,hes⟩:∃ es:List Et,es=Ii D cs l:=⟨_,rfl⟩
  rw [<- hlf,<- hes] at hf;rw [<- hes] at h16;have HNE:Hid (es≠[]):=hid (by
   intro h0;have h1:(Ii D cs l).length=0:=by rw [<- hes,h0];rfl
   rw [EO hll] at h1;exact hok.1 (List.eq_nil_of_length_eq_zero h1))
  have HL:=hid (And.intro hlf hes);have HHEAD:p∈ns:=by rw [hns];exact List.mem_cons_self ..
  have HPOS:Hid (0 < ns.length):=hid (List.length_pos_of_mem HHEAD);have HOKC:=hid hok;have HLL:=hid hll;have HNS:=hid hns;have HCH:=hid hch;clear hlf hes hok hll hns hch;have hpos:=HPOS.out;have HE:=hid henv;have HAC:=hid hac;have HML:=hid hml;have H16:=hid h16;have HF:=hid hf;obtain ⟨g0,hg0⟩:∃ g,g=W.heap.size:=⟨_,rfl⟩
  obtain ⟨W1,hW1⟩:∃ w,w=W.alloc (.cells #[.int .i64 (p:Int),.int .i64 lv] 184):=⟨_,rfl⟩
  have HW1:=hid hW1;have HG0:=hid hg0;have hb1:Below W.heap.size W W1:=by rw [hW1];exact Ad W _
  have hx1:W1.heap[g0]?=some (.cells #[.int .i64 (p:Int),.int .i64 lv] 184 (0,0)):=by rw [hW1,hg0];exact heap_alloc_new W _
  have hE1:=henv.below hb1;have HBW:Hid (B<=W.heap.size):=hid (by have:=henv.bm.lt;have:=henv.ge.1;omega);have hcm:=hE1.bm.cell;have hfm:=hE1.bm.frozen;have hm1:((m:Int) == 2048)=false:=by rw [beq_eq_false_iff_ne];omega
  have hm2:(m=2048)=False:=eq_false (by omega);have hm3:(m:Int)+1<=2048:=by omega
  have HE1:=hid hE1;have HX1:=hid hx1;have HB1:=hid hb1;have HPN:=hid hpn;have HRB:=hid hrb;have HLV:=hid hlv;have HLV1:=hid hlv1;clear hlv1 hW1 hg0 hb1 hx1 hE1 henv hac hml h16 hf hpn hrb hlv
  go_enter Tryz.func114,Tryz.ntmps114
  go_upto_region 1 with fail
  rw [<- HW1.out,<- HG0.out];clear HW1
  go_upto_region 4 with fail
  obtain ⟨W2,hW2⟩:∃ w,w=W1.setCell ⟨gm,0,none⟩ (.int .i64 ((m+1:Nat):Int)):=⟨_,rfl⟩
  have hW2':W1.setCell ⟨gm,0,none⟩ (.int .i64 ((m:Int)+1))=W2:=by rw [hW2];rfl
  rw [hW2'];have hE2:EnvR C gd pn n S tp pa rt ep B gm gt gv gh gl g1 g2 s z s' z' W2 (m+1) v acc r':=by rw [hW2];exact HE1.out.count (m+1)
  have hg2:W1.grownBy W2 (some gm):=by rw [hW2];exact grownBy_setCell' W1 gm _
  have hgm0:gm≠g0:=by have:=HE.out.bm.lt;have:=HG0.out;omega
  have hx2:W2.heap[g0]?=some (.cells #[.int .i64 (p:Int),.int .i64 lv] 184 (0,0)):=(hg2.block g0 (Aj HX1.out) (fun e=>hgm0 (by cases e;rfl))).trans HX1.out;have HM2:Hid (Mv (fun b=>(C b≠0\/b=gm\/b=gl)\/v.ownBlock=some b) W W2):=hid ((Mv.of_below HB1.out).trans (Mv.of_grown hg2 fun j hj _=>by cases hj;exact .inl (.inr (.inl rfl))));have hct:=hE2.bt.cell;have hp0:W2.cell? ⟨g0,0,none⟩=some (.int .i64 (p:Int)):=coR hx2;have hp1:W2.cell? ⟨g0,1,none⟩=some (.int .i64 lv):=coR hx2;have HE2:=hid hE2;have HX2:=hid hx2;have HS2:Hid (W1.heap.size<=W2.heap.size/\g0 < W1.heap.size):=hid ⟨hg2.size,Aj HX1.out⟩;have HND:=hid (EM (w:=W2) hE2.dv hE2.tc hE2.ct HS.out.1 HS.out.2.2 (show r'<=1000000 by have:=HRB.out;omega) p lv (by have:=HLV.out;omega) (HPN.out p HHEAD) (HS.out.2.1 p (HPN.out p HHEAD)) lf es HF.out);clear hW2 hW2' hE2 hg2 hx2 hgm0 HE1 hm1 hm2 hm3 hcm hfm
  go_wp2_with fail
  refine HND.out.mono ?_;clear HND hct hp0 hp1;rintro e W3 ⟨⟨nv,rfl,a1,n1,c1,rfl,hok3,hnew3⟩,hd3,hmv3⟩;have hn1:n1=es.length:=hok3.1;obtain ⟨W4,hW4⟩:∃ w,w=W3.alloc (.cells #[.bool lf,.slice a1 n1 c1] 114):=⟨_,rfl⟩
  obtain ⟨g7,hg7⟩:∃ g,g=W3.heap.size:=⟨_,rfl⟩
  have HW4:=hid hW4;have HG7:=hid hg7;have hb4:Below W3.heap.size W3 W4:=by rw [hW4];exact Ad W3 _
  have hE3:=HE2.out.read hd3 hmv3;have HE4:=hid (hE3.below hb4);have hx4:W4.heap[g7]?=some (.cells #[.bool lf,.slice a1 n1 c1] 114 (0,0)):=by rw [hW4,hg7];exact heap_alloc_new W3 _
  have HX4:=hid hx4;have HXP4:=hid (Ac (hmv3.row HX2.out fun hh=>hh (HE2.out.cb g0 (by have:=HBW.out;have:=HG0.out;omega))) hb4);have HM4:Hid (Mv (fun b=>(C b≠0\/b=gm\/b=gl)\/v.ownBlock=some b) W W4):=hid (HM2.out.trans' (hmv3.trans (Mv.of_below hb4)) fun i _ h=>.inl (.inl h));have HS43:Hid (W2.heap.size<=W3.heap.size):=hid hmv3.size;have HS4:Hid (W.heap.size<=W2.heap.size/\W2.heap.size<=W4.heap.size):=hid ⟨Nat.le_trans HB1.out.size HS2.out.1,Nat.le_trans hmv3.size hb4.size⟩;have HNM4:Hid (NmOk 65 W.heap.size W4 ⟨lf,a1,c1,es⟩):=hid ⟨by rw [<- hn1];exact hok3.below hb4,(hnew3.below hb4).weaken HS4.out.1⟩;have HAP4:Hid (∀ b o,a1=some ⟨b,o,none⟩->v.ownBlock≠some b):=hid fun b o hab e=>by
   rcases hnew3 with h0 | ⟨b',o',e1,⟨h2,-⟩,-⟩
   ·exact HNE.out h0
   ·rw [hab] at e1;simp only [Option.some.injEq,Addr.mk.injEq] at e1;obtain ⟨rfl,-,-⟩:=e1;rcases HE.out.row.lt b e with ⟨-,h3⟩;have:=HS4.out.1;omega
  have HN1:=hid hn1;have HBQ:=hid (HNM4.out.blk HNE.out);have HVI:=hid (LW (B:=B) p lf a1 c1 es HE4.out.bl HE4.out.row (by have:=HAC.out;have:=HML.out;omega) (by have:=HBW.out;have:=HS4.out;omega) H16.out (HNM4.out.weaken HBW.out) HAP4.out HE4.out.k1 HE4.out.k2);rw [<- hn1] at HVI;have hcv:=HE4.out.bv.cell;have hp0:W4.cell? ⟨g0,0,none⟩=some (.int .i64 (p:Int)):=coR HXP4.out;have hl0:W4.cell? ⟨g7,0,none⟩=some (.bool lf):=coR hx4;have hl1:W4.cell? ⟨g7,1,none⟩=some (.slice a1 n1 c1):=coR hx4;clear hW4 hg7 hb4 hx4 hE3 hok3 hnew3 hd3 hmv3 hn1 HE2 HX2 HM2
  go_upto_region 7 with fail
  rw [<- HW4.out,<- HG7.out];clear HW4
  go_wp2_with fail
  refine HVI.out.mono ?_;clear HVI hcv hp0 hl0 hl1;rintro e W5 ⟨⟨u5,rfl⟩,v5,hx5,hr5,hn5,hm5⟩;have hF5:∀ b,(b=gl\/v.ownBlock=some b)->b < W4.heap.size->b < W.heap.size:=fun b hb _=>by
   rcases hb with hb | hb
   ·rw [hb];exact HE.out.bl.lt
   ·exact (HE.out.row.lt b hb).2
  have HE5:=hid (HE4.out.visited hx5 hr5 hn5 hm5);have HX5:=hid (hm5.row HX4.out fun hh=>by have:=hF5 _ hh (Aj HX4.out);have:=HG7.out;have:=HS4.out;have:=HS43.out;omega);have HXP5:=hid (hm5.row HXP4.out fun hh=>by have:=hF5 _ hh (Aj HXP4.out);have:=HG0.out;omega);have HNM5:=hid (HNM4.out.mv hm5 hF5);have HM5:Hid (Mv (fun b=>(C b≠0\/b=gm\/b=gl)\/v.ownBlock=some b) W W5):=hid (HM4.out.trans' hm5 fun i _ h=>h.elim (fun h=>.inl (.inr (.inr h))) .inr);have HNW5:Hid (Nw W v v5):=hid (hn5.less (Nat.le_trans HS4.out.1 HS4.out.2));have HOB5:Hid (∀ j,v5.ownBlock=some j->j < W.heap.size\/W4.heap.size<=j):=hid fun j hj=>by
   rcases hn5 with h | ⟨i,h,hi⟩
   ·rw [h] at hj;exact .inl (HE.out.row.lt j hj).2
   ·rw [h] at hj;cases hj;exact .inr hi
  have HS5:=hid hm5.size;have hl0:W5.cell? ⟨g7,0,none⟩=some (.bool lf):=coR HX5.out;have hl1:W5.cell? ⟨g7,1,none⟩=some (.slice a1 n1 c1):=coR HX5.out;have HGML:Hid (gm < W.heap.size/\gl < W.heap.size):=hid ⟨HE.out.bm.lt,HE.out.bl.lt⟩;have HG74:Hid (g7 < W4.heap.size):=hid (Aj HX4.out);clear hx5 hr5 hn5 hm5 hF5 HE4 HX4 HXP4 HM4 HNM4 HAP4 HE;obtain ⟨hlf,hes⟩:=HL.out;subst hlf
  go_wp2_with fail
  clear hl0 hl1;have HN1L:Hid (n1=List.length cs):=hid (by rw [HN1.out,hes,EO HLL.out]);have hn16:(n1:Int)<=16:=by have:=HN1.out;have:=H16.out;omega
  go_loopw [35] (fun i wr=>∃ (k:Nat) (v':Value),i=.int .i64 (k:Int)/\k<=n1/\EnvR C gd pn n S tp pa rt ep B gm gt gv gh gl g1 g2 s z s' z' wr (m+1+((l.take k).flatMap (·.2)).length) v' (acc++((cs.take k).flatMap (enS D)).filter (rfB (s,z) (s',z'))) (r'+1+(((l.take k).flatMap (·.2)).length:Int))/\(acc++((cs.take k).flatMap (enS D)).filter (rfB (s,z) (s',z'))).length<=16 * (m+1+((l.take k).flatMap (·.2)).length)/\(∀ j,v'.ownBlock=some j->j < W.heap.size\/W4.heap.size<=j)/\wr.heap[g7]?=some (.cells #[.bool false,.slice a1 n1 c1] 114 (0,0))/\wr.heap[g0]?=some (.cells #[.int .i64 (p:Int),.int .i64 lv] 184 (0,0))/\NmOk 65 W.heap.size wr ⟨false,a1,c1,es⟩/\Nw W v v'/\Mv (fun b=>(C b≠0\/b=gm\/b=gl)\/v.ownBlock=some b) W wr/\W4.heap.size<=wr.heap.size) (fun i _=>n1+1 - (intOf i).toNat)
  case atStart=>
   refine ⟨0,v5,rfl,Nat.zero_le _,?_,?_,HOB5.out,HX5.out,HXP5.out,HNM5.out,HNW5.out,HM5.out,HS5.out⟩
   ·have h:=HE5.out;rw [SK,List.append_nil] at h;simpa using h
   ·have:=HAC.out;simp;omega
  case round=>
   obtain ⟨k,v',rfl,hk,q1,q2,q3,q4,q5,q6,q7,q8,q9⟩:=hrel;by_cases hlt:(k:Int) < (n1:Int)
   ·have hkc:k < List.length cs:=by have:=HN1L.out;omega
    have hkl:k < l.length:=by rw [HLL.out];exact hkc
    obtain ⟨c,hc⟩:∃ c,cs[k]?=some c:=⟨_,List.getElem?_eq_getElem hkc⟩
    obtain ⟨q,hq⟩:∃ q,l[k]?=some q:=⟨_,List.getElem?_eq_getElem hkl⟩
    have hent:es.getD k et0=(Es D c,(q.1:Int)):=by rw [hes];exact MR hc hq
    have hkes:k < es.length:=by have:=HN1.out;omega
    obtain ⟨bq,oq,hae,hce⟩:∃ bq oq,a1=some ⟨bq,oq,none⟩/\wr.cell? ⟨bq,oq+k * 3,none⟩=some (.int .i64 (es.getD k et0).1.1)/\wr.cell? ⟨bq,oq+k * 3+1,none⟩=some (.int .i64 (es.getD k et0).1.2)/\wr.cell? ⟨bq,oq+k * 3+2,none⟩=some (.int .i64 (es.getD k et0).2):=by
     rcases q6.2 with h0 | ⟨bq,oq,e1,-,e2⟩
     ·rw [show es=[] from h0] at hkes;cases hkes
     ·exact ⟨bq,oq,e1,e2 k hkes⟩
    rw [hent] at hce;obtain ⟨xs,hxs⟩:∃ xs,xs=(Es D c).1:=⟨_,rfl⟩
    obtain ⟨xz,hxz⟩:∃ xz,xz=(Es D c).2:=⟨_,rfl⟩
    simp only [<- hxs,<- hxz] at hce;obtain ⟨hq0,hq1,hq2⟩:=hce;have hcq:=HCH.out k c q hc hq;have htk:(l.take (k+1)).flatMap (·.2)=(l.take k).flatMap (·.2)++q.2:=by
     rw [List.take_succ_eq_append_getElem hkl,List.flatMap_append];have:l[k]=q:=by rw [List.getElem?_eq_getElem hkl] at hq;exact Option.some.inj hq
     rw [this];simp
    have htc:(cs.take (k+1)).flatMap (enS D)=(cs.take k).flatMap (enS D)++enS D c:=by
     rw [List.take_succ_eq_append_getElem hkc,List.flatMap_append];have:cs[k]=c:=by rw [List.getElem?_eq_getElem hkc] at hc;exact Option.some.inj hc
     rw [this];simp
    have hsub:(l.take k).flatMap (·.2)++q.2=(l.take (k+1)).flatMap (·.2):=htk.symm;have hlen:((l.take k).flatMap (·.2)).length+q.2.length+1<=ns.length:=by
     have h1:((l.take (k+1)).flatMap (·.2)).length<=(l.flatMap (·.2)).length:=by
      conv=>rhs;rw [<- List.take_append_drop (k+1) l]
      rw [List.flatMap_append,List.length_append];omega
     rw [htk,List.length_append] at h1;rw [HNS.out,List.length_cons];omega
    have hqn:∀ x∈q.2,x < pn:=fun x hx=>HPN.out x (by rw [HNS.out];exact List.mem_cons_of_mem _ (List.mem_flatMap.2 ⟨q,List.mem_of_getElem? hq,hx⟩));obtain ⟨w2,hw2⟩:∃ w2,w2=wr.alloc (.cells #[.int .i64 xs,.int .i64 xz,.int .i64 (q.1:Int)] 65):=⟨_,rfl⟩
    obtain ⟨g10,hg10⟩:∃ g,g=wr.heap.size:=⟨_,rfl⟩
    have HW2:=hid hw2;have HG10:=hid hg10;have hb2:Below wr.heap.size wr w2:=by rw [hw2];exact Ad wr _
    have hx10:w2.heap[g10]?=some (.cells #[.int .i64 xs,.int .i64 xz,.int .i64 (q.1:Int)] 65 (0,0)):=by rw [hw2,hg10];exact heap_alloc_new wr _
    have HQ1:=hid (q1.below hb2);have HQ3:=hid q3;have HQ4:=hid (Ac q4 hb2);have HQ5:=hid (Ac q5 hb2);have HQ6:=hid (q6.below hb2);have HQ7:=hid q7;have HQ8:Hid (Mv (fun b=>(C b≠0\/b=gm\/b=gl)\/v.ownBlock=some b) W w2):=hid (q8.trans (Mv.of_below hb2));have HQ9:Hid (W4.heap.size<=w2.heap.size):=hid (Nat.le_trans q9 hb2.size);have HIH:=hid (ih q.1 (lv+1) _ c q.2 _ v' w2 _ HQ1.out hcq (HOKC.out.2.2 c (List.mem_of_getElem? hc)) (by have:=HLV1.out;omega) (by have:=HLV.out;omega) (by have:=HML.out;omega) hqn q2 (by have:=HRB.out;omega));have HTK:=hid htk;have HTC:=hid htc;have hch:=HQ1.out.bh.cell;have hy2:w2.cell? ⟨g10,2,none⟩=some (.int .i64 (q.1:Int)):=coR hx10;have hz1:w2.cell? ⟨g0,1,none⟩=some (.int .i64 lv):=coR HQ5.out;have hlv8:lv<=8:=by have:=HLV.out;omega
    have hlvm:-9223372036854775808<=lv:=by have:=HLV1.out;omega
    subst hae;clear q1 q2 q3 q4 q5 q6 q7 q8 q9 hw2 hg10 hb2 hx10 hent hkes hkc hkl hc hq hcq htk htc hsub hlen hqn hxs hxz hk
    go_upto_region 13 with fail
    rw [<- HW2.out,<- HG10.out];clear HW2 hq0 hq1 hq2
    go_wp2_with fail
    refine HIH.out.mono ?_;clear HIH hch hy2 hz1;rintro e w3 ⟨rfl,v3,he3,hl3,hn3,hm3⟩;have hF3:∀ b,((C b≠0\/b=gm\/b=gl)\/v'.ownBlock=some b)->b < w2.heap.size->b < W.heap.size\/W4.heap.size<=b:=fun b hb _=>by
     rcases hb with (hb | hb | hb) | hb
     ·exact .inl (Nat.lt_of_not_le fun hh=>hb (HE5.out.cb b (Nat.le_trans HBW.out hh)))
     ·rw [hb];exact .inl HGML.out.1
     ·rw [hb];exact .inl HGML.out.2
     ·exact HQ3.out b hb
    have HR3:Hid (w3.heap[g7]?=some (.cells #[.bool false,.slice (some ⟨bq,oq,none⟩) n1 c1] 114 (0,0))):=hid (hm3.row HQ4.out fun hh=>by have:=hF3 _ hh (Aj HQ4.out);have:=HG7.out;have:=HS4.out;have:=HS43.out;have:=HG74.out;omega);have HP3:Hid (w3.heap[g0]?=some (.cells #[.int .i64 (p:Int),.int .i64 lv] 184 (0,0))):=hid (hm3.row HQ5.out fun hh=>by have:=hF3 _ hh (Aj HQ5.out);have:=HG0.out;have:=HS2.out;have:=HS4.out;omega);have HNM3:Hid (NmOk 65 W.heap.size w3 ⟨false,some ⟨bq,oq,none⟩,c1,es⟩):=hid (HQ6.out.keepA fun b o hb=>by
     have hbb:=HBQ.out b o hb;refine hm3.block b (by have:=HQ9.out;omega) fun hh=>?_;have:=hF3 b hh (by have:=HQ9.out;omega);omega)
    have HN3:Hid (Nw W v v3):=hid (HQ7.out.trans hn3 HQ8.out.size);have HO3:Hid (∀ j,v3.ownBlock=some j->j < W.heap.size\/W4.heap.size<=j):=hid fun j hj=>by
     rcases hn3 with h | ⟨i,h,hi⟩
     ·rw [h] at hj;exact HQ3.out j hj
     ·rw [h] at hj;cases hj;exact .inr (Nat.le_trans HQ9.out hi)
    have HM3:Hid (Mv (fun b=>(C b≠0\/b=gm\/b=gl)\/v.ownBlock=some b) W w3):=hid (Nw.mv (F:=fun b=>C b≠0\/b=gm\/b=gl) HQ7.out HQ8.out hm3);have HE3:=hid he3;have HL3:=hid hl3;have HS3:Hid (W4.heap.size<=w3.heap.size):=hid (Nat.le_trans HQ9.out hm3.size);clear he3 hl3 hn3 hm3 hF3 HQ1 HQ4 HQ5 HQ6
    go_wp2_with fail
    go_roundw
    case rel=>
     refine ⟨k+1,v3,by go_num,by omega,?_,?_,HO3.out,HR3.out,HP3.out,HNM3.out,HN3.out,HM3.out,HS3.out⟩
     ·have h:=HE3.out;rw [HTK.out,List.length_append];rw [HTC.out,List.filter_append,<- List.append_assoc];simpa [Nat.add_assoc,Int.add_assoc] using h
     ·have h:=HL3.out;rw [HTK.out,List.length_append];rw [HTC.out,List.filter_append];simp only [List.length_append] at h ⊢;omega
    case measure=>simp [intOf];omega
   ·have hkn:k=n1:=by omega
    have hkl:k=l.length:=by rw [HLL.out];have:=HN1L.out;omega
    rw [show cs.take k=cs from List.take_of_length_le (by rw [hkl,HLL.out];exact Nat.le_refl _),show l.take k=l from List.take_of_length_le (by rw [hkl];exact Nat.le_refl _)] at q1 q2;have HQ1:=hid q1;have HQ2:=hid q2;have HQ7:=hid q7;have HQ8:=hid q8;have HKC:=hid hkl;clear q1 q2 q3 q4 q5 q6 q7 q8 q9 hkn hkl
    go_wp2_with fail
    go_ret
    refine ⟨rfl,v',?_,?_,HQ7.out,HQ8.out⟩
    ·have h:=HQ1.out;rw [HNS.out,List.length_cons];have e1:m+((l.flatMap (·.2)).length+1)=m+1+(l.flatMap (·.2)).length:=by omega
     have e2:r'+(((l.flatMap (·.2)).length+1:Nat):Int)=r'+1+((l.flatMap (·.2)).length:Int):=by omega
     rw [e1,e2];exact h
    ·have h:=HQ2.out;rw [HNS.out,List.length_cons];have e1:m+((l.flatMap (·.2)).length+1)=m+1+(l.flatMap (·.2)).length:=by omega
     rw [e1]
     first | exact h | (rw [List.length_append] at h;exact h)
end Go.Proofs.YtfhdojnobmfefaaGreatDoor
namespace Go.Inc
open Go Go.RowKit
theorem dI {α:Type} {l:List α} (h0:l≠[]) (h:l.length<=17):Ea l=Cf l:=by
 have hp:=List.length_pos_iff.2 h0;unfold Ea Cf;rw [if_neg (by omega:¬ l.length=0)];by_cases h16:l.length<=16
 ·rw [if_pos h16,if_pos h16]
 ·rw [if_neg h16,if_neg h16,show l.length / 2=8 by omega]
theorem Tc (e:Et):ZP (plK e.1) 2 (fun D s=>BG D s e):=by
 refine ⟨fun D X c Y hok hx=>?_,fun D s hok=>Lp D s e hok,fun D s hok=>(Di D s e hok).2⟩;have hl:=Di D c e (hok.2.2 c (List.mem_append_right _ (List.mem_cons_self ..)));have h16:=hok.2.1;simp only [List.length_append,List.length_cons] at h16;show BG (D+1) (X++c::Y) e=_;rw [Ep hx];refine dI (fun h=>?_) (by simp only [List.length_append];omega);have:=congrArg List.length h;simp only [List.length_append,List.length_nil] at this;omega
theorem Q8 (k:Ky):ZP (plK k) 1 (fun D s=>AY D s k):=by
 refine ⟨fun D X c Y hok hx=>?_,fun D s hok=>JQ D s k hok,fun D s hok=>EC D s k hok⟩;have hl:=EC D c k (hok.2.2 c (List.mem_append_right _ (List.mem_cons_self ..)));have h16:=hok.2.1;simp only [List.length_append,List.length_cons] at h16;show AY (D+1) (X++c::Y) k=_;rw [Ez hx];unfold Cf;by_cases h:X++AY D c k++Y=[]
 ·rw [if_pos h,if_pos (by rw [h];rfl)]
 ·rw [if_neg h,if_neg (fun h2=>h (List.eq_nil_of_length_eq_zero h2)),if_pos (by simp only [List.length_append];omega)]
theorem Fj {ps:List Nat} {z:Int} (hz:z < 0) (h:(-z - 1).toNat < ps.length):ps[(-z - 1).toNat]?=some (sgm ps z):=by
 unfold sgm;rw [if_pos hz,List.getD_eq_getElem?_getD,List.getElem?_eq_getElem h];rfl
theorem Fh {ps:List Nat} {z:Int} (hz:0<=z):sgm ps z=z.toNat:=by unfold sgm;rw [if_neg (by omega)]
section
variable {f:Nat->Option Nd} {ns:List Nat} {D:Nat} {z:Int} {s:Sh D} {zs:List Int} {fr:List Nd} {g:List Int}
theorem mem_ints {ns:List Nat} {x:Int}:x∈(ns.map fun n:Nat=>(n:Int))↔0<=x/\x.toNat∈ns:=by
 rw [List.mem_map];constructor
 ·rintro ⟨n,hn,rfl⟩;exact ⟨by omega,by simpa using hn⟩
 ·rintro ⟨h1,h2⟩;exact ⟨x.toNat,h2,by omega⟩
theorem II {ns:List Nat} (h:ns.Nodup):(ns.map fun n:Nat=>(n:Int)).Nodup:=List.Pairwise.map _ (fun a b h e=>h (by omega)) h
theorem Ue {x:Int} {n:Nat} (h:0<=x):cn x (Dz 0 n)=0:=Dc fun hm=>by have:=(negs_mem.1 hm).1;omega
theorem TpI.mem (h:TpI f (ns.map fun n:Nat=>(n:Int)) D z s zs fr g) (hn:ns.Nodup) {x:Int}:x∈zs↔(x < 0/\-(fr.length:Int)<=x)\/(0<=x/\x.toNat∈ns/\x∉g):=by
 have h1:=h.cnt x;have h2:=cn_nodup.2 (II hn) x;have h3:=Ie (z:=x) (m:=0) (n:=fr.length);by_cases hx:x < 0
 ·have h4:cn x (ns.map fun n:Nat=>(n:Int))=0:=Dc fun hm=>by have:=(mem_ints.1 hm).1;omega
  have h5:cn x g=0:=Dc fun hm=>by have:=h.g0 x hm;omega
  have h6:x∈zs↔x∈Dz 0 fr.length:=by rw [cn_mem,cn_mem];omega
  rw [h6,negs_mem];omega
 ·have h4:=Ue (n:=fr.length) (by omega:0<=x);constructor
  ·intro hm;have h5:=cn_mem.1 hm;have h6:x∈(ns.map fun n:Nat=>(n:Int)):=cn_mem.2 (by omega);exact .inr ⟨by omega,(mem_ints.1 h6).2,fun hg=>by have:=cn_mem.1 hg;omega⟩
  ·rintro (h5 | ⟨_,h5,h6⟩)
   ·omega
   ·have h7:=cn_mem.1 (mem_ints.2 ⟨by omega,h5⟩);have h8:cn x g=0:=Dc h6;exact cn_mem.2 (by omega)
theorem TpI.gmem (h:TpI f (ns.map fun n:Nat=>(n:Int)) D z s zs fr g) {x:Int} (hx:x∈g):0<=x/\x.toNat∈ns:=by
 have h0:=h.g0 x hx;have h1:=h.cnt x;have h4:=Ue (n:=fr.length) h0;have h5:=cn_mem.1 hx;exact mem_ints.1 (cn_mem.2 (by omega))
theorem TpI.gnd (h:TpI f (ns.map fun n:Nat=>(n:Int)) D z s zs fr g) (hn:ns.Nodup):g.Nodup/\zs.Nodup:=by
 have hb:∀ x,cn x g<=1/\cn x zs<=1:=fun x=>by
  have h1:=h.cnt x;have h2:=cn_nodup.2 (II hn) x;have h3:=Ie (z:=x) (m:=0) (n:=fr.length);by_cases hx:x < 0
  ·have h4:cn x (ns.map fun n:Nat=>(n:Int))=0:=Dc fun hm=>by have:=(mem_ints.1 hm).1;omega
   omega
  ·have h4:=Ue (n:=fr.length) (by omega:0<=x);omega
 exact ⟨cn_nodup.1 fun x=>(hb x).1,cn_nodup.1 fun x=>(hb x).2⟩
end
end Go.Inc
namespace Go.Proofs.YtfhdojnobmfefaaGreatDoor
open Go Go.RowKit Go.Inc
def P7 (S S':St) (ps:List Nat) (fr:List Nd):Prop:=
 (∀ (i p:Nat) (n:Nd),ps[i]?=some p->fr[i]?=some n->CJ S' p=some (n.1,n.2.map (stl ps)))/\∀ j,j∉ps->CJ S' j=CJ S j
theorem U6 {ks:List Nat} {i:Nat} (h:kd ks i≠0):i < ks.length:=by
 apply Classical.byContradiction;intro hn;apply h;unfold kd;rw [List.getD_eq_getElem?_getD,List.getElem?_eq_none (by omega)];rfl
theorem WL {S S':St} {ks ns ps:List Nat} {zs:List Int} {fr:List Nd} {g:List Int} (hks:Ks ks) (hu:∀ i,i∈ns↔(kd ks i=2\/kd ks i=3)) (hmem:∀ x:Int,x∈zs↔(x < 0/\-(fr.length:Int)<=x)\/(0<=x/\x.toNat∈ns/\x∉g)) (hgm0:∀ x∈g,0<=x/\x.toNat∈ns) (hgn:g.Nodup) (hzn:zs.Nodup) (hps:ps=(Az isF ks).take fr.length) (hlen:fr.length<=(Az isF ks).length) (hw:P7 S S' ps fr) :
  Io (BR ks fr.length) g=0/\(∀ x∈zs,∀ n:Nd,vw (CJ S) fr x=some n->CJ S' (sgm ps x)=some (n.1,n.2.map (stl ps)))/\(zs.map (sgm ps)).Nodup/\(∀ i,i∈zs.map (sgm ps)↔(kd (Fb (BR ks fr.length) g) i=2\/kd (Fb (BR ks fr.length) g) i=3))/\KsTo ks (zs.map (sgm ps)) (Fb (BR ks fr.length) g)/\RS S S' ks (Fb (BR ks fr.length) g)/\∀ q∈zs.map (sgm ps),2<=q/\q < ks.length:=by
 have hpl:ps.length=fr.length:=by rw [hps,List.length_take];omega
 have hpm:∀ p∈ps,p < ks.length/\kd ks p=1/\2<=p:=fun p hp=>by
  rw [hps] at hp;have h1:=pagesK_mem.1 (List.mem_of_mem_take hp);have h2:=isF_iff.1 h1.2;refine ⟨h1.1,h2,?_⟩;have k0:=hks.k0;have k1:=hks.k1;apply Classical.byContradiction;intro h3;rcases (by omega:p=0\/p=1) with rfl | rfl
  ·omega
  ·omega
 have hpn:ps.Nodup:=by
  rw [hps];refine List.Pairwise.sublist (List.take_sublist _ _) ?_;unfold Az Bc;exact List.Pairwise.filter _ List.nodup_range
 have htz:∀ i:Nat,(i:Int)∈DF ks fr.length↔i∈ps:=fun i=>by
  rw [Jy,<- hps,List.mem_map];constructor
  ·rintro ⟨a,ha,e⟩;have:a=i:=by omega
   exact this ▸ ha
  ·exact fun h=>⟨i,h,rfl⟩
 have hnp:∀ i∈ns,i∉ps:=fun i hi hp=>by
  have h1:=(hu i).1 hi;have h2:=(hpm i hp).2.1;omega
 have hk1:∀ i,i < ks.length->kd (BR ks fr.length) i=if i∈ps then 3 else kd ks i:=fun i hi=>by
  unfold BR;rw [GY hi];by_cases h:i∈ps
  ·rw [if_pos h,if_pos ((htz i).2 h)]
  ·rw [if_neg h,if_neg fun hh=>h ((htz i).1 hh)]
 have hgl:(BR ks fr.length).length=ks.length:=by unfold BR;exact Ci _ _ _
 have hgm:∀ x∈g,∃ i:Nat,x=i/\i∈ns:=fun x hx=>by
  obtain ⟨h1,h2⟩:=hgm0 x hx;exact ⟨x.toNat,by omega,h2⟩
 have hnl:∀ i∈ns,i < ks.length/\2<=i:=fun i hi=>by
  have h1:=(hu i).1 hi;refine ⟨U6 (by omega),?_⟩;have k0:=hks.k0;have k1:=hks.k1;apply Classical.byContradiction;intro h3;rcases (by omega:i=0\/i=1) with rfl | rfl
  ·omega
  ·omega
 have hge:Io (BR ks fr.length) g=0:=by
  refine PX (outR_false.2 fun x hx=>?_) (fun x hx=>?_) hgn
  ·obtain ⟨i,rfl,hi⟩:=hgm x hx;have:=hnl i hi;rw [hgl];omega
  ·obtain ⟨i,rfl,hi⟩:=hgm x hx;have h1:=(hu i).1 hi;rw [show ((i:Int)).toNat=i from by omega,hk1 i (hnl i hi).1,if_neg (hnp i hi)];unfold isG;rcases h1 with h | h<;>rw [h]<;>rfl
 have hk2:∀ i,i < ks.length->kd (Fb (BR ks fr.length) g) i=if (i:Int)∈g then gK (kd ks i) else if i∈ps then 3 else kd ks i:=fun i hi=>by
  unfold Fb;rw [if_pos hge,EP (by rw [hgl];exact hi),hk1 i hi];by_cases h:(i:Int)∈g
  ·rw [if_pos h,if_pos h];obtain ⟨j,hj,hjn⟩:=hgm _ h;have:i=j:=by omega
   rw [if_neg (hnp i (this ▸ hjn))]
  ·rw [if_neg h,if_neg h]
 have hgl2:(Fb (BR ks fr.length) g).length=ks.length:=by unfold Fb;rw [if_pos hge,Cj,hgl]
 have hns:∀ i,i∈zs.map (sgm ps)↔i∈ps\/(i∈ns/\(i:Int)∉g):=fun i=>by
  rw [List.mem_map];constructor
  ·rintro ⟨x,hx,rfl⟩;rcases (hmem _).1 hx with ⟨h1,h2⟩ | ⟨h1,h2,h3⟩
   ·exact .inl (List.mem_of_getElem? (Fj h1 (by omega)))
   ·rw [Fh h1];exact .inr ⟨h2,by rw [show ((x.toNat:Nat):Int)=x by omega];exact h3⟩
  ·rintro (h | ⟨h1,h2⟩)
   ·obtain ⟨k,hk,hke⟩:=List.getElem_of_mem h;refine ⟨-(k:Int) - 1,(hmem _).2 (.inl ⟨by omega,by omega⟩),?_⟩;have:=Fj (ps:=ps) (z:=-(k:Int) - 1) (by omega) (by omega);rw [show (-(-(k:Int) - 1) - 1).toNat=k by omega,List.getElem?_eq_getElem hk] at this;rw [<- hke];exact (Option.some.inj this).symm
   ·exact ⟨(i:Int),(hmem _).2 (.inr ⟨by omega,by simpa using h1,h2⟩),by rw [Fh (by omega)];rfl⟩
 have hkt:KsTo ks (zs.map (sgm ps)) (Fb (BR ks fr.length) g):=by
  refine ⟨hgl2,fun i h2 hi=>?_⟩;rw [hk2 i hi];have hr:=hks.rest i h2 hi;by_cases h:(i:Int)∈g
  ·obtain ⟨j,hj,hjn⟩:=hgm _ h;have hij:i=j:=by omega
   rw [<- hij] at hjn;have hno:i∉zs.map (sgm ps):=fun hh=>by
    rcases (hns i).1 hh with hh | hh
    ·exact hnp i hjn hh
    ·exact hh.2 h
   rw [if_pos h,if_neg hno];rcases (hu i).1 hjn with e | e<;>rw [e]<;>rfl
  ·rw [if_neg h];by_cases hp:i∈ps
   ·rw [if_pos hp,if_pos ((hns i).2 (.inl hp)),(hpm i hp).2.1];rfl
   ·rw [if_neg hp];by_cases hin:i∈ns
    ·rw [if_pos ((hns i).2 (.inr ⟨hin,h⟩))];rcases (hu i).1 hin with e | e<;>rw [e]<;>rfl
    ·rw [if_neg fun hh=>by
      rcases (hns i).1 hh with hh | hh
      ·exact hp hh
      ·exact hin hh.1]
     have h5:¬ (kd ks i=2\/kd ks i=3):=fun hh=>hin ((hu i).2 hh);rcases (by omega:kd ks i=1\/kd ks i=4) with e | e<;>rw [e]<;>rfl
 have hrng:∀ q∈zs.map (sgm ps),2<=q/\q < ks.length:=fun q hq=>by
  rcases (hns q).1 hq with h | h
  ·have:=hpm q h;omega
  ·have:=hnl q h.1;omega
 refine ⟨hge,?_,?_,?_,hkt,?_,hrng⟩
 ·refine fun x hx n hv=>?_;rcases (hmem _).1 hx with ⟨h1,h2⟩ | ⟨h1,h2,h3⟩
  ·rw [F7 h1] at hv;exact hw.1 _ _ _ (Fj h1 (by omega)) hv
  ·rw [Hq h1] at hv;rw [Fh h1,hw.2 _ (hnp _ h2),hv];have hb:=(Ba (QH (lf:=n.1) (es:=n.2) hv)).2.1;have hm:n.2.map (stl ps)=n.2:=by
    have:∀ l:List Et,(∀ e∈l,0<=e.2)->l.map (stl ps)=l:=fun l hl=>by
     induction l with
     | nil=>rfl
     | cons a r ih=>rw [List.map_cons,Ph (hl a (List.mem_cons_self ..)),ih fun e he=>hl e (List.mem_cons_of_mem _ he)]
    exact this n.2 fun e hh=>by have:=(okE_iff.1 (badN_false.1 hb e hh)).2.1;omega
   rw [hm]
 ·refine List.Pairwise.map (R:=fun a b=>a≠b/\a∈zs/\b∈zs) _ (fun a b h e=>?_) ?_
  ·obtain ⟨h1,ha,hb⟩:=h;apply h1;rcases (hmem _).1 ha with ⟨a1,a2⟩ | ⟨a1,a2,a3⟩
   ·rcases (hmem _).1 hb with ⟨b1,b2⟩ | ⟨b1,b2,b3⟩
    ·have e1:=Fj (ps:=ps) a1 (by omega);have e2:=Fj (ps:=ps) b1 (by omega);rw [e] at e1;have:=(List.getElem?_inj (i:=(-a - 1).toNat) (j:=(-b - 1).toNat) (by omega) hpn).1 (e1.trans e2.symm);omega
    ·have e1:=List.mem_of_getElem? (Fj (ps:=ps) a1 (by omega));rw [e,Fh b1] at e1;exact absurd e1 (hnp _ b2)
   ·rcases (hmem _).1 hb with ⟨b1,b2⟩ | ⟨b1,b2,b3⟩
    ·have e1:=List.mem_of_getElem? (Fj (ps:=ps) b1 (by omega));rw [<- e,Fh a1] at e1;exact absurd e1 (hnp _ a2)
    ·rw [Fh a1,Fh b1] at e;omega
  ·have h1:=hzn;exact List.Pairwise.imp_of_mem (fun ha hb h=>⟨h,ha,hb⟩) h1
 ·intro i;constructor
  ·intro hi;have hr:=hrng i hi;rw [hkt.2 i hr.1 hr.2,if_pos hi];by_cases h:kd ks i=2
   ·rw [if_pos h];exact .inl rfl
   ·rw [if_neg h];exact .inr rfl
  ·intro hh;have hi:i < ks.length:=by rw [<- hgl2];exact U6 (by omega)
   rw [hk2 i hi] at hh;by_cases h:(i:Int)∈g
   ·rw [if_pos h] at hh;exfalso;obtain ⟨j,hj,hjn⟩:=hgm _ h;have hij:i=j:=by omega
    rw [<- hij] at hjn;rcases (hu i).1 hjn with e | e<;>rw [e] at hh<;>revert hh<;>decide
   ·rw [if_neg h] at hh;by_cases hp:i∈ps
    ·exact (hns i).2 (.inl hp)
    ·rw [if_neg hp] at hh;exact (hns i).2 (.inr ⟨(hu i).2 hh,h⟩)
 ·intro q hq;have hql:q < ks.length:=U6 (by omega);have hqp:q∉ps:=fun hp=>by have:=(hpm q hp).2.1;omega
  refine ⟨hw.2 q hqp,?_⟩;rw [hk2 q hql];by_cases h:(q:Int)∈g
  ·rw [if_pos h];rcases hq with e | e<;>rw [e]
   iterate 2
    ·exact .inr rfl
  ·rw [if_neg h,if_neg hqp];exact hq
end Go.Proofs.YtfhdojnobmfefaaGreatDoor
namespace Go.Inc
open Go Go.RowKit
section
variable {f:Nat->Option Nd} {D m:Nat} {ns:List Int} {j:Jb}
theorem JbOk.none {rs:List (Sh D)} (h:JbOk f D rs ns j m) (h0:rs=[]):j.l=[]/\j.fr=[]/\∀ x,cn x j.g=cn x ns:=by
 obtain ⟨lq,h1,h2,h3⟩:=h.is;subst h0;cases lq with
 | cons a b=>exact h1.elim
 | nil=>
  have hf:j.fr.length=0:=by
   apply Classical.byContradiction;intro hn;have h4:=h3 (-1);have h5:cn (-1) j.g=0:=Dc fun hm=>by have:=h.g0 _ hm;omega
   have h6:=cn_mem.1 ((negs_mem (z:=-1) (m:=0) (n:=j.fr.length)).2 ⟨by omega,by omega,by omega⟩);have e:cn (-1) (fl [])=0:=rfl;omega
  refine ⟨by rw [h2];rfl,List.eq_nil_of_length_eq_zero hf,fun x=>?_⟩;have h4:=h3 x;rw [hf] at h4;have e:cn x (fl [])=0:=rfl;have e2:cn x (Dz 0 0)=0:=rfl;omega
theorem JbOk.one {r:Sh D} (h:JbOk f D [r] ns j m):∃ z zs,j.l=[(Es D r,z)]/\TpI f ns D z r zs j.fr j.g:=by
 obtain ⟨lq,h1,h2,h3⟩:=h.is;cases lq with
 | nil=>exact h1.elim
 | cons q l=>
  obtain ⟨i1,i2⟩:=h1;cases l with
  | cons a b=>exact i2.elim
  | nil=>
   refine ⟨q.1,q.2,h2,i1,fun x=>?_,h.g0⟩;have h4:=h3 x;rw [F5,EE] at h4;have e:cn x (fl [])=0:=rfl;omega
theorem JbOk.two {rs:List (Sh D)} (h:JbOk f D rs ns j m) (h0:∀ x∈ns,0<=x):∃ zs,TpI f ns (D+1) (-(j.fr.length:Int) - 1) rs zs (j.fr++[(false,j.l)]) j.g:=by
 obtain ⟨lq,h1,h2,h3⟩:=h.is;have hz:vw f (j.fr++[(false,j.l)]) (-(j.fr.length:Int) - 1)=some (false,j.l):=by
  rw [F7 (by omega),show (-(-(j.fr.length:Int) - 1) - 1).toNat=j.fr.length by omega,List.getElem?_append_right (Nat.le_refl _),Nat.sub_self];rfl
 refine ⟨(-(j.fr.length:Int) - 1)::fl lq,⟨lq,h1.imp fun c q _ _ hh=>IsZ.imp hh fun x _ n hv=>GG hv,by rw [<- h2];exact hz,rfl,fun _ x hx=>?_⟩,fun x=>?_,h.g0⟩
 ·rcases List.mem_cons.1 hx with rfl | hx
  ·exact Int.le_refl _
  ·apply Classical.byContradiction;intro hn;have h4:=h3 x;have h5:=cn_mem.1 hx;have h6:cn x ns=0:=Dc fun hm=>by have:=h0 x hm;omega
   have h7:cn x (Dz 0 j.fr.length)=0:=Dc fun hm=>by have:=negs_mem.1 hm;omega
   omega
 ·have h4:=h3 x;rw [List.length_append,List.length_singleton,JI,EE,Df];show (if -(j.fr.length:Int) - 1=x then 1 else 0)+cn x (fl lq)+cn x j.g=cn x ns+(cn x (Dz 0 j.fr.length)+((if -((0+j.fr.length:Nat):Int) - 1=x then 1 else 0)+0))
  rw [Nat.zero_add];omega
end
end Go.Inc
