/- MADE SMALL. -/
import Derived.Test.YtfhdojnobmfefaaGreatDoorRows
import Derived.Test.YtfhdojnobmfefaaGreatDoorK16
import Derived.Test.YtfhdojnobmfefaaGreatDoorK8
import Derived.Test.YtfhdojnobmfefaaGreatDoorK1
import Derived.Test.YtfhdojnobmfefaaGreatDoorK11
import Derived.OrdersIn
import Derived.TacticsIn
import Derived.Lib.MinMax
import Derived.Deep.QuietTactic
import Derived.BigQuiet
import Derived.BigRegion
namespace Go.Inc
open Go.RowKit
def Aj:List Et->List Value
 | []=>[]
 | e::r=>.int .i64 e.1.1::.int .i64 e.1.2::.int .i64 e.2::Aj r
theorem Fz:∀ a b,Aj (a++b)=Aj a++Aj b
 | [],_=>rfl
 | x::r,b=>by simp only [List.cons_append,Aj,Fz r b]
theorem Fv:∀ l,(Aj l).length=l.length * 3
 | []=>rfl
 | x::r=>by simp only [Aj,List.length_cons,Fv r];omega
theorem Jg:∀ l,∀ u∈Aj l,u.oneCell'=true
 | [],u,h=>by cases h
 | x::r,u,h=>by
  simp only [Aj,List.mem_cons] at h;rcases h with rfl | rfl | rfl | h
  ·rfl
  ·rfl
  ·rfl
  ·exact Jg r u h
theorem Jh:∀ (l:List Et) (i:Nat),i < l.length->(Aj l)[i * 3]?=some (.int .i64 (l.getD i et0).1.1)/\(Aj l)[i * 3+1]?=some (.int .i64 (l.getD i et0).1.2)/\(Aj l)[i * 3+2]?=some (.int .i64 (l.getD i et0).2)
 | [],i,h=>by simp at h
 | x::r,0,_=>⟨rfl,rfl,rfl⟩
 | x::r,i+1,h=>by
  have:=Jh r i (by simpa using h);rw [show (i+1) * 3=i * 3+1+1+1 from by omega];simp only [Aj,List.getElem?_cons_succ];exact this
def EtS (ok:Nat->Prop) (w:World) (a:Option Addr) (es:List Et):Prop:=
 es=[]\/∃ b o,a=some ⟨b,o,none⟩/\ok b/\∀ i,i < es.length->w.cell? ⟨b,o+i * 3,none⟩=some (.int .i64 (es.getD i et0).1.1)/\w.cell? ⟨b,o+i * 3+1,none⟩=some (.int .i64 (es.getD i et0).1.2)/\w.cell? ⟨b,o+i * 3+2,none⟩=some (.int .i64 (es.getD i et0).2)
section
variable {ok ok':Nat->Prop} {w w':World} {a:Option Addr} {es:List Et}
theorem EtS.mono (h:EtS ok w a es) (hk:∀ b,ok b->b < w.heap.size->ok' b):EtS ok' w a es:=by
 rcases h with h | ⟨b,o,ha,hb,hc⟩
 ·exact .inl h
 ·by_cases h0:es=[]
  ·exact .inl h0
  ·exact .inr ⟨b,o,ha,hk b hb (Az (hc 0 (List.length_pos_iff.2 h0)).1),hc⟩
theorem EtS.kept (h:EtS ok w a es) (hb:∀ b,ok b->b < w.heap.size->w'.heap[b]?=w.heap[b]?):EtS ok w' a es:=by
 rcases h with h | ⟨b,o,rfl,hk,hc⟩
 ·exact .inl h
 ·by_cases h0:es=[]
  ·exact .inl h0
  ·have hbb:=hb b hk (Az (hc 0 (List.length_pos_iff.2 h0)).1);exact .inr ⟨b,o,rfl,hk,fun i hi=>⟨(World.cell?_of_block hbb).trans (hc i hi).1,(World.cell?_of_block hbb).trans (hc i hi).2.1,(World.cell?_of_block hbb).trans (hc i hi).2.2⟩⟩
theorem EtS.below (h:EtS ok w a es) (hb:Below w.heap.size w w'):EtS ok w' a es:=h.kept fun b _ hlt=>hb.block b hlt
theorem EtS.old (h:EtS ok w a es):EtS (fun b=>b < w.heap.size) w a es:=h.mono fun _ _ hl=>hl
theorem EtS.cell (h:EtS ok w a es) {i:Nat} (hi:i < es.length):∃ b o,a=some ⟨b,o,none⟩/\w.cell? ⟨b,o+i * 3,none⟩=some (.int .i64 (es.getD i et0).1.1)/\w.cell? ⟨b,o+i * 3+1,none⟩=some (.int .i64 (es.getD i et0).1.2)/\w.cell? ⟨b,o+i * 3+2,none⟩=some (.int .i64 (es.getD i et0).2):=by
 rcases h with h | ⟨b,o,h,_,hc⟩
 ·rw [h] at hi;simp at hi
 ·exact ⟨b,o,h,hc i hi⟩
theorem EtS.front (h:EtS ok w a es) (k:Nat):EtS ok w a (es.take k):=by
 rcases h with rfl | ⟨b,o,rfl,hk,hc⟩
 ·left;simp
 ·refine .inr ⟨b,o,rfl,hk,fun i hi=>?_⟩;simp only [List.length_take] at hi;rw [Kq (by omega)];exact hc i (by omega)
theorem EtS.back (h:EtS ok w a es) (k:Nat) (a':Option Addr) (ha:k < es.length->a'=a.map fun x=>x.add (k * 3)):EtS ok w a' (es.drop k):=by
 by_cases hk:k < es.length
 ·rcases h with rfl | ⟨b,o,rfl,hok,hc⟩
  ·simp at hk
  ·refine .inr ⟨b,o+k * 3,by rw [ha hk];simp [Addr.add],hok,fun i hi=>?_⟩;simp only [List.length_drop] at hi;rw [Kr,show o+k * 3+i * 3=o+(k+i) * 3 by omega];exact hc (k+i) (by omega)
 ·left;exact List.drop_eq_nil_of_le (by omega)
theorem BR {B n:Nat} {v:Value} {e:TypeId} (h:w.ownsRow B e 3 v n (Aj es)):∃ a c,v=.slice a es.length c/\n=es.length/\EtS (fun b=>B<=b) w a es/\es.length<=c/\c<=maxLen/\(a=none->c=0):=by
 have hn:n=es.length:=by have:=h.1;rw [Fv] at this;omega
 subst hn;rcases h.2 with ⟨rfl,h0⟩ | ⟨g,cap,cur,rfl,hb,hg,hnc,hm,hcs,ht⟩
 ·exact ⟨none,0,by rw [h0],rfl,.inl (List.eq_nil_of_length_eq_zero h0),by omega,Nat.zero_le _,fun _=>rfl⟩
 ·refine ⟨_,cap,rfl,rfl,.inr ⟨g,0,rfl,hb,fun i hi=>?_⟩,hnc,hm,fun h=>by cases h⟩;obtain ⟨g1,g2,g3⟩:=Jh es i hi;have h1:=h.cells (g:=g) rfl (i * 3) _ g1;have h2:=h.cells (g:=g) rfl (i * 3+1) _ g2;have h3:=h.cells (g:=g) rfl (i * 3+2) _ g3;rw [Addr.add_lit] at h1 h2 h3;exact ⟨h1,h2,h3⟩
end
theorem AY {W:World} {B B' e s n:Nat} {v:Value} {x:List Value} (h:W.ownsRow B e s v n x) (hb:B'<=B):W.ownsRow B' e s v n x:=
 ⟨h.1,h.2.imp id fun ⟨g,cap,cur,h1,h2,r⟩=>⟨g,cap,cur,h1,Nat.le_trans hb h2,r⟩⟩
theorem FX {E T B n s:Nat} {w w':World} {v:Value} {xs:List Value} {g:Nat} {cs:Array Value} {fz:Nat×Nat} (hne:E≠T) (hr:w.ownsRow B E s v n xs) (hg:w.grownBy w' v.ownBlock) (h:w.heap[g]?=some (.cells cs T fz)):w'.heap[g]?=some (.cells cs T fz):=by
 refine Iw h hg ?_;rcases hr.2 with ⟨rfl,_⟩ | ⟨g1,cap,cur,rfl,_,hg1,_⟩
 ·intro e;cases e
 ·intro e;have e':g1=g:=by simpa [Value.ownBlock] using e
  subst e';rw [hg1] at h;simp at h;exact hne h.2.1
def NodeN (E B:Nat) (w:World) (v:Value) (lf:Bool) (es:List Et):Prop:=
 ∃ r,v=.agg #[.bool lf,r]/\w.ownsRow B E 3 r es.length (Aj es)
def JJ (k:Ky):Prop:=(-9223372036854775808<=k.1/\k.1<=9223372036854775807)/\-9223372036854775808<=k.2/\k.2<=9223372036854775807
def EL (e:Et):Prop:=JJ e.1/\-9223372036854775808<=e.2/\e.2<=9223372036854775807
theorem Jy {e:Et} (h:okE e=true):EL e:=by
 have:=okE_iff.1 h;unfold EL JJ;omega
end Go.Inc
namespace Go.Proofs.YtfhdojnobmfefaaGreatDoor
open Go.RowKit Go.Inc
theorem EQ:(Tryz.prog.info? 65).map (fun i=>(i.zero,i.size,i.bytes))=some (some (.agg #[.int .i64 0,.int .i64 0,.int .i64 0]),3,24):=by kernel_rfl
theorem eu:(Tryz.prog.info? 37).map (fun i=>(i.zero,i.size,i.bytes))=some (some (.agg #[.int .i64 0,.int .i64 0,.int .i64 0]),3,24):=by kernel_rfl
abbrev EqN (x:Value):World->Value->Prop:=fun _ v=>v=x
end Go.Proofs.YtfhdojnobmfefaaGreatDoor
namespace Go.Inc
open Go.RowKit
theorem Ei {P:Program} {o:Oper} {b:Act} {K:Act->World->Prop} {Q:Exit->Act->World->Prop} {ρ:Operand->Value} {w w':World} {v u v':Value} (s x:Operand) (t:TypeId)
  (ho:o.op=.call {callee:=.builtin .append,args:=#[s,x],argTypes:=#[t,t]}) (hs:ρ s=v) (hx:ρ x=u) (hr:(Builtin.append_ #[t,t] o.type #[v,u]).run P w=.ok v' w') (hk:K (b.put o.dst v') w') :
  o.upon P b K Q ((execOp ρ o).run P w):=by
 unfold execOp;simp only [ho,resolve,invoke,builtin,Sem.run_bind,Sem.run_pure,Result.andThen_ok,List.map_toArray,List.map_cons,List.map_nil,hs,hx,hr];exact hk
def RowE (e:Et) (T:TypeId) (x:World) (v:Value):Prop:=∃ b,v=.slice (some ⟨b,0,none⟩) 1 1/\x.heap[b]?=some (.cells #[.int .i64 e.1.1,.int .i64 e.1.2,.int .i64 e.2] T (0,0))
theorem RowE.kept {e:Et} {T:TypeId} {x y:World} {v:Value} (h:RowE e T x v) (hg:Grew x y):RowE e T y v:=by
 obtain ⟨b,h1,h3⟩:=h;exact ⟨b,h1,Ac h3 hg⟩
theorem SG {e:Et} {T:TypeId} {x:World} {b:Nat} (h:x.heap[b]?=some (.cells #[.int .i64 e.1.1,.int .i64 e.1.2,.int .i64 e.2] T (0,0))):∀ j u,(Aj [e])[j]?=some u->x.cell? ((⟨b,0,none⟩:Addr).add j)=some u:=by
 intro j u hu;rw [Addr.add_lit,cell_of_row _ _ _ _ _ _ h]
 match j,hu with
 | 0,hu=>simpa [Aj] using hu
 | 1,hu=>simpa [Aj] using hu
 | 2,hu=>simpa [Aj] using hu
 | j+3,hu=>simp [Aj] at hu
def RowV (T B:Nat) (es:List Et) (x:World) (v:Value):Prop:=x.ownsRow B T 3 v es.length (Aj es)
theorem RowV.kept {T B:Nat} {es:List Et} {x y:World} {v:Value} (h:RowV T B es x v) (hg:Grew x y):RowV T B es y v:=
 Ai (F:=fun _=>False) h (Mv.of_below hg) fun _ _=>id
theorem VO {w:World} {B E s n:Nat} {v:Value} {xs:List Value} (h:w.ownsRow B E s v n xs):v.oneCell'=true:=by
 rcases h.2 with ⟨rfl,_⟩ | ⟨g,cap,cur,rfl,_⟩<;>rfl
theorem dw {lf:Bool} {u:Value} (h:u.oneCell'=true):(#[Value.bool lf,u]:Array Value).all (·.oneCell')=true:=by
 cases u<;>first | (simp [Value.oneCell'] at h;done) | (simp [Value.oneCell'])
def BoxJ (w:World) (g:Nat) (T1 T2:TypeId) (c1 c2 c3:Array Value) (x:World):Prop:=
 Below w.heap.size w x/\x.heap[g]?=some (.cells c1 T1 (0,0))/\x.heap[g+1]?=some (.cells c2 T2 (0,0))/\x.heap[g+1+1]?=some (.cells c3 T2 (0,0))
theorem BoxJ.grew {w:World} {g:Nat} {T1 T2:TypeId} {c1 c2 c3:Array Value} {a b:World} (hg:Grew a b) (h:BoxJ w g T1 T2 c1 c2 c3 a):BoxJ w g T1 T2 c1 c2 c3 b:=
 ⟨h.1.trans (Below.mono hg h.1.size),Ac h.2.1 hg,Ac h.2.2.1 hg,Ac h.2.2.2 hg⟩
theorem BoxJ.row {w:World} {g:Nat} {T1 T2:TypeId} {c1 c2 c3:Array Value} {a b:World} {E B s n:Nat} {v:Value} {xs:List Value} (h:BoxJ w g T1 T2 c1 c2 c3 a) (hr:a.ownsRow B E s v n xs) (hg:a.grownBy b v.ownBlock) (hB:w.heap.size<=B) (h1:E≠T1) (h2:E≠T2):BoxJ w g T1 T2 c1 c2 c3 b:=
 ⟨AX (w0:=w) h.1 hr hB hg,FX h1 hr hg h.2.1,FX h2 hr hg h.2.2.1,FX h2 hr hg h.2.2.2⟩
theorem CZ {E T B s n:Nat} {w:World} {v:Value} {xs:List Value} {g:Nat} {cs:Array Value} {fz:Nat×Nat} (hne:E≠T) (hr:w.ownsRow B E s v n xs) (h:w.heap[g]?=some (.cells cs T fz)):v.ownBlock≠some g:=by
 rcases hr.2 with ⟨rfl,_⟩ | ⟨g1,cap,cur,rfl,_,hg1,_⟩
 ·intro e;cases e
 ·intro e;have e':g1=g:=by simpa [Value.ownBlock] using e
  subst e';rw [hg1] at h;simp at h;exact hne h.2.1
theorem BoxJ.put {w:World} {g:Nat} {T1 T2:TypeId} {c1 c2:Array Value} {x:World} {z u:Value} (h:BoxJ w g T1 T2 c1 c2 #[z,u] x) (hg:g=w.heap.size) (v:Value):BoxJ w g T1 T2 c1 c2 #[z,v] (x.setCell ⟨g+1+1,1,none⟩ v):=by
 refine ⟨h.1.setCell (p:=⟨g+1+1,1,none⟩) (show w.heap.size<=g+1+1 by omega) _,?_,?_,heap_setCell_same x (g+1+1) 1 _ _ _ h.2.2.2⟩
 ·rw [heap_setCell_other _ _ _ _ (show g≠g+1+1 by omega)];exact h.2.1
 ·rw [heap_setCell_other _ _ _ _ (show g+1≠g+1+1 by omega)];exact h.2.2.1
theorem BoxJ.putRow {w:World} {g:Nat} {T1 T2:TypeId} {c1 c2 c3:Array Value} {x:World} {E B s n:Nat} {r:Value} {xs:List Value} (h:BoxJ w g T1 T2 c1 c2 c3 x) (hr:x.ownsRow B E s r n xs) (hne:E≠T2) (v:Value):(x.setCell ⟨g+1+1,1,none⟩ v).ownsRow B E s r n xs:=
 ownsRow_setCell_other hr (CZ hne hr h.2.2.2) v
end Go.Inc
namespace Go.Proofs.YtfhdojnobmfefaaGreatDoor
open Go.RowKit Go.Inc
set_option maxRecDepth 20000 in
set_option maxHeartbeats 4000000 in
theorem VR (ok:Nat->Prop) (a:Option Addr) (c:Nat) (lf:Bool) (es:List Et) (w:World) (hs:EtS ok w a es) (hl:(es.length:Int)<=1000000) :
  Calls Tryz.prog 68 #[.agg #[.bool lf,.slice a es.length c]] w fun e w'=>(∃ v,e=.returned v/\NodeN 37 w.heap.size w' v lf (es))/\Below w.heap.size w w':=by
 obtain ⟨i0,hi,hz0,hz1,hz2⟩:=info_parts eu;have HI:=hid (And.intro hi (And.intro hz0 (And.intro hz1 hz2)));have HS:=hid hs.old;obtain ⟨n,hn⟩:∃ n,n=es.length:=⟨_,rfl⟩
 have HN:=hid hn;rw [<- hn] at hl;obtain ⟨g,hg⟩:∃ g,g=w.heap.size:=⟨_,rfl⟩
 have HG:=hid hg;obtain ⟨w0,hw0⟩:∃ w0,w0=((w.alloc (.cells #[.bool lf,.slice a n c] 114)).alloc (.cells #[.bool false,.slice none 0 0] 130)).alloc (.cells #[.bool lf,.slice none 0 0] 130):=⟨_,rfl⟩
 have HW0:=hid hw0;have HJ0:Hid (BoxJ w g 114 130 #[.bool lf,.slice a n c] #[.bool false,.slice none 0 0] #[.bool lf,.slice none 0 0] w0):=hid (by
  rw [hw0,hg];refine ⟨(((Below.refl _ _).alloc (Nat.le_refl _) _).alloc (by simp) _).alloc (by simp;omega) _,?_,?_,?_⟩
  ·exact Ac (heap_alloc2_old w _ _) (Ae _ _)
  ·exact Ac (heap_alloc2_new w _ _) (Ae _ _)
  ·have h:=heap_alloc2_new (w.alloc (.cells #[.bool lf,.slice a n c] 114)) (.cells #[.bool false,.slice none 0 0] 130) (.cells #[.bool lf,.slice none 0 0] 130);rw [World.size_alloc] at h;exact h)
 rw [<- hn];clear hs hi hz0 hz1 hz2 hn hg hw0
 go_enter Tryz.func68,Tryz.ntmps68
 go_wp2_with fail
 rw [<- HW0.out,<- HG.out]
 go_loopw [4] (fun i wr=>∃ (k:Nat) (u:Value),k<=n/\i=.int .i64 (k:Int)/\BoxJ w g 114 130 #[.bool lf,.slice a n c] #[.bool false,.slice none 0 0] #[.bool lf,u] wr/\wr.ownsRow w.heap.size 37 3 u (es.take k).length (Aj (es.take k))) (fun i _=>n - (intOf i).toNat)
 case atStart=>exact ⟨0,_,Nat.zero_le _,rfl,HJ0.out,World.ownsRow_nil _ _ _ _⟩
 case round=>
  clear HJ0;obtain ⟨k,u,hk,rfl,hj,hv⟩:=hrel;have HJ:=hid (And.intro hj hv);have hbx:=hj.2.1;have hbo:=hj.2.2.2;have hc1:wr.cell? ⟨g,1,none⟩=some (.slice a n c):=coR hbx;clear hj hv hbx;by_cases hlt:(k:Int) < n
  ·have hkn:(k < n)=True:=eq_true (by omega);by_cases h0:True
   ·obtain ⟨b,o,rfl,hx1,hx2,hx3⟩:=(HS.out.below HJ.out.1.1).cell (i:=k) (by have:=HN.out;omega);have HSN:=hid (DJ (bs:=es) (d:=et0) (k:=k) (by have:=HN.out;omega));have HKL:Hid ((es.take k).length=k/\(k:Int)<=1000000):=hid ⟨by rw [List.length_take];have:=HN.out;omega,by omega⟩;obtain ⟨⟨⟨s,z⟩,p⟩,hx⟩:∃ x,x=es.getD k et0:=⟨_,rfl⟩
    rw [<- hx] at hx1 hx2 hx3 HSN;simp only at hx1 hx2 hx3;have HC:Hid (∀ x,BoxJ w g 114 130 #[.bool lf,.slice (some ⟨b,o,none⟩) n c] #[.bool false,.slice none 0 0] #[.bool lf,u] x->x.cell? ⟨g,1,none⟩=some (.slice (some ⟨b,o,none⟩) n c)/\x.cell? ⟨g,0,none⟩=some (.bool lf)/\x.cell? ⟨g+1+1,1,none⟩=some u/\x.cell? ⟨b,o+k * 3,none⟩=some (.int .i64 s)/\x.cell? ⟨b,o+k * 3+1,none⟩=some (.int .i64 z)/\x.cell? ⟨b,o+k * 3+2,none⟩=some (.int .i64 p)):=hid fun x hj=>by
     obtain ⟨q1,q2,q3⟩:=(HS.out.below hj.1).cell (i:=k) (by have:=HN.out;omega) |>.choose_spec.choose_spec.2;have hq:=(HS.out.below hj.1).cell (i:=k) (by have:=HN.out;omega);obtain ⟨b',o',hab,q1,q2,q3⟩:=hq;cases hab;rw [<- hx] at q1 q2 q3;exact ⟨by rw [cell_of_row _ _ _ _ _ _ hj.2.1];rfl,by rw [cell_of_row _ _ _ _ _ _ hj.2.1];rfl,by rw [cell_of_row _ _ _ _ _ _ hj.2.2.2];rfl,q1,q2,q3⟩
    clear hx hx1 hx2 hx3 hbo
    go_wp2_with fail
    refine Dt 27 25 (fun x=>BoxJ w g 114 130 #[.bool lf,.slice (some ⟨b,o,none⟩) n c] #[.bool false,.slice none 0 0] #[.bool lf,u] x/\x.ownsRow w.heap.size 37 3 u (es.take k).length (Aj (es.take k))) (BoxJ w g 114 130 #[.bool lf,.slice (some ⟨b,o,none⟩) n c] #[.bool false,.slice none 0 0] #[.bool lf,u]) [24] [EqN (.pointer (some ⟨g+1+1,1,none⟩)),EqN (u),EqN (.pointer (some ⟨g,1,none⟩)),EqN (.slice (some ⟨b,o,none⟩) n c),EqN (.int .i64 (k:Int)),EqN (.pointer (some ⟨b,o+k * 3,none⟩)),EqN (.pointer (some ⟨b,o+k * 3,none⟩)),EqN (.pointer (some ⟨b,o+k * 3,none⟩)),EqN (.int .i64 s),EqN (.pointer (some ⟨g,1,none⟩)),EqN (.slice (some ⟨b,o,none⟩) n c),EqN (.int .i64 (k:Int)),EqN (.pointer (some ⟨b,o+k * 3,none⟩)),EqN (.pointer (some ⟨b,o+k * 3,none⟩)),EqN (.pointer (some ⟨b,o+k * 3+1,none⟩)),EqN (.int .i64 z),EqN (.agg #[.int .i64 s,.int .i64 z]),EqN (.pointer (some ⟨g,1,none⟩)),EqN (.slice (some ⟨b,o,none⟩) n c),EqN (.int .i64 (k:Int)),EqN (.pointer (some ⟨b,o+k * 3,none⟩)),EqN (.pointer (some ⟨b,o+k * 3+2,none⟩)),EqN (.int .i64 p),EqN (.agg #[.int .i64 s,.int .i64 z,.int .i64 p]),RowE ((s,z),p) 37,RowV 37 w.heap.size (es.take (k+1)),EqN (.pointer (some ⟨g+1+1,1,none⟩))] (by kernel_rfl) (by decide) (by kernel_rfl) (by kernel_rfl) (by decide) ?_ ?_ ?_ ?_ ?_ ?_
    ·exact ⟨BoxJ.grew (BB wr 1) HJ.out.1,Ai (F:=fun _=>False) HJ.out.2 (Mv.of_below (BB wr 1)) fun _ _=>id⟩
    ·exact fun a b hg h=>⟨BoxJ.grew hg h.1,Ai (F:=fun _=>False) h.2 (Mv.of_below hg) fun _ _=>id⟩
    ·exact fun a b=>BoxJ.grew
    ·repeat' (first | exact List.forall_mem_nil _ | refine List.forall_mem_cons.2 ⟨?_,?_⟩)
     all_goals
      intro w w' v hw h
      first | exact h | exact RowE.kept h hw | exact RowV.kept h hw
    ·simp only [AllLt];refine ⟨⟨⟨⟨⟨⟨⟨⟨⟨⟨⟨⟨⟨⟨⟨⟨⟨⟨⟨⟨⟨⟨⟨⟨⟨⟨⟨trivial,?_⟩,?_⟩,?_⟩,?_⟩,?_⟩,?_⟩,?_⟩,?_⟩,?_⟩,?_⟩,?_⟩,?_⟩,?_⟩,?_⟩,?_⟩,?_⟩,?_⟩,?_⟩,?_⟩,?_⟩,?_⟩,?_⟩,?_⟩,?_⟩,?_⟩,?_⟩,?_⟩
     all_goals
      intro o' ho;simp at ho;subst ho;intro ρ w5 hR hL hS hG;obtain ⟨hl1,hl2,-⟩:=hL
     ·refine Aa rfl ?_;intro bA K Q' hK;have e3:=hS 3 (by kernel_rfl);change ρ (.tmp 3)=_ at e3;simp only [execOp];go_simp;exact hK _ _ rfl (fun _=>Grew.refl _) (fun h=>absurd h (by decide))
     ·refine Aa rfl ?_;intro bA K Q' hK;have e15:=apG (hG 0 15);change ρ (.tmp 15)=_ at e15;obtain ⟨y0,y1,y2,y3,y4,y5⟩:=HC.out w5 (hR.any.elim (fun h=>h.1) id);simp only [execOp];go_simp;exact hK _ _ rfl (fun _=>Grew.refl _) (fun h=>absurd h (by decide))
     ·refine Aa rfl ?_;intro bA K Q' hK;have e1:=hS 1 (by kernel_rfl);change ρ (.tmp 1)=_ at e1;simp only [execOp];go_simp;exact hK _ _ rfl (fun _=>Grew.refl _) (fun h=>absurd h (by decide))
     ·refine Aa rfl ?_;intro bA K Q' hK;have e17:=apG (hG 2 17);change ρ (.tmp 17)=_ at e17;obtain ⟨y0,y1,y2,y3,y4,y5⟩:=HC.out w5 (hR.any.elim (fun h=>h.1) id);simp only [execOp];go_simp;exact hK _ _ rfl (fun _=>Grew.refl _) (fun h=>absurd h (by decide))
     ·refine Aa rfl ?_;intro bA K Q' hK;have e4:=hS 4 (by kernel_rfl);change ρ (.tmp 4)=_ at e4;simp only [execOp];go_simp;exact hK _ _ rfl (fun _=>Grew.refl _) (fun h=>absurd h (by decide))
     ·refine Aa rfl ?_;intro bA K Q' hK;have e18:=apG (hG 3 18);have e19:=apG (hG 4 19);change ρ (.tmp 18)=_ at e18;change ρ (.tmp 19)=_ at e19;simp only [execOp];go_simp;exact hK _ _ rfl (fun _=>Grew.refl _) (fun h=>absurd h (by decide))
     ·refine Aa rfl ?_;intro bA K Q' hK;have e20:=apG (hG 5 20);change ρ (.tmp 20)=_ at e20;simp only [execOp];go_simp;exact hK _ _ rfl (fun _=>Grew.refl _) (fun h=>absurd h (by decide))
     ·refine Aa rfl ?_;intro bA K Q' hK;have e21:=apG (hG 6 21);change ρ (.tmp 21)=_ at e21;simp only [execOp];go_simp;exact hK _ _ rfl (fun _=>Grew.refl _) (fun h=>absurd h (by decide))
     ·refine Aa rfl ?_;intro bA K Q' hK;have e22:=apG (hG 7 22);change ρ (.tmp 22)=_ at e22;obtain ⟨y0,y1,y2,y3,y4,y5⟩:=HC.out w5 (hR.any.elim (fun h=>h.1) id);simp only [execOp];go_simp;exact hK _ _ rfl (fun _=>Grew.refl _) (fun h=>absurd h (by decide))
     ·refine Aa rfl ?_;intro bA K Q' hK;have e1:=hS 1 (by kernel_rfl);change ρ (.tmp 1)=_ at e1;simp only [execOp];go_simp;exact hK _ _ rfl (fun _=>Grew.refl _) (fun h=>absurd h (by decide))
     ·refine Aa rfl ?_;intro bA K Q' hK;have e24:=apG (hG 9 24);change ρ (.tmp 24)=_ at e24;obtain ⟨y0,y1,y2,y3,y4,y5⟩:=HC.out w5 (hR.any.elim (fun h=>h.1) id);simp only [execOp];go_simp;exact hK _ _ rfl (fun _=>Grew.refl _) (fun h=>absurd h (by decide))
     ·refine Aa rfl ?_;intro bA K Q' hK;have e4:=hS 4 (by kernel_rfl);change ρ (.tmp 4)=_ at e4;simp only [execOp];go_simp;exact hK _ _ rfl (fun _=>Grew.refl _) (fun h=>absurd h (by decide))
     ·refine Aa rfl ?_;intro bA K Q' hK;have e25:=apG (hG 10 25);have e26:=apG (hG 11 26);change ρ (.tmp 25)=_ at e25;change ρ (.tmp 26)=_ at e26;simp only [execOp];go_simp;exact hK _ _ rfl (fun _=>Grew.refl _) (fun h=>absurd h (by decide))
     ·refine Aa rfl ?_;intro bA K Q' hK;have e27:=apG (hG 12 27);change ρ (.tmp 27)=_ at e27;simp only [execOp];go_simp;exact hK _ _ rfl (fun _=>Grew.refl _) (fun h=>absurd h (by decide))
     ·refine Aa rfl ?_;intro bA K Q' hK;have e28:=apG (hG 13 28);change ρ (.tmp 28)=_ at e28;simp only [execOp];go_simp;exact hK _ _ rfl (fun _=>Grew.refl _) (fun h=>absurd h (by decide))
     ·refine Aa rfl ?_;intro bA K Q' hK;have e29:=apG (hG 14 29);change ρ (.tmp 29)=_ at e29;obtain ⟨y0,y1,y2,y3,y4,y5⟩:=HC.out w5 (hR.any.elim (fun h=>h.1) id);simp only [execOp];go_simp;exact hK _ _ rfl (fun _=>Grew.refl _) (fun h=>absurd h (by decide))
     ·refine Aa rfl ?_;intro bA K Q' hK;have e23:=apG (hG 8 23);have e30:=apG (hG 15 30);change ρ (.tmp 23)=_ at e23;change ρ (.tmp 30)=_ at e30;simp only [execOp];go_simp;exact hK _ _ rfl (fun _=>Grew.refl _) (fun h=>absurd h (by decide))
     ·refine Aa rfl ?_;intro bA K Q' hK;have e1:=hS 1 (by kernel_rfl);change ρ (.tmp 1)=_ at e1;simp only [execOp];go_simp;exact hK _ _ rfl (fun _=>Grew.refl _) (fun h=>absurd h (by decide))
     ·refine Aa rfl ?_;intro bA K Q' hK;have e32:=apG (hG 17 32);change ρ (.tmp 32)=_ at e32;obtain ⟨y0,y1,y2,y3,y4,y5⟩:=HC.out w5 (hR.any.elim (fun h=>h.1) id);simp only [execOp];go_simp;exact hK _ _ rfl (fun _=>Grew.refl _) (fun h=>absurd h (by decide))
     ·refine Aa rfl ?_;intro bA K Q' hK;have e4:=hS 4 (by kernel_rfl);change ρ (.tmp 4)=_ at e4;simp only [execOp];go_simp;exact hK _ _ rfl (fun _=>Grew.refl _) (fun h=>absurd h (by decide))
     ·refine Aa rfl ?_;intro bA K Q' hK;have e33:=apG (hG 18 33);have e34:=apG (hG 19 34);change ρ (.tmp 33)=_ at e33;change ρ (.tmp 34)=_ at e34;simp only [execOp];go_simp;exact hK _ _ rfl (fun _=>Grew.refl _) (fun h=>absurd h (by decide))
     ·refine Aa rfl ?_;intro bA K Q' hK;have e35:=apG (hG 20 35);change ρ (.tmp 35)=_ at e35;simp only [execOp];go_simp;exact hK _ _ rfl (fun _=>Grew.refl _) (fun h=>absurd h (by decide))
     ·refine Aa rfl ?_;intro bA K Q' hK;have e36:=apG (hG 21 36);change ρ (.tmp 36)=_ at e36;obtain ⟨y0,y1,y2,y3,y4,y5⟩:=HC.out w5 (hR.any.elim (fun h=>h.1) id);simp only [execOp];go_simp;exact hK _ _ rfl (fun _=>Grew.refl _) (fun h=>absurd h (by decide))
     ·refine Aa rfl ?_;intro bA K Q' hK;have e31:=apG (hG 16 31);have e37:=apG (hG 22 37);change ρ (.tmp 31)=_ at e31;change ρ (.tmp 37)=_ at e37;simp only [execOp];go_simp;exact hK _ _ rfl (fun _=>Grew.refl _) (fun h=>absurd h (by decide))
     ·refine Aa rfl ?_;intro bA K Q' hK;have e38:=apG (hG 23 38);change ρ (.tmp 38)=_ at e38;simp only [execOp];go_simp;exact hK _ _ ⟨_,rfl,heap_alloc_new w5 _⟩ (fun _=>(Grew.refl _).alloc _) (fun h=>absurd h (by decide))
     ·refine Aa rfl ?_;intro bA K Q' hK;have e16:=apG (hG 1 16);have e39:=apG (hG 24 39);change ρ (.tmp 16)=_ at e16;obtain ⟨bx,h8,hrx⟩:=e39;obtain ⟨hj1,hj2⟩:=hR.ahead (by decide);obtain ⟨v',w6,hr,ho',hgr,-⟩:=run_append_own (P:=Tryz.prog) w5 w.heap.size 30 30 37 i0 (.agg #[.int .i64 0,.int .i64 0,.int .i64 0]) 3 24 Tryz.underlying30 HI.out.1 HI.out.2.1 HI.out.2.2.1 HI.out.2.2.2 rfl (by decide) u (es.take k).length (Aj (es.take k)) hj2 ⟨bx,0,none⟩ 1 1 (Aj [((s,z),p)]) rfl (SG hrx) (Jg _) (by have:=HKL.out;unfold maxLen;omega) (by have:=HKL.out;omega) hj1.1.size;refine Ei (.tmp 16) (.tmp 39) 30 rfl e16 h8 hr ?_;refine hK _ _ ?_ (fun h=>absurd rfl h) (fun _=>⟨hj1.row hj2 hgr (Nat.le_refl _) (by decide) (by decide),?_⟩)
      ·show w6.ownsRow w.heap.size 37 3 v' (es.take (k+1)).length (Aj (es.take (k+1)));rw [HSN.out,Fz,List.length_append];exact ho'
      ·simp only [AllLt];refine ⟨⟨⟨⟨⟨⟨⟨⟨⟨⟨⟨⟨⟨⟨⟨⟨⟨⟨⟨⟨⟨⟨⟨⟨⟨⟨⟨trivial,?_⟩,?_⟩,?_⟩,?_⟩,?_⟩,?_⟩,?_⟩,?_⟩,?_⟩,?_⟩,?_⟩,?_⟩,?_⟩,?_⟩,?_⟩,?_⟩,?_⟩,?_⟩,?_⟩,?_⟩,?_⟩,?_⟩,?_⟩,?_⟩,?_⟩,?_⟩,?_⟩
       iterate 24
        ·exact fun _ _ y hy=>hy
       ·exact fun _ hl=>absurd hl (by decide)
       ·exact fun hne _=>absurd rfl hne
       ·exact fun _ _ y hy=>hy
     ·refine Aa rfl ?_;intro bA K Q' hK;have e3:=hS 3 (by kernel_rfl);change ρ (.tmp 3)=_ at e3;simp only [execOp];go_simp;exact hK _ _ rfl (fun _=>Grew.refl _) (fun h=>absurd h (by decide))
    ·intro vv w5 hR hG;have h1:vv 26=.pointer (some ⟨g+1+1,1,none⟩):=hG.2 (by decide);have h2:RowV 37 w.heap.size (es.take (k+1)) w5 (vv 25):=hG.1.2 (by decide);have HJ5:=hid hR;have hbx5:=hR.2.2.2;obtain ⟨v9,hv9⟩:∃ v9,v9=vv 25:=⟨_,rfl⟩
     rw [<- hv9] at h2;obtain ⟨a9,c9,hs9,-,-,-,-,-⟩:=BR h2;obtain ⟨L1,hL1⟩:∃ L1,L1=(es.take (k+1)).length:=⟨_,rfl⟩
     have HL1:=hid hL1;rw [<- hL1] at hs9;subst hs9;have H2:Hid (w5.ownsRow w.heap.size 37 3 (.slice a9 L1 c9) L1 (Aj (es.take (k+1)))):=hid (by rw [hL1];rw [<- hL1];unfold RowV at h2;rw [<- hL1] at h2;exact h2);have hco:w5.cell? ⟨g+1+1,1,none⟩=some u:=(HC.out w5 hR).2.2.1;have hfo:w5.frozen? ⟨g+1+1,1,none⟩=false:=frozen_of_row _ _ _ _ _ hbx5;clear hG hR HC h2 hc1 hL1;simp [stG,stU,Ar,Act.put,h1,<- hv9];clear h1 hv9;have HJ9:Hid (BoxJ w g 114 130 #[.bool lf,.slice (some ⟨b,o,none⟩) n c] #[.bool false,.slice none 0 0] #[.bool lf,.slice a9 L1 c9] (w5.setCell ⟨g+1+1,1,none⟩ (.slice a9 L1 c9))):=hid (HJ5.out.put HG.out _);have HV9:Hid ((w5.setCell ⟨g+1+1,1,none⟩ (.slice a9 L1 c9)).ownsRow w.heap.size 37 3 (.slice a9 L1 c9) (es.take (k+1)).length (Aj (es.take (k+1)))):=hid (by rw [<- HL1.out];exact HJ5.out.putRow H2.out (by decide) _)
     go_wp2_with fail
     go_roundw
     case rel=>exact ⟨k+1,.slice a9 L1 c9,by omega,by go_num,HJ9.out,HV9.out⟩
     case measure=>simp [intOf];omega
   ·exact absurd trivial h0
  ·have hkf:(k < n)=False:=eq_false (by omega);have HKE:Hid (k=n):=hid (by omega);clear hlt;have HU1:Hid (u.oneCell'=true):=hid (VO HJ.out.2);have hco1:wr.cell? ⟨g+1+1,0,none⟩=some (.bool lf):=coR hbo;have hco2:wr.cell? ⟨g+1+1,1,none⟩=some u:=coR hbo
   go_wp2_with (refine Ad rfl 130 _ _ rfl (g+1) #[.bool lf,u] rfl rfl 130 _ HJ.out.1.2.2.1 (by kernel_rfl) rfl (dw HU1.out) ?_)
   intro w9 hr9 hg9;have HB9:Hid (Below w.heap.size w w9):=hid (HJ.out.1.1.grown hg9 HJ.out.1.1.size fun k hk=>by have:=HG.out;cases hk;omega);have HV9:Hid (w9.ownsRow w.heap.size 37 3 u (es.take k).length (Aj (es.take k))):=hid (HJ.out.2.kept hg9 (.inr (CZ (by decide) HJ.out.2 HJ.out.1.2.2.1)));clear hg9
   go_wp2_with fail
   exact bodyPost_ret (v:=.agg #[.bool lf,u]) (results_cell_row rfl _ _ (g+1) 130 _ (0,0) _ rfl hr9 Tryz.underlying130 rfl (by kernel_rfl)) rfl ⟨⟨_,rfl,u,rfl,by have h:=HV9.out;rw [HKE.out,HN.out,List.take_length] at h;exact h⟩,HB9.out⟩
end Go.Proofs.YtfhdojnobmfefaaGreatDoor
namespace Go.Proofs.YtfhdojnobmfefaaGreatDoor
open Go.RowKit Go.Inc
set_option maxRecDepth 20000 in
set_option maxHeartbeats 2000000 in
theorem XU {ok ok':Nat->Prop} {a b:Option Addr} (n c d:Nat) (lf:Bool) (es:List Et) {w:World} (ha:EtS ok w a es) (hb:EtS ok' w b es) (hn:n=es.length) (hm:(n:Int)<=1000000) :
  Calls Tryz.prog 67 #[.agg #[.bool lf,.slice a n c],.agg #[.bool lf,.slice b n d]] w fun e w'=>e=.returned (.bool true)/\Below w.heap.size w w':=by
 have HA:=hid ha.old;have HB:=hid hb.old;have HN:=hid hn;have hnn:((n:Int) != n)=false:=by simp
 have hll:((lf:Bool) != lf)=false:=by simp
 obtain ⟨g,hg⟩:∃ g,g=w.heap.size:=⟨_,rfl⟩
 have HG:=hid hg;obtain ⟨w0,hw0⟩:∃ w0,w0=(w.alloc (.cells #[.bool lf,.slice a n c] 130)).alloc (.cells #[.bool lf,.slice b n d] 130):=⟨_,rfl⟩
 have HW0:=hid hw0;have HB0:Hid (Below w.heap.size w w0):=hid (by rw [hw0];exact ((Below.refl _ _).alloc (Nat.le_refl _) _).alloc (by simp) _);have HX1:Hid (w0.heap[g]?=some (.cells #[.bool lf,.slice a n c] 130 (0,0))):=hid (by rw [hw0,hg];exact heap_alloc2_old w _ _);have HX2:Hid (w0.heap[g+1]?=some (.cells #[.bool lf,.slice b n d] 130 (0,0))):=hid (by rw [hw0,hg];exact heap_alloc2_new w _ _);clear ha hb hn hg hw0
 go_enter Tryz.func67,Tryz.ntmps67
 go_wp2_with fail
 rw [<- HW0.out,<- HG.out]
 go_loopw [5] (fun i wr=>∃ k:Nat,k<=n/\i=.int .i64 (k:Int)/\wr.heap[g]?=some (.cells #[.bool lf,.slice a n c] 130 (0,0))/\wr.heap[g+1]?=some (.cells #[.bool lf,.slice b n d] 130 (0,0))/\Below w.heap.size w wr) (fun i _=>n - (intOf i).toNat)
 case atStart=>exact ⟨0,Nat.zero_le _,rfl,HX1.out,HX2.out,HB0.out⟩
 case round=>
  clear HX1 HX2 HB0;obtain ⟨k,hk,rfl,hx1,hx2,hb⟩:=hrel;have HX1:=hid hx1;have HX2:=hid hx2;have HBL:=hid hb;have hb1:wr.cell? ⟨g,1,none⟩=some (.slice a n c):=coR hx1;have hb2:wr.cell? ⟨g+1,1,none⟩=some (.slice b n d):=coR hx2;clear hx1 hx2 hb;by_cases hlt:(k:Int) < n
  ·have hkn:(k < n)=True:=eq_true (by omega);obtain ⟨b1,o1,rfl,hc1,hc2,hc3⟩:=(HA.out.below HBL.out).cell (i:=k) (by have:=HN.out;omega);obtain ⟨b2,o2,rfl,hd1,hd2,hd3⟩:=(HB.out.below HBL.out).cell (i:=k) (by have:=HN.out;omega);obtain ⟨⟨⟨s,z⟩,p⟩,hx⟩:∃ x,x=es.getD k et0:=⟨_,rfl⟩
   rw [<- hx] at hc1 hc2 hc3 hd1 hd2 hd3;simp only at hc1 hc2 hc3 hd1 hd2 hd3;have h1:((s:Int) != s)=false:=by simp
   have h2:((z:Int) != z)=false:=by simp
   have h3:((p:Int) != p)=false:=by simp
   have h4:((s:Int) == s)=true:=by simp
   have h5:((z:Int) == z)=true:=by simp
   have h6:((p:Int) == p)=true:=by simp
   clear hx
   go_wp2_with fail
   go_quiet (fail)
   have hbq:=BB wr nq;have HX1q:=hid (Ac HX1.out hbq);have HX2q:=hid (Ac HX2.out hbq);have HBQ:Hid (Below w.heap.size w (wr.drewN nq)):=hid (HBL.out.trans (hbq.mono HBL.out.size));generalize wr.drewN nq=wq at *
   clear hc1 hc2 hc3 hd1 hd2 hd3 hb1 hb2 hbq
   go_wp2_with fail
   go_roundw
   case rel=>exact ⟨k+1,by omega,by go_num,HX1q.out,HX2q.out,HBQ.out⟩
   case measure=>simp [intOf];omega
  ·have hkf:(k < n)=False:=eq_false (by omega);clear hlt
   go_wp2_with fail
   go_ret
   exact ⟨rfl,HBL.out⟩
end Go.Proofs.YtfhdojnobmfefaaGreatDoor
