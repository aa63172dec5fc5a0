/- MADE SMALL. -/
import Derived.Test.YtfhdojnobmfefaaGreatDoorRows
import Derived.Test.YtfhdojnobmfefaaGreatDoorG17
import Derived.Test.YtfhdojnobmfefaaGreatDoorG1
import Derived.ProofKit
import Derived.OpenShut
import Derived.ChangeOld
import Derived.Deep.Matrix
import Derived.Test.YtfhdojnobmfefaaGreatDoorG12
import Derived.OrdersIn
import Derived.TacticsIn
import Derived.Lib.MinMax
import Derived.Deep.QuietTactic
import Derived.BigQuiet
import Derived.BigRegion
namespace Go.Inc
open Go.RowKit
def Ak:List Et->List Value
 | []=>[]
 | e::r=>.int .i64 e.1.1::.int .i64 e.1.2::.int .i64 e.2::Ak r
theorem G8:∀ a b,Ak (a++b)=Ak a++Ak b
 | [],_=>rfl
 | x::r,b=>by simp only [List.cons_append,Ak,G8 r b]
theorem FO:∀ l,(Ak l).length=l.length * 3
 | []=>rfl
 | x::r=>by simp only [Ak,List.length_cons,FO r];omega
theorem Nu:∀ l,∀ u∈Ak l,u.oneCell'=true
 | [],u,h=>by cases h
 | x::r,u,h=>by
  simp only [Ak,List.mem_cons] at h;rcases h with rfl | rfl | rfl | h
  ·rfl
  ·rfl
  ·rfl
  ·exact Nu r u h
theorem Jn:∀ (l:List Et) (i:Nat),i < l.length->(Ak l)[i * 3]?=some (.int .i64 (l.getD i et0).1.1)/\(Ak l)[i * 3+1]?=some (.int .i64 (l.getD i et0).1.2)/\(Ak l)[i * 3+2]?=some (.int .i64 (l.getD i et0).2)
 | [],i,h=>by simp at h
 | x::r,0,_=>⟨rfl,rfl,rfl⟩
 | x::r,i+1,h=>by
  have:=Jn r i (by simpa using h);rw [show (i+1) * 3=i * 3+1+1+1 from by omega];simp only [Ak,List.getElem?_cons_succ];exact this
def EtS (ok:Nat->Prop) (w:World) (a:Option Addr) (es:List Et):Prop:=
 es=[]\/∃ b o,a=some ⟨b,o,none⟩/\ok b/\∀ i,i < es.length->w.cell? ⟨b,o+i * 3,none⟩=some (.int .i64 (es.getD i et0).1.1)/\w.cell? ⟨b,o+i * 3+1,none⟩=some (.int .i64 (es.getD i et0).1.2)/\w.cell? ⟨b,o+i * 3+2,none⟩=some (.int .i64 (es.getD i et0).2)
section
variable {ok ok':Nat->Prop} {w w':World} {a:Option Addr} {es:List Et}
theorem EtS.mono (h:EtS ok w a es) (hk:∀ b,ok b->b < w.heap.size->ok' b):EtS ok' w a es:=by
 rcases h with h | ⟨b,o,ha,hb,hc⟩
 ·exact .inl h
 ·by_cases h0:es=[]
  ·exact .inl h0
  ·exact .inr ⟨b,o,ha,hk b hb (AA (hc 0 (List.length_pos_iff.2 h0)).1),hc⟩
theorem EtS.kept (h:EtS ok w a es) (hb:∀ b,ok b->b < w.heap.size->w'.heap[b]?=w.heap[b]?):EtS ok w' a es:=by
 rcases h with h | ⟨b,o,rfl,hk,hc⟩
 ·exact .inl h
 ·by_cases h0:es=[]
  ·exact .inl h0
  ·have hbb:=hb b hk (AA (hc 0 (List.length_pos_iff.2 h0)).1);exact .inr ⟨b,o,rfl,hk,fun i hi=>⟨(World.cell?_of_block hbb).trans (hc i hi).1,(World.cell?_of_block hbb).trans (hc i hi).2.1,(World.cell?_of_block hbb).trans (hc i hi).2.2⟩⟩
theorem EtS.below (h:EtS ok w a es) (hb:Below w.heap.size w w'):EtS ok w' a es:=h.kept fun b _ hlt=>hb.block b hlt
theorem EtS.old (h:EtS ok w a es):EtS (fun b=>b < w.heap.size) w a es:=h.mono fun _ _ hl=>hl
theorem EtS.cell (h:EtS ok w a es) {i:Nat} (hi:i < es.length):∃ b o,a=some ⟨b,o,none⟩/\w.cell? ⟨b,o+i * 3,none⟩=some (.int .i64 (es.getD i et0).1.1)/\w.cell? ⟨b,o+i * 3+1,none⟩=some (.int .i64 (es.getD i et0).1.2)/\w.cell? ⟨b,o+i * 3+2,none⟩=some (.int .i64 (es.getD i et0).2):=by
 rcases h with h | ⟨b,o,h,_,hc⟩
 ·rw [h] at hi;simp at hi
 ·exact ⟨b,o,h,hc i hi⟩
theorem EtS.front (h:EtS ok w a es) (k:Nat):EtS ok w a (es.take k):=by
 rcases h with rfl | ⟨b,o,rfl,hk,hc⟩
 ·left;simp
 ·refine .inr ⟨b,o,rfl,hk,fun i hi=>?_⟩;simp only [List.length_take] at hi;rw [Kw (by omega)];exact hc i (by omega)
theorem EtS.back (h:EtS ok w a es) (k:Nat) (a':Option Addr) (ha:k < es.length->a'=a.map fun x=>x.add (k * 3)):EtS ok w a' (es.drop k):=by
 by_cases hk:k < es.length
 ·rcases h with rfl | ⟨b,o,rfl,hok,hc⟩
  ·simp at hk
  ·refine .inr ⟨b,o+k * 3,by rw [ha hk];simp [Addr.add],hok,fun i hi=>?_⟩;simp only [List.length_drop] at hi;rw [Kz,show o+k * 3+i * 3=o+(k+i) * 3 by omega];exact hc (k+i) (by omega)
 ·left;exact List.drop_eq_nil_of_le (by omega)
theorem Dk {B n:Nat} {v:Value} {e:TypeId} (h:w.ownsRow B e 3 v n (Ak es)):∃ a c,v=.slice a es.length c/\n=es.length/\EtS (fun b=>B<=b) w a es/\es.length<=c/\c<=maxLen/\(a=none->c=0):=by
 have hn:n=es.length:=by have:=h.1;rw [FO] at this;omega
 subst hn;rcases h.2 with ⟨rfl,h0⟩ | ⟨g,cap,cur,rfl,hb,hg,hnc,hm,hcs,ht⟩
 ·exact ⟨none,0,by rw [h0],rfl,.inl (List.eq_nil_of_length_eq_zero h0),by omega,Nat.zero_le _,fun _=>rfl⟩
 ·refine ⟨_,cap,rfl,rfl,.inr ⟨g,0,rfl,hb,fun i hi=>?_⟩,hnc,hm,fun h=>by cases h⟩;obtain ⟨g1,g2,g3⟩:=Jn es i hi;have h1:=h.cells (g:=g) rfl (i * 3) _ g1;have h2:=h.cells (g:=g) rfl (i * 3+1) _ g2;have h3:=h.cells (g:=g) rfl (i * 3+2) _ g3;rw [Addr.add_lit] at h1 h2 h3;exact ⟨h1,h2,h3⟩
end
theorem AV {W:World} {B B' e s n:Nat} {v:Value} {x:List Value} (h:W.ownsRow B e s v n x) (hb:B'<=B):W.ownsRow B' e s v n x:=
 ⟨h.1,h.2.imp id fun ⟨g,cap,cur,h1,h2,r⟩=>⟨g,cap,cur,h1,Nat.le_trans hb h2,r⟩⟩
theorem LU {E T B n s:Nat} {w w':World} {v:Value} {xs:List Value} {g:Nat} {cs:Array Value} {fz:Nat×Nat} (hne:E≠T) (hr:w.ownsRow B E s v n xs) (hg:w.grownBy w' v.ownBlock) (h:w.heap[g]?=some (.cells cs T fz)):w'.heap[g]?=some (.cells cs T fz):=by
 refine IE h hg ?_;rcases hr.2 with ⟨rfl,_⟩ | ⟨g1,cap,cur,rfl,_,hg1,_⟩
 ·intro e;cases e
 ·intro e;have e':g1=g:=by simpa [Value.ownBlock] using e
  subst e';rw [hg1] at h;simp at h;exact hne h.2.1
def NodeN (E B:Nat) (w:World) (v:Value) (lf:Bool) (es:List Et):Prop:=
 ∃ r,v=.agg #[.bool lf,r]/\w.ownsRow B E 3 r es.length (Ak es)
def Nl (k:Ky):Prop:=(-9223372036854775808<=k.1/\k.1<=9223372036854775807)/\-9223372036854775808<=k.2/\k.2<=9223372036854775807
def ET (e:Et):Prop:=Nl e.1/\-9223372036854775808<=e.2/\e.2<=9223372036854775807
theorem JF {e:Et} (h:okE e=true):ET e:=by
 have:=okE_iff.1 h;unfold ET Nl;omega
end Go.Inc
namespace Go.Proofs.YtfhdojnobmfefaaGreatDoor
open Go.RowKit Go.Inc
theorem EZ:(Tryz.prog.info? 65).map (fun i=>(i.zero,i.size,i.bytes))=some (some (.agg #[.int .i64 0,.int .i64 0,.int .i64 0]),3,24):=by kernel_rfl
abbrev EqN (x:Value):World->Value->Prop:=fun _ v=>v=x
end Go.Proofs.YtfhdojnobmfefaaGreatDoor
namespace Go.Inc
open Go.RowKit
theorem FC {P:Program} {o:Oper} {b:Act} {K:Act->World->Prop} {Q:Exit->Act->World->Prop} {ρ:Operand->Value} {w w':World} {v u v':Value} (s x:Operand) (t:TypeId)
  (ho:o.op=.call {callee:=.builtin .append,args:=#[s,x],argTypes:=#[t,t]}) (hs:ρ s=v) (hx:ρ x=u) (hr:(Builtin.append_ #[t,t] o.type #[v,u]).run P w=.ok v' w') (hk:K (b.put o.dst v') w') :
  o.upon P b K Q ((execOp ρ o).run P w):=by
 unfold execOp;simp only [ho,resolve,invoke,builtin,Sem.run_bind,Sem.run_pure,Result.andThen_ok,List.map_toArray,List.map_cons,List.map_nil,hs,hx,hr];exact hk
def RowE (e:Et) (T:TypeId) (x:World) (v:Value):Prop:=∃ b,v=.slice (some ⟨b,0,none⟩) 1 1/\x.heap[b]?=some (.cells #[.int .i64 e.1.1,.int .i64 e.1.2,.int .i64 e.2] T (0,0))
theorem RowE.kept {e:Et} {T:TypeId} {x y:World} {v:Value} (h:RowE e T x v) (hg:Grew x y):RowE e T y v:=by
 obtain ⟨b,h1,h3⟩:=h;exact ⟨b,h1,Ac h3 hg⟩
def RowV (T B:Nat) (es:List Et) (x:World) (v:Value):Prop:=x.ownsRow B T 3 v es.length (Ak es)
theorem RowV.kept {T B:Nat} {es:List Et} {x y:World} {v:Value} (h:RowV T B es x v) (hg:Grew x y):RowV T B es y v:=
 Ag (F:=fun _=>False) h (Mv.of_below hg) fun _ _=>id
theorem DV {E T B s n:Nat} {w:World} {v:Value} {xs:List Value} {g:Nat} {cs:Array Value} {fz:Nat×Nat} (hne:E≠T) (hr:w.ownsRow B E s v n xs) (h:w.heap[g]?=some (.cells cs T fz)):v.ownBlock≠some g:=by
 rcases hr.2 with ⟨rfl,_⟩ | ⟨g1,cap,cur,rfl,_,hg1,_⟩
 ·intro e;cases e
 ·intro e;have e':g1=g:=by simpa [Value.ownBlock] using e
  subst e';rw [hg1] at h;simp at h;exact hne h.2.1
end Go.Inc
namespace Go.Proofs.YtfhdojnobmfefaaGreatDoor
open Go.RowKit Go.Inc
end Go.Proofs.YtfhdojnobmfefaaGreatDoor
