/- MADE SMALL. -/
import Derived.Test.YtfhdojnobmfefaaGreatDoorG26
import Derived.Test.YtfhdojnobmfefaaGreatDoorG12
import Derived.Maps.AppendAt
namespace Go.Inc
open Go.RowKit
section
variable {x y:World} {v:Value} {T B:Nat} {Pr:Prop} {lf:Bool} {es:List Et} {F:Int}
end
theorem Hr {P:Program} {o:Oper} {w:World} {ρ:Operand->Value} (ty:TypeId) (x y:Operand) (ho:o.op=.store ty x y)
  (g:Nat) (cells:Array Value) (hx:ρ x=.pointer (some ⟨g,0,none⟩)) (hy:ρ y=.agg cells)
  (t:TypeId) (old:Array Value) (hg:w.heap[g]?=some (.cells old t (0,0))) (hi:(P.info? ty).map (·.size)=some cells.size)
  (hold:old.size=cells.size) (h1:cells.all (·.oneCell')=true) {b:Act} {K:Act->World->Prop} {Q:Exit->Act->World->Prop}
  (hk:∀ w',w'.heap[g]?=some (.cells cells t (0,0))->w.grownBy w' (some g)->K (b.put o.dst undef) w'):o.upon P b K Q ((execOp ρ o).run P w):=by
 unfold execOp;simp only [ho,hx,hy,Instr.storeAt,Instr.sureAddr,Sem.run_bind,Sem.run_pure,Result.andThen_ok,run_storeVar_row w g t ty old cells hg hi hold h1];exact hk _ (setRow_heap _ _ _ _ _ _ hg) ⟨rfl,rfl,rfl,by simp,fun k _ hne=>setRow_other _ _ _ _ (by rintro rfl;exact hne rfl)⟩
end Go.Inc
namespace Go.Inc
open Go.RowKit
theorem BQ {x y:World} {b g:Nat} {o:Obj} (h:x.heap[b]?=some o) (hg:x.grownBy y (some g)) (hne:b≠g):y.heap[b]?=some o:=
 (hg.block b (Array.getElem?_eq_some_iff.1 h).1 (by intro e;cases e;exact hne rfl)).trans h
theorem iI {lf:Bool} {xs:List Et} (h:AL lf xs≠0):spE lf xs=AL lf xs:=if_pos h
theorem iH {lf:Bool} {xs:List Et} (h:AL lf xs=0) (h2:xs.length < 2):spE lf xs=11:=by
 unfold spE;rw [if_neg (by rw [h];decide),if_pos h2]
theorem iG {lf:Bool} {xs:List Et} (h:AL lf xs=0) (h2:2<=xs.length):spE lf xs=0:=by
 unfold spE;rw [if_neg (by rw [h];decide),if_neg (by omega)]
end Go.Inc
namespace Go.Proofs.YtfhdojnobmfefaaGreatDoor
open Go.RowKit Go.Inc
end Go.Proofs.YtfhdojnobmfefaaGreatDoor
