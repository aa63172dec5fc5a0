/- MADE SMALL. -/
import Derived.Test.YtfhdojnobmfefaaGreatDoorRows
import Derived.Test.YtfhdojnobmfefaaGreatDoorK22
import Derived.Test.YtfhdojnobmfefaaGreatDoorK8
import Derived.Test.YtfhdojnobmfefaaGreatDoorK1
import Derived.Lib.SmallJoins
import Derived.Deep.Slices
import Derived.Carry
namespace Go.Proofs.YtfhdojnobmfefaaGreatDoor
open Go.RowKit Go.Inc Go.Deep Go.ChangeShapes Go.WideShapes
theorem Ym:Tryz.prog.cellsOf 32=2:=by kernel_rfl
theorem Ov:Tryz.prog.cellsOf 3=1:=by kernel_rfl
section
variable {H:Type} {enc:TypeId×Value->H} {w:World} {base:Nat} {held:Bool}
theorem P7 {fuel:Nat} {v0 v1:Value} {x:DataW H×List MemPlace} (h:DataW.trod enc Tryz.prog w base (fun _=>true) held fuel 32 [v0,v1]=some x) :
  ∃ k:Ky,v0=.int .i64 k.1/\v1=.int .i64 k.2/\JJ k:=by
 obtain ⟨y0,y1,n,-,-,h0,h1⟩:=trod_struct2 Tryz.underlying32 h;have h0':DataW.trod enc Tryz.prog w base (fun _=>true) held n 3 (([v0,v1].drop 0).take (Tryz.prog.cellsOf 3))=some y0:=h0;have h1':DataW.trod enc Tryz.prog w base (fun _=>true) held n 3 (([v0,v1].drop 1).take (Tryz.prog.cellsOf 3))=some y1:=h1;rw [Ov] at h0' h1';obtain ⟨x0,e0,_,w0⟩:=DataW.trod_int Tryz.underlying3 h0';obtain ⟨x1,e1,_,w1⟩:=DataW.trod_int Tryz.underlying3 h1';simp at e0 e1;subst e0 e1;have b0:=bounds_i64 w0;have b1:=bounds_i64 w1;exact ⟨(x0,x1),rfl,rfl,by unfold JJ;simp only;omega⟩
end
end Go.Proofs.YtfhdojnobmfefaaGreatDoor
