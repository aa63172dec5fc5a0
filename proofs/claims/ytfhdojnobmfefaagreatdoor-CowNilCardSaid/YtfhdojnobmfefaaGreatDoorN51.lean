/- MADE SMALL. -/
import Derived.Test.YtfhdojnobmfefaaGreatDoorRows
import Derived.Test.YtfhdojnobmfefaaGreatDoorN24
import Derived.Test.YtfhdojnobmfefaaGreatDoorN1
import Derived.ProofKit
import Derived.OpenShut
import Derived.ChangeOld
import Derived.Deep.Matrix
import Derived.Lib.SmallJoins
import Derived.Deep.Slices
import Derived.Carry
namespace Go.Proofs.YtfhdojnobmfefaaGreatDoor
open Go.RowKit Go.Inc Go.Deep Go.ChangeShapes Go.WideShapes
theorem zQnt:Tryz.prog.cellsOf 32=2:=by kernel_rfl
theorem zQko:Tryz.prog.cellsOf 3=1:=by kernel_rfl
section
variable {H:Type} {enc:TypeId×Value->H} {w:World} {base:Nat} {held:Bool}
theorem zQmh {fuel:Nat} {v0 v1:Value} {x:DataW H×List MemPlace} (h:DataW.trod enc Tryz.prog w base (fun _=>true) held fuel 32 [v0,v1]=some x) :
  ∃ k:Ky,v0=.int .i64 k.1/\v1=.int .i64 k.2/\fitsK k:=by
 obtain ⟨y0,y1,n,-,-,h0,h1⟩:=trod_struct2 Tryz.underlying32 h
 have h0':DataW.trod enc Tryz.prog w base (fun _=>true) held n 3 (([v0,v1].drop 0).take (Tryz.prog.cellsOf 3))=some y0:=h0
 have h1':DataW.trod enc Tryz.prog w base (fun _=>true) held n 3 (([v0,v1].drop 1).take (Tryz.prog.cellsOf 3))=some y1:=h1
 rw [zQko] at h0' h1'
 obtain ⟨x0,e0,_,w0⟩:=DataW.trod_int Tryz.underlying3 h0'
 obtain ⟨x1,e1,_,w1⟩:=DataW.trod_int Tryz.underlying3 h1'
 simp at e0 e1
 subst e0 e1
 have b0:=bounds_i64 w0
 have b1:=bounds_i64 w1
 exact ⟨(x0,x1),rfl,rfl,by unfold fitsK;simp only;omega⟩
set_option maxRecDepth 100000 in
theorem zQm9 {b0:Nat} {r:Reach} {v:Value} {d:DataW H} {p:List MemPlace} (hv:Value.okWide Tryz.prog w r b0 32 v) (h:DataW.Trod enc Tryz.prog w base (fun _=>true) held 32 v d p) :
  ∃ s z,v=.agg #[.int .i64 s,.int .i64 z]/\fitsK (s,z):=by
 obtain ⟨cs,rfl,hsz⟩:=okWide_struct Tryz.underlying32 hv
 obtain ⟨fuel,hf⟩:=h
 rw [zQnt] at hsz
 obtain ⟨c0,c1,rfl⟩:∃ c0 c1,cs=#[c0,c1]:=by
  obtain ⟨l⟩:=cs
  match l,hsz with
  | [c0,c1],_=>exact ⟨c0,c1,rfl⟩
 obtain ⟨k,e0,e1,hk⟩:=zQmh (v0:=c0) (v1:=c1) (by simpa [Value.cells] using hf)
 exact ⟨k.1,k.2,by rw [e0,e1],hk⟩
end
end Go.Proofs.YtfhdojnobmfefaaGreatDoor
