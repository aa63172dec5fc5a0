/- MADE SMALL. -/
import Derived.Test.YtfhdojnobmfefaaGreatDoorK1
import Derived.ProofKit
import Derived.OpenShut
import Derived.ChangeOld
import Derived.Deep.Matrix
namespace Go.Inc
open Go.RowKit Go.Deep Go.ChangeShapes Go.WideShapes
variable {H:Type} {enc:TypeId×Value->H} {P:Program} {w:World} {base:Nat} {held:Bool}
theorem Zo {w:World} {a:Addr} {v:Value} (h:w.cell? (a.add 0)=some v):∃ b o,a=⟨b,o,none⟩:=by
 obtain ⟨b,o,s⟩:=a;have:=World.cell?_spot h;simp [Addr.add] at this;subst this;exact ⟨b,o,rfl⟩
end Go.Inc
