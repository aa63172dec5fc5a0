/- CONTRACTS IN THE LAWS' WORDS: what is put is got; the same bytes; one number put. -/
import Derived.Test.YtmdimhijbmeioaaVarC
import Derived.Test.YtmdimhijbmeioaaRows
import Derived.Test.YtmdimhijbmeioaaVarMath
import Derived.Lib.BitFns
import Derived.Lib.Strings
import Derived.Lib.Slices
import Derived.Lib.Small
import Derived.Lib.Walk
import Derived.Lib.MinMax
import Derived.Test.YtmdimhijbmeioaaOpen
namespace Go.Proofs.Ytmdimhijbmeioaa
open Go.RowKit Go.Inc

/-- A slice of bytes, wherever it lies. -/
def Bs (w : World) (v : Value) (bs : List Nat) : Prop := ∃ a c, v = .slice a bs.length c ∧ Sl (fun _ => True) w a bs ∧ bs.length ≤ c ∧ c ≤ maxLen ∧ (a = none → c = 0)
section
variable {w w' : World} {v : Value} {bs : List Nat} {E B : Nat}
theorem Bs.below (h : Bs w v bs) (hb : Below w.heap.size w w') : Bs w' v bs := by
  obtain ⟨a, c, rfl, h1, h2⟩ := h
  exact ⟨a, c, rfl, h1.below hb, h2⟩
end

end Go.Proofs.Ytmdimhijbmeioaa

