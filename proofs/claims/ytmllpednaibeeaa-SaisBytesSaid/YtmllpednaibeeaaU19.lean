/- CONTRACTS IN THE LAWS' WORDS: what is put is got; the same bytes; one number put. CONTRACTS: a text at the beginning of any bytes, and the rest. -/
import Derived.Test.YtmllpednaibeeaaRows
import Derived.Test.YtmllpednaibeeaaU0
import Derived.Deep.QuietTactic
import Derived.BigQuiet
import Derived.Test.YtmllpednaibeeaaU18
import Derived.Test.YtmllpednaibeeaaU14
import Derived.Lib.Zigzag
import Derived.IntWalk
import Derived.WalkMore
import Derived.Deep.LoopGhost
import Derived.Test.YtmllpednaibeeaaU15
import Derived.Lib.MinMax
import Derived.Test.YtmllpednaibeeaaU17
namespace Go.Proofs.Ytmllpednaibeeaa
open Go.RowKit Go.Inc

/-- A slice of bytes, wherever it lies. -/
def Bs (w : World) (v : Value) (bs : List Nat) : Prop := ∃ a c, v = .slice a bs.length c ∧ Sl (fun _ => True) w a bs ∧ bs.length ≤ c ∧ c ≤ maxLen ∧ (a = none → c = 0)
section
variable {w w' : World} {v : Value} {bs : List Nat} {E B : Nat}
theorem held (h : Row E B w v bs) : Bs w v bs := by
  obtain ⟨a, c, rfl, h1, h2, h3, h4⟩ := h.sl
  exact ⟨a, c, rfl, h4.mono fun _ _ _ => trivial, h2, h3, h1⟩
theorem Bs.below (h : Bs w v bs) (hb : Below w.heap.size w w') : Bs w' v bs := by
  obtain ⟨a, c, rfl, h1, h2⟩ := h
  exact ⟨a, c, rfl, h1.below hb, h2⟩
end

end Go.Proofs.Ytmllpednaibeeaa
namespace Go.Proofs.Ytmllpednaibeeaa
open Go.RowKit Go.Inc

end Go.Proofs.Ytmllpednaibeeaa
