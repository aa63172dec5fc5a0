/- CONTRACTS: Add and Drop on none; New. -/
import Derived.Test.YtdobjlaggdnphaaBmC
namespace Go.Proofs.Ytdobjlaggdnphaa
open Go.RowKit Go.Inc

/-- A set is there, new. -/
def NewSet (W0 : Nat) (w' : World) (v : Value) (m : List Bool) : Prop :=
  ∃ b g c W, v = .pointer (some ⟨b, 0, none⟩) ∧ W0 ≤ b ∧ W0 ≤ g ∧ BmAt w' b g c m.length W ∧ ∀ i, wbit W i = inB m i
theorem NewSet.below {W0 : Nat} {w' w2 : World} {v : Value} {m : List Bool} (h : NewSet W0 w' v m) (hb : Below w'.heap.size w' w2) : NewSet W0 w2 v m := by
  obtain ⟨b, g, c, W, h1, h2, h3, h4, h5⟩ := h
  exact ⟨b, g, c, W, h1, h2, h3, h4.below hb, h5⟩
end Go.Proofs.Ytdobjlaggdnphaa

