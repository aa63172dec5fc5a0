/- CONTRACTS: bits that are no number's cut off (trim); one word; the three ways to join. -/
import Derived.Test.YtlfpepkgnobjnaaBmD
namespace Go.Proofs.Ytlfpepkgnobjnaa
open Go.RowKit Go.Inc

/-- A set, with its words: none, or one that lies in blocks that are 'ok'. -/
def BmW (ok : Nat → Prop) (w : World) (v : Value) (m : List Bool) (W : List Nat) : Prop :=
  (v = .pointer none ∧ m = [] ∧ W = []) ∨ ∃ b g c, v = .pointer (some ⟨b, 0, none⟩) ∧ ok b ∧ ok g ∧ BmAt w b g c m.length W ∧ ∀ i, wbit W i = inB m i
section
variable {ok : Nat → Prop} {w w' : World} {v : Value} {m : List Bool} {W : List Nat}
theorem BmW.fits (h : BmW ok w v m W) (q : Nat) : W.getD q 0 < 18446744073709551616 := by
  rcases h with ⟨_, rfl, rfl⟩ | ⟨b, g, c, h1, h2, h3, h4, h5⟩
  · simp
  · exact wget_lt h4.fits q
end
end Go.Proofs.Ytlfpepkgnobjnaa

