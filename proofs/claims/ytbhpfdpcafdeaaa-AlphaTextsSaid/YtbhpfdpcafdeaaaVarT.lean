/- CONTRACTS: a text at the beginning of any bytes, and the rest. -/
import Derived.Test.YtbhpfdpcafdeaaaVarH
namespace Go.Proofs.Ytbhpfdpcafdeaaa
open Go.RowKit Go.Inc

theorem Rd.fault {ok : Nat → Prop} {w : World} {g f : Nat} {bs : List Nat} (hr : Rd ok w g bs f) (hg : ∀ b, ok b → b ≠ g) (f' : Nat) : Rd ok (w.setCell ⟨g, 1, none⟩ (.int .i64 (f' : Int))) g bs f' := by
  obtain ⟨a, c, hrow, hs, r⟩ := hr
  exact ⟨a, c, heap_setCell_same w g 1 _ _ _ hrow, hs.grown (grown_setCell (grown_refl _ _) (.inl rfl) _) hg, r⟩
theorem Rd.c1 {ok : Nat → Prop} {w : World} {g f : Nat} {bs : List Nat} (hr : Rd ok w g bs f) : w.cell? ⟨g, 1, none⟩ = some (.int .i64 (f : Int)) ∧ w.frozen? ⟨g, 1, none⟩ = false := by
  obtain ⟨a, c, hrow, _⟩ := hr
  exact ⟨cell_of_row w g 1 _ _ _ hrow, frozen_of_row w g 1 _ _ hrow⟩

/-- What stands behind the text's size. -/
def bodyOf (bs : List Nat) : List Nat := bs.drop (Var.pos 9223372036854775807 bs)
end Go.Proofs.Ytbhpfdpcafdeaaa

