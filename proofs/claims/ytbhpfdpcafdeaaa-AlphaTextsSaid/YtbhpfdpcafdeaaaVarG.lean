/- CONTRACTS: Text, the known examples. -/
import Derived.Test.YtbhpfdpcafdeaaaVarF
namespace Go.Proofs.Ytbhpfdpcafdeaaa
open Go.RowKit Go.Inc

theorem same_yes (ok ok' : Nat → Prop) (a b : Option Addr) (c d : Nat) (xs ys : List Nat) (w : World) (ha : Sl ok w a xs) (hb : Sl ok' w b ys) (hm : xs.length ≤ 9223372036854775807) (h : xs = ys) :
    Calls Try.prog 28 #[.slice a xs.length c, .slice b ys.length d] w fun e w' => e = .returned (.bool true) ∧ Below w.heap.size w w' := by
  refine (same_any ok ok' a b c d xs ys w ha hb hm).mono ?_
  rintro e w' ⟨rfl, h2⟩
  exact ⟨ret_bool (decide_eq_true h), h2⟩
end Go.Proofs.Ytbhpfdpcafdeaaa

