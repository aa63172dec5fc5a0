/- CONTRACT: the document's reading of a number at a place. -/
import Derived.Test.YtbhpfdpcafdeaaaVarX
namespace Go.Proofs.Ytbhpfdpcafdeaaa
open Go.RowKit Go.Inc

/-- The number at a place, the place behind it, the error. -/
def RefAns (G at_ : Nat) (bs : List Nat) (w : World) (e : Ending) (w' : World) : Prop :=
  e = .returned (.tuple #[.int .u64 (Var.val G (bs.drop at_) : Nat), .int .i64 ((at_ + Var.pos G (bs.drop at_) : Nat) : Int), .int .i64 (Var.err G (bs.drop at_) : Nat)]) ∧ w = w'
end Go.Proofs.Ytbhpfdpcafdeaaa

