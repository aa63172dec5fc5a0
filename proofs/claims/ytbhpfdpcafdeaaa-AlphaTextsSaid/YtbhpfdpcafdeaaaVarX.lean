/- CONTRACTS: numbers of a fixed size, as bytes and back. -/
import Derived.Test.YtbhpfdpcafdeaaaVarL
namespace Go.Proofs.Ytbhpfdpcafdeaaa
open Go.RowKit Go.Inc

/-- A number's bits, of one that may be below 0. -/
def bits64 (n : Int) : Nat := (n % 18446744073709551616).toNat
theorem byte_at {n : Int} (h0 : -9223372036854775808 ≤ n) (h1 : n ≤ 9223372036854775807) {i : Nat} (hi : i < 8) : n / 2 ^ (8 * i) % 256 = ((bits64 n / 256 ^ i % 256 : Nat) : Int) := by
  unfold bits64
  have h8 : i = 0 ∨ i = 1 ∨ i = 2 ∨ i = 3 ∨ i = 4 ∨ i = 5 ∨ i = 6 ∨ i = 7 := by omega
  rcases h8 with rfl | rfl | rfl | rfl | rfl | rfl | rfl | rfl <;> simp <;> omega

end Go.Proofs.Ytbhpfdpcafdeaaa

