/- CONTRACT: how many bits a number has (math/bits, as the program's translation holds it), and how many bytes. -/
import Derived.Test.YtbhpfdpcafdeaaaRows
import Derived.Test.YtbhpfdpcafdeaaaVarMath
import Derived.Lib.BitFns
import Derived.Lib.Strings
import Derived.Lib.Slices
import Derived.Lib.Small
import Derived.Lib.Walk
namespace Go.Proofs.Ytbhpfdpcafdeaaa

theorem bitLen_spec (n : Nat) : n < 18446744073709551616 → n < 2 ^ Lib.bitLen n ∧ (n ≠ 0 → 2 ^ (Lib.bitLen n - 1) ≤ n ∧ 1 ≤ Lib.bitLen n) := by
  induction n using Nat.strongRecOn with
  | _ n ih =>
    intro h
    by_cases h0 : n = 0
    · subst h0; decide
    · rw [Lib.bitLen_half n h0 h]
      have hi := ih (n / 2) (by omega) (by omega)
      have e : 2 ^ (1 + Lib.bitLen (n / 2)) = 2 * 2 ^ Lib.bitLen (n / 2) := by rw [Nat.add_comm, Nat.pow_succ, Nat.mul_comm]
      refine ⟨by rw [e]; omega, fun _ => ⟨?_, by omega⟩⟩
      by_cases h2 : n / 2 = 0
      · have : n = 1 := by omega
        subst this; decide
      · have h3 := hi.2 h2
        have e2 : 2 ^ (1 + Lib.bitLen (n / 2) - 1) = 2 * 2 ^ (Lib.bitLen (n / 2) - 1) := by
          rw [show 1 + Lib.bitLen (n / 2) - 1 = (Lib.bitLen (n / 2) - 1) + 1 from by omega, Nat.pow_succ, Nat.mul_comm]
        rw [e2]; omega
end Go.Proofs.Ytbhpfdpcafdeaaa

