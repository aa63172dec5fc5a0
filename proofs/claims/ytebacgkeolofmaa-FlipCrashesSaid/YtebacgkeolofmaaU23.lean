/- CONTRACTS: how many versions wait in all. -/
import Derived.Test.YtebacgkeolofmaaU18
import Derived.Test.YtebacgkeolofmaaU8
namespace Go.Proofs.Ytebacgkeolofmaa
open Go.RowKit Go.Inc

/-- A sum over the first p numbers. -/
def tot (F : Nat → Nat) : Nat → Nat
  | 0 => 0
  | p + 1 => tot F p + F p
theorem tot_congr {F G : Nat → Nat} : ∀ {p : Nat}, (∀ i, i < p → F i = G i) → tot F p = tot G p
  | 0, _ => rfl
  | p + 1, h => by unfold tot; rw [tot_congr (p := p) fun i hi => h i (by omega), h p (by omega)]
theorem tot_zero {F : Nat → Nat} {p : Nat} (h : ∀ i, i < p → F i = 0) : tot F p = 0 := by
  induction p with
  | zero => rfl
  | succ p ih => unfold tot; rw [ih fun i hi => h i (by omega), h p (by omega)]
theorem tot_point {F G : Nat → Nat} {i : Nat} : ∀ {p : Nat}, i < p → (∀ j, j ≠ i → F j = G j) → F i = 0 → tot G p = tot F p + G i
  | 0, h, _, _ => by omega
  | p + 1, h, hF, h0 => by
    unfold tot
    by_cases hip : i = p
    · subst hip
      rw [tot_congr (F := F) (G := G) fun j hj => hF j (by omega), h0]
      omega
    · rw [tot_point (p := p) (by omega) hF h0, hF p (by omega)]
      omega
end Go.Proofs.Ytebacgkeolofmaa
