/- PLAIN FACTS OF BITS: how many stand ahead of a place, where the k-th one stands, the directory. No program is named here. -/
import Derived.Test.YtjcapiibeekfkaaBmLib
import Derived.Test.YtjcapiibeekfkaaVarMath
namespace Go.Inc
open Go.RowKit

/-- How many of a kind stand ahead of a place. -/
def rkB (m : List Bool) (one : Bool) (i : Nat) : Nat := cntTo (fun k => inB m k == one) i
theorem rkB_zero (m : List Bool) (one : Bool) : rkB m one 0 = 0 := rfl
theorem rkB_succ (m : List Bool) (one : Bool) (i : Nat) : rkB m one (i + 1) = rkB m one i + (if inB m i = one then 1 else 0) := by
  unfold rkB
  by_cases h : inB m i = one
  · rw [if_pos h, cntTo_in (by simp [h])]
  · rw [if_neg h, cntTo_out (by simp [h])]; rfl
theorem rkB_le (m : List Bool) (one : Bool) : ∀ i, rkB m one i ≤ i
  | 0 => Nat.le_refl _
  | i + 1 => by have := rkB_le m one i; rw [rkB_succ]; split <;> omega
theorem rkB_mono (m : List Bool) (one : Bool) {i j : Nat} (h : i ≤ j) : rkB m one i ≤ rkB m one j := by
  induction j with
  | zero => obtain rfl : i = 0 := by omega
            exact Nat.le_refl _
  | succ j ih =>
    by_cases h1 : i = j + 1
    · subst h1; exact Nat.le_refl _
    · have := ih (by omega); rw [rkB_succ]; omega
/-- Ones and zeros together are all. -/
theorem rkB_both (m : List Bool) : ∀ i, rkB m true i + rkB m false i = i
  | 0 => rfl
  | i + 1 => by
    have := rkB_both m i
    rw [rkB_succ, rkB_succ]
    cases inB m i <;> simp <;> omega
/-- The place of the k-th of a kind, below n; -1: there is none. -/
def selB (m : List Bool) (one : Bool) (k : Nat) (n : Nat) : Int := lowB (fun i => (inB m i == one) && (rkB m one i == k)) 0 true n
theorem selB_at {m : List Bool} {one : Bool} {k i n : Nat} (h : inB m i = one) (hk : rkB m one i = k) (hi : i < n) : selB m one k n = i := by
  unfold selB
  refine lowB_first (k := i) ⟨by omega, by simp [h, hk]⟩ (fun j hj hh => ?_) hi
  have h2 := hh.2
  simp only [Bool.and_eq_true, beq_iff_eq] at h2
  have h3 := rkB_mono m one (show j + 1 ≤ i from hj)
  rw [rkB_succ, if_pos h2.1] at h3
  omega
theorem selB_none {m : List Bool} {one : Bool} {k n : Nat} (h : ∀ i, i < n → inB m i = one → rkB m one i ≠ k) : selB m one k n = -1 := by
  unfold selB
  refine lowB_none fun i hi hh => ?_
  have h2 := hh.2
  simp only [Bool.and_eq_true, beq_iff_eq] at h2
  exact h i hi h2.1 h2.2
theorem selB_cases (m : List Bool) (one : Bool) (k n : Nat) : selB m one k n = -1 ∨ ∃ i : Nat, i < n ∧ selB m one k n = i ∧ inB m i = one ∧ rkB m one i = k := by
  unfold selB
  rcases lowB_cases (fun i => (inB m i == one) && (rkB m one i == k)) 0 true n with ⟨h, _⟩ | ⟨i, h1, h2, h3, _⟩
  · exact .inl h
  · have h4 := h3.2
    simp only [Bool.and_eq_true, beq_iff_eq] at h4
    exact .inr ⟨i, h1, h2, h4.1, h4.2⟩
/-- There is a k-th one just where k is below how many there are. -/
theorem selB_some {m : List Bool} {one : Bool} {k : Nat} : ∀ {n : Nat}, k < rkB m one n → ∃ i : Nat, i < n ∧ inB m i = one ∧ rkB m one i = k
  | 0, h => by rw [rkB_zero] at h; omega
  | n + 1, h => by
    rw [rkB_succ] at h
    by_cases h1 : k < rkB m one n
    · obtain ⟨i, h2, h3⟩ := selB_some h1
      exact ⟨i, by omega, h3⟩
    · split at h
      · rename_i h2
        exact ⟨n, by omega, h2, by omega⟩
      · omega
/-- Of each block how many ones are ahead of it. -/
def dirB (m : List Bool) (t : Nat) : List Nat := (List.range t).map fun q => rkB m true (512 * q)
/-- Of each word how many ones are ahead of it in its block. -/
def dirW (m : List Bool) (t : Nat) : List Nat := (List.range t).map fun q => rkB m true (64 * q) - rkB m true (64 * q / 512 * 512)
theorem dirB_len (m : List Bool) (t : Nat) : (dirB m t).length = t := by simp [dirB]
theorem dirW_len (m : List Bool) (t : Nat) : (dirW m t).length = t := by simp [dirW]
theorem dirB_succ (m : List Bool) (t : Nat) : dirB m (t + 1) = dirB m t ++ [rkB m true (512 * t)] := by
  unfold dirB
  rw [List.range_succ, List.map_append]; rfl
theorem dirW_succ (m : List Bool) (t : Nat) : dirW m (t + 1) = dirW m t ++ [rkB m true (64 * t) - rkB m true (64 * t / 512 * 512)] := by
  unfold dirW
  rw [List.range_succ, List.map_append]; rfl
/-- A row's bytes. -/
def rowBs (m : List Bool) : List Nat := Var.put m.length ++ bytesB (inB m) m.length
/-- The row of n bits whose ones are these. -/
def onesB (n : Nat) (zs : List Int) : Nat → List Bool
  | 0 => List.replicate n false
  | k + 1 => (onesB n zs k).set (zs.getD k 0).toNat true
theorem onesB_len (n : Nat) (zs : List Int) : ∀ k, (onesB n zs k).length = n
  | 0 => List.length_replicate
  | k + 1 => by unfold onesB; rw [List.length_set, onesB_len n zs k]
end Go.Inc
