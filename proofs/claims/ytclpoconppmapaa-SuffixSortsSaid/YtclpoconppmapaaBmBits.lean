/- PLAIN FACTS OF WORDS OF 64 BITS: one bit asked, set, cleared; the end cut off. No program is named here. -/
import Derived.Test.YtclpoconppmapaaBmMath
import Derived.Laws.BitsAllLaws
import Derived.Laws.ShiftsVarLaws
namespace Go.Inc
open Go.RowKit

theorem W64 : (2 : Nat) ^ 64 = 18446744073709551616 := by decide
theorem wget_lt {W : List Nat} (h : ∀ x ∈ W, x < 18446744073709551616) (q : Nat) : W.getD q 0 < 18446744073709551616 := by
  rw [List.getD_eq_getElem?_getD]
  cases hq : W[q]? with
  | none => simp
  | some x => exact h x (List.mem_of_getElem? hq)
theorem wset_lt {W : List Nat} (h : ∀ x ∈ W, x < 18446744073709551616) {q y : Nat} (hy : y < 18446744073709551616) : ∀ x ∈ W.set q y, x < 18446744073709551616 := fun x hx => by
  rcases List.mem_or_eq_of_mem_set hx with h1 | rfl
  · exact h x h1
  · exact hy
theorem pow_lt64 (k : Nat) : 2 ^ (k % 64) < 18446744073709551616 := by rw [← W64]; exact Nat.pow_lt_pow_right (by decide) (Nat.mod_lt _ (by decide))
theorem and_bit (x k : Nat) : x &&& 2 ^ k = if x.testBit k then 2 ^ k else 0 := by
  apply Nat.eq_of_testBit_eq
  intro j
  rw [Nat.testBit_and, bit_one]
  by_cases h : k = j
  · subst h
    cases hx : x.testBit k <;> simp
  · have : decide (k = j) = false := by simp [h]
    rw [this, Bool.and_false]
    split
    · rw [bit_one, this]
    · simp
theorem and_bit_ne {x k : Nat} : (x &&& 2 ^ k ≠ 0) ↔ x.testBit k = true := by
  rw [and_bit]
  split
  · rename_i h; simp [h]
  · rename_i h; simp [h]
/-- All but y's bits. -/
theorem not64_bit {y : Nat} (hy : y < 18446744073709551616) (j : Nat) : (18446744073709551615 - y).testBit j = (decide (j < 64) && !y.testBit j) := by
  have := Nat.testBit_two_pow_sub_succ (x := y) (n := 64) (by rw [W64]; exact hy) j
  rw [W64] at this
  rw [← this]
  congr 1
  omega
theorem lt_bit {x j : Nat} (hx : x < 18446744073709551616) (h : x.testBit j = true) : j < 64 := by
  rcases Nat.lt_or_ge j 64 with h1 | h1
  · exact h1
  · rw [Nat.testBit_lt_two_pow (Nat.lt_of_lt_of_le hx (by rw [← W64]; exact Nat.pow_le_pow_right (by decide) h1))] at h
    cases h
theorem andNot_bit {x y : Nat} (hx : x < 18446744073709551616) (hy : y < 18446744073709551616) (j : Nat) : (x &&& (18446744073709551615 - y)).testBit j = (x.testBit j && !y.testBit j) := by
  rw [Nat.testBit_and, not64_bit hy]
  cases h : x.testBit j
  · simp
  · simp [lt_bit hx h]
theorem and_lt64 {x : Nat} (hx : x < 18446744073709551616) (y : Nat) : x &&& y < 18446744073709551616 := Nat.lt_of_le_of_lt Nat.and_le_left hx
theorem or_lt64 {x y : Nat} (hx : x < 18446744073709551616) (hy : y < 18446744073709551616) : x ||| y < 18446744073709551616 := by rw [← W64] at *; exact Nat.or_lt_two_pow hx hy
theorem xor_lt64 {x y : Nat} (hx : x < 18446744073709551616) (hy : y < 18446744073709551616) : x ^^^ y < 18446744073709551616 := by rw [← W64] at *; exact Nat.xor_lt_two_pow hx hy
theorem wbit_less {W : List Nat} (hW : ∀ x ∈ W, x < 18446744073709551616) {i : Nat} (h : i / 64 < W.length) (j : Nat) : wbit (W.set (i / 64) (W.getD (i / 64) 0 &&& (18446744073709551615 - 2 ^ (i % 64)))) j = (!decide (j = i) && wbit W j) := by
  rw [wbit_word h]
  by_cases hq : j / 64 = i / 64
  · rw [if_pos hq, andNot_bit (wget_lt hW _) (pow_lt64 i), bit_one]
    have e : (i % 64 = j % 64) = (j = i) := propext (by omega)
    unfold wbit
    rw [hq]
    simp only [e]
    exact Bool.and_comm _ _
  · rw [if_neg hq]
    have : ¬ j = i := fun h => hq (by rw [h])
    simp [this]
/-- What lies from a bit on. -/
theorem beyond_bit (x o j : Nat) : (x >>> o <<< o).testBit j = (decide (o ≤ j) && x.testBit j) := by
  rw [Nat.testBit_shiftLeft]
  by_cases h : o ≤ j
  · rw [Nat.testBit_shiftRight]
    simp [h]
  · simp [h]
theorem beyond_le (x o : Nat) : x >>> o <<< o ≤ x := by
  rw [Nat.shiftLeft_eq, Nat.shiftRight_eq_div_pow]
  exact Nat.div_mul_le_self x (2 ^ o)
/-- Words that say the same of each number are the same. -/
theorem words_ext {A B : List Nat} (hl : A.length = B.length) (hA : ∀ x ∈ A, x < 18446744073709551616) (hB : ∀ x ∈ B, x < 18446744073709551616) (h : ∀ i, wbit A i = wbit B i) : A = B := by
  apply List.ext_getElem hl
  intro q h1 h2
  apply Nat.eq_of_testBit_eq
  intro j
  rcases Nat.lt_or_ge j 64 with hj | hj
  · have := h (64 * q + j)
    unfold wbit at this
    rw [show (64 * q + j) / 64 = q from by omega, show (64 * q + j) % 64 = j from by omega, List.getD_eq_getElem?_getD, List.getD_eq_getElem?_getD, List.getElem?_eq_getElem h1, List.getElem?_eq_getElem h2] at this
    exact this
  · have hp : (18446744073709551616 : Nat) ≤ 2 ^ j := by rw [← W64]; exact Nat.pow_le_pow_right (by decide) hj
    rw [Nat.testBit_lt_two_pow (Nat.lt_of_lt_of_le (hA _ (List.getElem_mem h1)) hp), Nat.testBit_lt_two_pow (Nat.lt_of_lt_of_le (hB _ (List.getElem_mem h2)) hp)]
end Go.Inc

