/- PLAIN FACTS: ranks out of words, blocks and a directory; a search for a place. No program is named here. -/
import Derived.Test.YtjcapiibeekfkaaRkMb
import Derived.Test.YtjcapiibeekfkaaBmPop
namespace Go.Inc
open Go.RowKit
theorem popN_in {x s : Nat} (h : x.testBit s = true) : popN x (s + 1) = popN x s + 1 := cntTo_in h
theorem popN_out {x s : Nat} (h : x.testBit s = false) : popN x (s + 1) = popN x s := cntTo_out h
theorem popN_le (x : Nat) : ∀ s, popN x s ≤ s
  | 0 => Nat.le_refl _
  | s + 1 => by
    have := popN_le x s
    cases h : x.testBit s
    · rw [popN_out h]; omega
    · rw [popN_in h]; omega
/-- The bits below s alone. -/
theorem popN_mod (x s : Nat) : ∀ n, popN (x % 2 ^ s) n = popN x (min n s)
  | 0 => by rw [Nat.zero_min]; rfl
  | n + 1 => by
    have h := popN_mod x s n
    have hb : (x % 2 ^ s).testBit n = (decide (n < s) && x.testBit n) := Nat.testBit_mod_two_pow x s n
    by_cases hn : n < s
    · rw [decide_eq_true hn, Bool.true_and] at hb
      rw [show min (n + 1) s = n + 1 from by omega]
      rw [show min n s = n from by omega] at h
      cases hx : x.testBit n
      · rw [popN_out (by rw [hb, hx]), popN_out hx, h]
      · rw [popN_in (by rw [hb, hx]), popN_in hx, h]
    · rw [decide_eq_false hn, Bool.false_and] at hb
      rw [popN_out hb, h, show min (n + 1) s = min n s from by omega]
theorem popN_mask (x : Nat) {s : Nat} (hs : s ≤ 64) : popN (x &&& (2 ^ s - 1)) 64 = popN x s := by
  rw [Nat.and_two_pow_sub_one_eq_mod, popN_mod, show min 64 s = s from by omega]
/-- The words of a row. -/
structure WdR (W : List Nat) (m : List Bool) : Prop where
  bit : ∀ k, (W.getD (k / 64) 0).testBit (k % 64) = inB m k
  lt : ∀ x ∈ W, x < 18446744073709551616
  len : W.length = (m.length + 63) / 64
theorem WdR.at {W : List Nat} {m : List Bool} (h : WdR W m) {j s : Nat} (hs : s < 64) : (W.getD j 0).testBit s = inB m (64 * j + s) := by
  have := h.bit (64 * j + s)
  rwa [show (64 * j + s) / 64 = j from by omega, show (64 * j + s) % 64 = s from by omega] at this
theorem WdR.get_lt {W : List Nat} {m : List Bool} (h : WdR W m) (j : Nat) : W.getD j 0 < 18446744073709551616 := by
  rw [List.getD_eq_getElem?_getD]
  by_cases hj : j < W.length
  · rw [List.getElem?_eq_getElem hj]; exact h.lt _ (List.getElem_mem hj)
  · rw [List.getElem?_eq_none (by omega)]; decide
/-- The rank within a word. -/
theorem WdR.rank {W : List Nat} {m : List Bool} (h : WdR W m) (j : Nat) : ∀ s, s ≤ 64 → rkB m true (64 * j + s) = rkB m true (64 * j) + popN (W.getD j 0) s
  | 0, _ => rfl
  | s + 1, hs => by
    have ih := h.rank j s (by omega)
    have hb := h.at (j := j) (s := s) (by omega)
    rw [← Nat.add_assoc, rkB_succ, ih]
    cases hv : inB m (64 * j + s)
    · rw [popN_out (by rw [hb, hv]), if_neg (by decide)]; omega
    · rw [popN_in (by rw [hb, hv]), if_pos rfl]; omega
theorem WdR.rank_mask {W : List Nat} {m : List Bool} (h : WdR W m) {j s : Nat} (hs : s ≤ 64) : rkB m true (64 * j + s) = rkB m true (64 * j) + popN (W.getD j 0 &&& (2 ^ s - 1)) 64 := by
  rw [popN_mask _ hs, h.rank j s hs]
theorem WdR.next {W : List Nat} {m : List Bool} (h : WdR W m) (j : Nat) : rkB m true (64 * (j + 1)) = rkB m true (64 * j) + popN (W.getD j 0) 64 := by
  rw [← h.rank j 64 (Nat.le_refl _)]; congr 1
theorem dirB_get (m : List Bool) {t q : Nat} (h : q < t) : (dirB m t).getD q 0 = rkB m true (512 * q) := by
  unfold dirB
  rw [List.getD_eq_getElem?_getD, List.getElem?_map, List.getElem?_range h]; rfl
theorem dirW_get (m : List Bool) {t q : Nat} (h : q < t) : (dirW m t).getD q 0 = rkB m true (64 * q) - rkB m true (512 * (q / 8)) := by
  unfold dirW
  rw [List.getD_eq_getElem?_getD, List.getElem?_map, List.getElem?_range h, show 512 * (q / 8) = 64 * q / 512 * 512 from by omega]; rfl
/-- A word's rank is its block's and its own. -/
theorem dir_sum (m : List Bool) {t u q : Nat} (hb : q / 8 < t) (hw : q < u) : (dirB m t).getD (q / 8) 0 + (dirW m u).getD q 0 = rkB m true (64 * q) := by
  rw [dirB_get m hb, dirW_get m hw]
  have := rkB_mono m true (show 512 * (q / 8) ≤ 64 * q from by omega)
  omega
theorem rkB_false (m : List Bool) (i : Nat) : rkB m false i = i - rkB m true i := by have := rkB_both m i; omega
theorem rkB_one_le (m : List Bool) (one : Bool) (i : Nat) : rkB m one (i + 1) ≤ rkB m one i + 1 := by rw [rkB_succ]; split <;> omega
/-- A search by halves ends at the place. -/
theorem sel_search {m : List Bool} {one : Bool} {k i n : Nat} (h1 : rkB m one i ≤ k) (h2 : k < rkB m one (i + 1)) (hi : i < n) : selB m one k n = i := by
  rw [rkB_succ] at h2
  by_cases hv : inB m i = one
  · rw [if_pos hv] at h2
    exact selB_at hv (by omega) hi
  · rw [if_neg hv] at h2; omega
/-- Rows of the same words and lengths are the same. -/
theorem WdR.inj {W V : List Nat} {m l : List Bool} (h : WdR W m) (k : WdR V l) (hl : m.length = l.length) : W = V ↔ m = l := by
  constructor
  · rintro rfl
    apply List.ext_getElem hl
    intro i h1 h2
    have e1 := h.bit i
    have e2 := k.bit i
    rw [e1] at e2
    unfold inB at e2
    rw [List.getD_eq_getElem?_getD, List.getD_eq_getElem?_getD, List.getElem?_eq_getElem h1, List.getElem?_eq_getElem h2] at e2
    exact e2
  · rintro rfl
    apply List.ext_getElem (by rw [h.len, k.len])
    intro i h1 h2
    apply Nat.eq_of_testBit_eq
    intro j
    by_cases hj : j < 64
    · have e1 := h.at (j := i) hj
      have e2 := k.at (j := i) hj
      rw [← e2, List.getD_eq_getElem?_getD, List.getD_eq_getElem?_getD, List.getElem?_eq_getElem h1, List.getElem?_eq_getElem h2] at e1
      exact e1
    · have hp : (18446744073709551616 : Nat) ≤ 2 ^ j := by
        rw [show (18446744073709551616 : Nat) = 2 ^ 64 from rfl]
        exact Nat.pow_le_pow_right (by decide) (by omega)
      rw [Nat.testBit_lt_two_pow (Nat.lt_of_lt_of_le (h.lt _ (List.getElem_mem h1)) hp), Nat.testBit_lt_two_pow (Nat.lt_of_lt_of_le (k.lt _ (List.getElem_mem h2)) hp)]
/-- A bit laid. -/
theorem WdR.set {W : List Nat} {m : List Bool} (h : WdR W m) {i : Nat} (hi : i < m.length) : WdR (W.set (i / 64) (W.getD (i / 64) 0 ||| 2 ^ (i % 64))) (m.set i true) := by
  have hq : i / 64 < W.length := by rw [h.len]; omega
  refine ⟨fun k => ?_, fun x hx => ?_, by rw [List.length_set, List.length_set, h.len]⟩
  · rw [inB_put, List.getD_eq_getElem?_getD]
    by_cases hk : i / 64 = k / 64
    · rw [← hk, List.getElem?_set_self hq]
      show (W.getD (i / 64) 0 ||| 2 ^ (i % 64)).testBit (k % 64) = _
      rw [Nat.testBit_or, Nat.testBit_two_pow, hk, h.bit k]
      by_cases hik : i = k
      · subst hik
        rw [if_pos ⟨rfl, hi⟩, decide_eq_true rfl, Bool.or_true]
      · rw [if_neg fun hh => hik hh.1, decide_eq_false (by omega), Bool.or_false]
    · rw [List.getElem?_set_ne hk, if_neg (fun hh => hk (by rw [hh.1])), ← List.getD_eq_getElem?_getD]
      exact h.bit k
  · rcases List.mem_or_eq_of_mem_set hx with h1 | rfl
    · exact h.lt x h1
    · have h1 := h.get_lt (i / 64)
      have h2 : 2 ^ (i % 64) < 2 ^ 64 := Nat.pow_lt_pow_right (by decide) (by omega)
      exact Nat.or_lt_two_pow h1 h2
theorem WdR.zeros (n : Nat) : WdR (List.replicate ((n + 63) / 64) 0) (List.replicate n false) := by
  refine ⟨fun k => ?_, fun x hx => ?_, by rw [List.length_replicate, List.length_replicate]⟩
  · rw [inB_zeros]
    have : (List.replicate ((n + 63) / 64) 0).getD (k / 64) 0 = 0 := by
      rw [List.getD_eq_getElem?_getD, List.getElem?_replicate]; split <;> rfl
    rw [this, Nat.zero_testBit]
  · rw [(List.mem_replicate.1 hx).2]; decide
end Go.Inc
