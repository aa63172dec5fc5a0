/- PLAIN FACTS OF BITS: a row of its ones. No program is named here. -/
import Derived.Test.YtjcapiibeekfkaaRkP
namespace Go.Inc
open Go.RowKit
theorem ofE_good {n : Int} {zs : List Int} (h : ofE n zs = 0) : 0 ≤ n ∧ n ≤ 65536 ∧ ∀ z ∈ zs, 0 ≤ z ∧ z < n := by
  unfold ofE at h
  split at h
  · omega
  · split at h
    · omega
    · split at h
      · rename_i h3; exact ⟨by omega, by omega, h3⟩
      · omega
theorem ofE_ten {n : Int} {zs : List Int} (h0 : 0 ≤ n) (h1 : n ≤ 65536) (h : ofE n zs ≠ 0) : ofE n zs = 10 ∧ ¬ ∀ z ∈ zs, 0 ≤ z ∧ z < n := by
  unfold ofE at h ⊢
  rw [if_neg (by omega), if_neg (by omega)] at h ⊢
  split at h
  · exact absurd rfl h
  · rename_i h3; exact ⟨if_neg h3, h3⟩
theorem inB_put (m : List Bool) (i j : Nat) (b : Bool) : inB (m.set i b) j = if i = j ∧ j < m.length then b else inB m j := by
  unfold inB
  by_cases h : i = j
  · subst h
    by_cases hl : i < m.length
    · rw [if_pos ⟨rfl, hl⟩, List.getD_eq_getElem?_getD, List.getElem?_set_self hl]; rfl
    · rw [if_neg (fun hh => hl hh.2), List.set_eq_of_length_le (by omega)]
  · rw [if_neg (fun hh => h hh.1), List.getD_eq_getElem?_getD, List.getElem?_set_ne h, List.getD_eq_getElem?_getD]
theorem inB_onesB (n : Nat) (zs : List Int) (j : Nat) (hj : j < n) : ∀ k, inB (onesB n zs k) j = decide (∃ i, i < k ∧ (zs.getD i 0).toNat = j)
  | 0 => by
    have : inB (onesB n zs 0) j = false := by unfold onesB; exact inB_zeros n j
    rw [this]
    symm
    rw [decide_eq_false_iff_not]
    rintro ⟨i, hi, _⟩
    omega
  | k + 1 => by
    show inB ((onesB n zs k).set (zs.getD k 0).toNat true) j = _
    rw [inB_put, onesB_len, inB_onesB n zs j hj k]
    by_cases h : (zs.getD k 0).toNat = j
    · rw [if_pos ⟨h, hj⟩]
      symm
      rw [decide_eq_true_iff]
      exact ⟨k, by omega, h⟩
    · rw [if_neg fun hh => h hh.1]
      congr 1
      apply propext
      constructor
      · rintro ⟨i, hi, he⟩; exact ⟨i, by omega, he⟩
      · rintro ⟨i, hi, he⟩
        refine ⟨i, ?_, he⟩
        by_cases hik : i = k
        · subst hik; exact absurd he h
        · omega
theorem plcB_succ_in {m : List Bool} {n : Nat} (h : inB m n = true) : plcB m (n + 1) = plcB m n ++ [n] := by
  show (if _ then _ else _) = _
  rw [if_pos h]
theorem plcB_succ_out {m : List Bool} {n : Nat} (h : inB m n = false) : plcB m (n + 1) = plcB m n := by
  show (if _ then _ else _) = _
  rw [if_neg (by rw [h]; decide)]
theorem plcB_len (m : List Bool) : ∀ n, (plcB m n).length = rkB m true n
  | 0 => rfl
  | n + 1 => by
    rw [rkB_succ, ← plcB_len m n]
    by_cases h : inB m n = true
    · rw [if_pos h, plcB_succ_in h, List.length_append]; rfl
    · rw [if_neg h, plcB_succ_out (by simpa using h)]; rfl
theorem plcB_mem (m : List Bool) (j : Nat) : ∀ n, j ∈ plcB m n ↔ j < n ∧ inB m j = true
  | 0 => by unfold plcB; simp
  | n + 1 => by
    unfold plcB
    by_cases h : inB m n = true
    · rw [if_pos h, List.mem_append, plcB_mem m j n]
      constructor
      · rintro (⟨h1, h2⟩ | h1)
        · exact ⟨by omega, h2⟩
        · obtain rfl : j = n := by simpa using h1
          exact ⟨by omega, h⟩
      · rintro ⟨h1, h2⟩
        by_cases hj : j = n
        · exact .inr (by simp [hj])
        · exact .inl ⟨by omega, h2⟩
    · rw [if_neg h, plcB_mem m j n]
      constructor
      · rintro ⟨h1, h2⟩; exact ⟨by omega, h2⟩
      · rintro ⟨h1, h2⟩
        refine ⟨?_, h2⟩
        by_cases hj : j = n
        · subst hj; exact absurd h2 h
        · omega
/-- The row of its ones is the row. -/
theorem onesB_plcB (m : List Bool) : onesB m.length ((plcB m m.length).map fun x : Nat => (x : Int)) (plcB m m.length).length = m := by
  apply List.ext_getElem
  · exact onesB_len _ _ _
  · intro j h1 h2
    have h := inB_onesB m.length ((plcB m m.length).map fun x : Nat => (x : Int)) j h2 (plcB m m.length).length
    have e1 : inB (onesB m.length ((plcB m m.length).map fun x : Nat => (x : Int)) (plcB m m.length).length) j = (onesB m.length ((plcB m m.length).map fun x : Nat => (x : Int)) (plcB m m.length).length)[j] := by
      unfold inB; rw [List.getD_eq_getElem?_getD, List.getElem?_eq_getElem h1]; rfl
    have e2 : inB m j = m[j] := by unfold inB; rw [List.getD_eq_getElem?_getD, List.getElem?_eq_getElem h2]; rfl
    rw [← e1, ← e2, h]
    have hg : ∀ i, i < (plcB m m.length).length → (((plcB m m.length).map fun x : Nat => (x : Int)).getD i 0).toNat = (plcB m m.length).getD i 0 := fun i hi => by
      rw [List.getD_eq_getElem?_getD, List.getElem?_map, List.getD_eq_getElem?_getD, List.getElem?_eq_getElem hi]; rfl
    cases hb : inB m j
    · rw [decide_eq_false_iff_not]
      rintro ⟨i, hi, he⟩
      rw [hg i hi, List.getD_eq_getElem?_getD, List.getElem?_eq_getElem hi] at he
      have hm := (plcB_mem m j m.length).1 (he ▸ List.getElem_mem hi)
      rw [hb] at hm
      exact absurd hm.2 (by decide)
    · rw [decide_eq_true_iff]
      obtain ⟨i, hi, he⟩ := List.getElem_of_mem ((plcB_mem m j m.length).2 ⟨h2, hb⟩)
      exact ⟨i, hi, by rw [hg i hi, List.getD_eq_getElem?_getD, List.getElem?_eq_getElem hi]; exact he⟩
theorem ofE_plcB (m : List Bool) (h : m.length ≤ 65536) : ofE (m.length : Int) ((plcB m m.length).map fun x : Nat => (x : Int)) = 0 := by
  unfold ofE
  rw [if_neg (by omega), if_neg (by omega), if_pos]
  intro z hz
  obtain ⟨x, hx, rfl⟩ := List.mem_map.1 hz
  have := (plcB_mem m x m.length).1 hx
  omega
end Go.Inc
