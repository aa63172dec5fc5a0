/- PLAIN FACTS OF RUNS: numbers one behind the other, gathered; they are all the numbers, each one once. No program is named here. -/
import Derived.Test.YtjgnnofpilmgoaaDoorBmMath
namespace Go.Inc
open Go.RowKit

abbrev Run2 := Nat × Nat
def bump : List Run2 → List Run2
  | [] => []
  | [x] => [(x.1, x.2 + 1)]
  | x :: y :: r => x :: bump (y :: r)
theorem bump_snoc : ∀ (l : List Run2) (x : Run2), bump (l ++ [x]) = l ++ [(x.1, x.2 + 1)]
  | [], _ => rfl
  | [_], _ => rfl
  | a :: b :: r, x => by
    have := bump_snoc (b :: r) x
    simp only [List.cons_append] at this ⊢
    unfold bump
    rw [this]
/-- The runs among the numbers below k. -/
def runsTo (f : Nat → Bool) : Nat → List Run2
  | 0 => []
  | k + 1 => if f k then (if 0 < k ∧ f (k - 1) = true then bump (runsTo f k) else runsTo f k ++ [(k, 1)]) else runsTo f k
def expand : List Run2 → List Nat
  | [] => []
  | x :: r => (List.range x.2).map (x.1 + ·) ++ expand r
theorem expand_append : ∀ a b, expand (a ++ b) = expand a ++ expand b
  | [], _ => rfl
  | x :: r, b => by
    have := expand_append r b
    simp only [List.cons_append, expand, this, List.append_assoc]
/-- Where a gathering stands: below k; is the number ahead in? -/
structure RunsAt (f : Nat → Bool) (k : Nat) (l : List Run2) : Prop where
  nums : expand l = numsTo f k
  one : ∀ i, i < l.length → 1 ≤ (l.getD i (0, 0)).2
  gap : ∀ i, i + 1 < l.length → (l.getD i (0, 0)).1 + (l.getD i (0, 0)).2 < (l.getD (i + 1) (0, 0)).1
  last : 0 < k ∧ f (k - 1) = true → ∃ l' x, l = l' ++ [x] ∧ x.1 + x.2 = k
  less : ¬ (0 < k ∧ f (k - 1) = true) → ∀ i, i < l.length → (l.getD i (0, 0)).1 + (l.getD i (0, 0)).2 < k
  low : ∀ i, i < l.length → (l.getD i (0, 0)).1 + (l.getD i (0, 0)).2 ≤ k
theorem getD_snoc (l : List Run2) (x : Run2) (i : Nat) : (l ++ [x]).getD i (0, 0) = if i < l.length then l.getD i (0, 0) else if i = l.length then x else (0, 0) := by
  simp only [List.getD_eq_getElem?_getD, List.getElem?_append]
  by_cases h : i < l.length
  · simp [h]
  · by_cases h2 : i = l.length
    · subst h2; simp
    · have : ¬ i - l.length < 1 := by omega
      simp [h, h2, List.getElem?_eq_none (by simp; omega : ([x] : List Run2).length ≤ i - l.length)]
theorem runs_at (f : Nat → Bool) : ∀ k, RunsAt f k (runsTo f k)
  | 0 => ⟨rfl, fun i h => by simp [runsTo] at h, fun i h => by simp [runsTo] at h, fun h => by omega, fun _ i h => by simp [runsTo] at h, fun i h => by simp [runsTo] at h⟩
  | k + 1 => by
    have ih := runs_at f k
    by_cases hk : f k = true
    · by_cases hp : 0 < k ∧ f (k - 1) = true
      · obtain ⟨l', x, hl, hx⟩ := ih.last hp
        have e : runsTo f (k + 1) = l' ++ [(x.1, x.2 + 1)] := by
          conv => lhs; unfold runsTo
          rw [if_pos hk, if_pos hp, hl, bump_snoc]
        have hlow := ih.low
        have hone := ih.one
        have hgap := ih.gap
        have hnum := ih.nums
        rw [hl] at hlow hone hgap hnum
        rw [e]
        refine ⟨?_, fun i hi => ?_, fun i hi => ?_, fun _ => ⟨l', _, rfl, by simp only; omega⟩, fun h => absurd ⟨by omega, by simpa using hk⟩ h, fun i hi => ?_⟩
        · rw [numsTo_in hk, ← hnum, expand_append, expand_append, List.append_assoc]
          congr 1
          simp only [expand, List.append_nil, List.range_succ, List.map_append, List.map_cons, List.map_nil]
          rw [hx]
        · have := hone i (by simpa using hi)
          rw [getD_snoc] at this ⊢
          by_cases h1 : i < l'.length
          · rw [if_pos h1] at this ⊢; exact this
          · rw [if_neg h1]; simp at hi; rw [if_pos (by omega)]; simp
        · have := hgap i (by simpa using hi)
          simp only [List.length_append, List.length_cons, List.length_nil] at hi
          rw [getD_snoc, getD_snoc, if_pos (by omega : i < l'.length)] at this ⊢
          by_cases h1 : i + 1 < l'.length
          · rw [if_pos h1] at this ⊢; exact this
          · rw [if_neg h1, if_pos (by omega)] at this ⊢; exact this
        · have := hlow i (by simpa using hi)
          simp only [List.length_append, List.length_cons, List.length_nil] at hi
          rw [getD_snoc] at this ⊢
          by_cases h1 : i < l'.length
          · rw [if_pos h1] at this ⊢; omega
          · rw [if_neg h1, if_pos (by omega)]; simp only; omega
      · have e : runsTo f (k + 1) = runsTo f k ++ [(k, 1)] := by
          conv => lhs; unfold runsTo
          rw [if_pos hk, if_neg hp]
        have hlow := ih.low
        have hone := ih.one
        have hgap := ih.gap
        have hless := ih.less hp
        rw [e]
        refine ⟨?_, fun i hi => ?_, fun i hi => ?_, fun _ => ⟨_, _, rfl, rfl⟩, fun h => absurd ⟨by omega, by simpa using hk⟩ h, fun i hi => ?_⟩
        · rw [numsTo_in hk, ← ih.nums, expand_append]
          congr 1
        · simp only [List.length_append, List.length_cons, List.length_nil] at hi
          rw [getD_snoc]
          by_cases h1 : i < (runsTo f k).length
          · rw [if_pos h1]; exact hone i h1
          · rw [if_neg h1, if_pos (by omega)]; simp
        · simp only [List.length_append, List.length_cons, List.length_nil] at hi
          rw [getD_snoc, getD_snoc, if_pos (by omega : i < (runsTo f k).length)]
          by_cases h1 : i + 1 < (runsTo f k).length
          · rw [if_pos h1]; exact hgap i h1
          · rw [if_neg h1, if_pos (by omega)]; exact hless i (by omega)
        · simp only [List.length_append, List.length_cons, List.length_nil] at hi
          rw [getD_snoc]
          by_cases h1 : i < (runsTo f k).length
          · rw [if_pos h1]; have := hlow i h1; omega
          · rw [if_neg h1, if_pos (by omega)]; simp
    · have e : runsTo f (k + 1) = runsTo f k := by
        conv => lhs; unfold runsTo
        rw [if_neg hk]
      rw [e]
      have hlow := ih.low
      refine ⟨?_, ih.one, ih.gap, fun h => absurd (by simpa using h.2) hk, fun _ i hi => ?_, fun i hi => ?_⟩
      · rw [numsTo_out (by simpa using hk)]; exact ih.nums
      · have := hlow i hi; omega
      · have := hlow i hi; omega
theorem runs_len (f : Nat → Bool) : ∀ k, (runsTo f k).length ≤ k
  | 0 => Nat.le_refl _
  | k + 1 => by
    have ih := runs_len f k
    by_cases hk : f k = true
    · by_cases hp : 0 < k ∧ f (k - 1) = true
      · obtain ⟨l', x, hl, hx⟩ := (runs_at f k).last hp
        have e : runsTo f (k + 1) = l' ++ [(x.1, x.2 + 1)] := by
          conv => lhs; unfold runsTo
          rw [if_pos hk, if_pos hp, hl, bump_snoc]
        rw [hl] at ih
        rw [e]
        simp at ih ⊢
        omega
      · have e : runsTo f (k + 1) = runsTo f k ++ [(k, 1)] := by
          conv => lhs; unfold runsTo
          rw [if_pos hk, if_neg hp]
        rw [e]; simp; exact ih
    · have e : runsTo f (k + 1) = runsTo f k := by
        conv => lhs; unfold runsTo
        rw [if_neg hk]
      rw [e]; omega
/-- How many numbers the first i runs have. -/
def offs (l : List Run2) (i : Nat) : Nat := (expand (l.take i)).length
theorem offs_zero (l : List Run2) : offs l 0 = 0 := rfl
theorem take_run {l : List Run2} {i : Nat} (h : i < l.length) : l.take (i + 1) = l.take i ++ [l.getD i (0, 0)] := by
  rw [List.take_succ_eq_append_getElem h, List.getD_eq_getElem?_getD, List.getElem?_eq_getElem h]; rfl
theorem offs_succ {l : List Run2} {i : Nat} (h : i < l.length) : offs l (i + 1) = offs l i + (l.getD i (0, 0)).2 := by
  unfold offs
  rw [take_run h, expand_append, List.length_append]
  simp [expand]
theorem offs_all (l : List Run2) : offs l l.length = (expand l).length := by unfold offs; rw [List.take_of_length_le (Nat.le_refl _)]
theorem offs_get {l : List Run2} {i j : Nat} (h : i < l.length) (hj : j < (l.getD i (0, 0)).2) : offs l i + j < (expand l).length ∧ (expand l).getD (offs l i + j) 0 = (l.getD i (0, 0)).1 + j := by
  have e : expand l = expand (l.take i) ++ ((List.range (l.getD i (0, 0)).2).map ((l.getD i (0, 0)).1 + ·) ++ expand (l.drop (i + 1))) := by
    conv => lhs; rw [← List.take_append_drop (i + 1) l, take_run h, expand_append, expand_append, List.append_assoc]
    simp [expand]
  have e2 : offs l i + j - (expand (l.take i)).length = j := by unfold offs; omega
  have e3 : ¬ offs l i + j < (expand (l.take i)).length := by unfold offs; omega
  rw [e]
  refine ⟨by rw [List.length_append, List.length_append, List.length_map, List.length_range]; unfold offs; omega, ?_⟩
  rw [List.getD_eq_getElem?_getD, List.getElem?_append, if_neg e3, e2, List.getElem?_append, if_pos (by simpa using hj), List.getElem?_map, List.getElem?_range hj]
  rfl
end Go.Inc

