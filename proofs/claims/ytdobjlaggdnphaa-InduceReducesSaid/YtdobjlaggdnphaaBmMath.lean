/- PLAIN FACTS OF SETS OF NUMBERS: the document's set as a list of bools, its numbers, the lowest one, its bytes; the same in words of 64 bits. No program is named here. -/
import Derived.Test.YtdobjlaggdnphaaLib
namespace Go.Inc
open Go.RowKit

/-- Is it there? -/
def inB (m : List Bool) (i : Nat) : Bool := m.getD i false
theorem inB_set {m : List Bool} {i : Nat} (h : i < m.length) (b : Bool) (j : Nat) : inB (m.set i b) j = if j = i then b else inB m j := by
  unfold inB
  simp only [List.getD_eq_getElem?_getD, List.getElem?_set]
  by_cases hj : i = j
  · subst hj; simp [h]
  · have : ¬ j = i := fun h => hj h.symm
    simp [hj, this]
theorem inB_far {m : List Bool} {i : Nat} (h : m.length ≤ i) : inB m i = false := by
  unfold inB
  rw [List.getD_eq_getElem?_getD, List.getElem?_eq_none h]
  rfl
theorem inB_lt {m : List Bool} {i : Nat} (h : inB m i = true) : i < m.length := by
  rcases Nat.lt_or_ge i m.length with h1 | h1
  · exact h1
  · rw [inB_far h1] at h; cases h
theorem ext_inB {a b : List Bool} (hl : a.length = b.length) (h : ∀ i, i < a.length → inB a i = inB b i) : a = b := by
  apply List.ext_getElem hl
  intro i h1 h2
  have := h i h1
  unfold inB at this
  rw [List.getD_eq_getElem?_getD, List.getD_eq_getElem?_getD, List.getElem?_eq_getElem h1, List.getElem?_eq_getElem h2] at this
  exact this

/-- The numbers below k. -/
def numsTo (f : Nat → Bool) (k : Nat) : List Nat := (List.range k).filter f
theorem numsTo_zero (f : Nat → Bool) : numsTo f 0 = [] := rfl
theorem numsTo_in {f : Nat → Bool} {k : Nat} (h : f k = true) : numsTo f (k + 1) = numsTo f k ++ [k] := by
  unfold numsTo
  rw [List.range_succ, List.filter_append]
  simp [h]
theorem numsTo_out {f : Nat → Bool} {k : Nat} (h : f k = false) : numsTo f (k + 1) = numsTo f k := by
  unfold numsTo
  rw [List.range_succ, List.filter_append]
  simp [h]
theorem numsTo_mem {f : Nat → Bool} {k i : Nat} : i ∈ numsTo f k ↔ i < k ∧ f i = true := by
  unfold numsTo
  rw [List.mem_filter, List.mem_range]
theorem numsTo_len (f : Nat → Bool) (k : Nat) : (numsTo f k).length ≤ k := by
  unfold numsTo
  have := List.length_filter_le f (List.range k)
  rw [List.length_range] at this
  exact this
theorem numsTo_congr {f g : Nat → Bool} {k : Nat} (h : ∀ i, i < k → f i = g i) : numsTo f k = numsTo g k := by
  unfold numsTo
  apply List.filter_congr
  intro i hi
  exact h i (List.mem_range.1 hi)
/-- Some that are all there, one behind the other. -/
theorem numsTo_run {f : Nat → Bool} {k : Nat} : ∀ n, (∀ i, k ≤ i → i < k + n → f i = true) → numsTo f (k + n) = numsTo f k ++ (List.range n).map (k + ·)
  | 0, _ => by simp
  | n + 1, h => by
    rw [show k + (n + 1) = (k + n) + 1 from by omega, numsTo_in (h _ (by omega) (by omega)), numsTo_run n fun i h1 h2 => h i h1 (by omega), List.range_succ, List.map_append, List.append_assoc]
    rfl
/-- None of some is there. -/
theorem numsTo_gap {f : Nat → Bool} {k : Nat} : ∀ n, (∀ i, k ≤ i → i < k + n → f i = false) → numsTo f (k + n) = numsTo f k
  | 0, _ => rfl
  | n + 1, h => by
    rw [show k + (n + 1) = (k + n) + 1 from by omega, numsTo_out (h _ (by omega) (by omega)), numsTo_gap n fun i h1 h2 => h i h1 (by omega)]
/-- How many are there, below k. -/
def cntTo (f : Nat → Bool) (k : Nat) : Nat := (numsTo f k).length
theorem cntTo_in {f : Nat → Bool} {k : Nat} (h : f k = true) : cntTo f (k + 1) = cntTo f k + 1 := by unfold cntTo; rw [numsTo_in h, List.length_append]; rfl
theorem cntTo_out {f : Nat → Bool} {k : Nat} (h : f k = false) : cntTo f (k + 1) = cntTo f k := by unfold cntTo; rw [numsTo_out h]

/-- The lowest one from no on that is as asked, below n; -1 of none. -/
def lowB (f : Nat → Bool) (no : Int) (b : Bool) : Nat → Int
  | 0 => -1
  | n + 1 => if 0 ≤ lowB f no b n then lowB f no b n else if no ≤ n ∧ f n = b then n else -1
theorem lowB_none {f : Nat → Bool} {no : Int} {b : Bool} : ∀ {n : Nat}, (∀ i : Nat, i < n → ¬ (no ≤ i ∧ f i = b)) → lowB f no b n = -1
  | 0, _ => rfl
  | n + 1, h => by
    unfold lowB
    rw [lowB_none fun i hi => h i (by omega), if_neg (by decide), if_neg (h n (by omega))]
theorem lowB_first {f : Nat → Bool} {no : Int} {b : Bool} {k : Nat} (hk : no ≤ k ∧ f k = b) (h : ∀ i : Nat, i < k → ¬ (no ≤ i ∧ f i = b)) : ∀ {n : Nat}, k < n → lowB f no b n = k
  | 0, hn => by omega
  | n + 1, hn => by
    unfold lowB
    by_cases hkn : k = n
    · subst hkn
      rw [lowB_none h, if_neg (by decide), if_pos hk]
    · rw [lowB_first hk h (by omega), if_pos (by omega)]
theorem lowB_cases (f : Nat → Bool) (no : Int) (b : Bool) (n : Nat) : (lowB f no b n = -1 ∧ ∀ i : Nat, i < n → ¬ (no ≤ i ∧ f i = b)) ∨ ∃ k : Nat, k < n ∧ lowB f no b n = k ∧ (no ≤ k ∧ f k = b) ∧ ∀ i : Nat, i < k → ¬ (no ≤ i ∧ f i = b) := by
  induction n with
  | zero => exact .inl ⟨rfl, fun i hi => by omega⟩
  | succ n ih =>
    rcases ih with ⟨_, h⟩ | ⟨k, hk, _, h1, h2⟩
    · by_cases hc : no ≤ n ∧ f n = b
      · exact .inr ⟨n, by omega, lowB_first hc h (by omega), hc, h⟩
      · have hm : ∀ i : Nat, i < n + 1 → ¬ (no ≤ i ∧ f i = b) := fun i hi => by
          by_cases hin : i = n
          · subst hin; exact hc
          · exact h i (by omega)
        exact .inl ⟨lowB_none hm, hm⟩
    · exact .inr ⟨k, by omega, lowB_first h1 h2 (by omega), h1, h2⟩

/-- A byte of eight from i on, its highest t bits. -/
def accB (f : Nat → Bool) (i : Nat) : Nat → Nat
  | 0 => 0
  | t + 1 => 2 * accB f i t + (f (i + (7 - t))).toNat
theorem accB_lt (f : Nat → Bool) (i : Nat) : ∀ t, accB f i t < 2 ^ t
  | 0 => Nat.one_pos
  | t + 1 => by
    have := accB_lt f i t
    have hb : (f (i + (7 - t))).toNat ≤ 1 := Bool.toNat_le _
    unfold accB
    rw [Nat.pow_succ]
    omega
theorem accB_bit (f : Nat → Bool) (i : Nat) : ∀ t j, t ≤ 8 → j < t → (accB f i t).testBit j = f (i + (8 - t + j))
  | 0, _, _, h => by omega
  | t + 1, 0, ht, _ => by
    unfold accB
    rw [Nat.testBit_zero]
    rw [show 8 - (t + 1) + 0 = 7 - t from by omega]
    cases f (i + (7 - t)) <;> simp <;> omega
  | t + 1, j + 1, ht, h => by
    unfold accB
    rw [Nat.testBit_succ]
    have hb : (f (i + (7 - t))).toNat ≤ 1 := Bool.toNat_le _
    rw [show (2 * accB f i t + (f (i + (7 - t))).toNat) / 2 = accB f i t from by omega, accB_bit f i t j (by omega) (by omega)]
    congr 2
    omega
/-- A set's bytes. -/
def bytesB (f : Nat → Bool) (n : Nat) : List Nat := (List.range ((n + 7) / 8)).map fun i => accB f (8 * i) 8
theorem bytesB_len (f : Nat → Bool) (n : Nat) : (bytesB f n).length = (n + 7) / 8 := by simp [bytesB]
theorem bytesB_bytes (f : Nat → Bool) (n : Nat) : Bytes (bytesB f n) := by
  intro x hx
  obtain ⟨i, _, rfl⟩ := List.mem_map.1 hx
  exact accB_lt f (8 * i) 8
/-- Two of one byte, bit by bit. -/
theorem byte_ext {a b : Nat} (ha : a < 256) (hb : b < 256) (h : ∀ j, j < 8 → a.testBit j = b.testBit j) : a = b := by
  apply Nat.eq_of_testBit_eq
  intro j
  rcases Nat.lt_or_ge j 8 with hj | hj
  · exact h j hj
  · have h1 : (2 : Nat) ^ 8 ≤ 2 ^ j := Nat.pow_le_pow_right (by decide) hj
    rw [Nat.testBit_lt_two_pow (Nat.lt_of_lt_of_le ha h1), Nat.testBit_lt_two_pow (Nat.lt_of_lt_of_le hb h1)]

/-! Words of 64 bits. -/
def wbit (W : List Nat) (i : Nat) : Bool := (W.getD (i / 64) 0).testBit (i % 64)
theorem wbit_zeros (n i : Nat) : wbit (List.replicate n 0) i = false := by
  unfold wbit
  rw [List.getD_eq_getElem?_getD, List.getElem?_replicate]
  split <;> simp
theorem wbit_word {W : List Nat} {q : Nat} (hq : q < W.length) (x i : Nat) : wbit (W.set q x) i = if i / 64 = q then x.testBit (i % 64) else wbit W i := by
  unfold wbit
  simp only [List.getD_eq_getElem?_getD, List.getElem?_set]
  by_cases h : q = i / 64
  · subst h; simp [hq]
  · have : ¬ i / 64 = q := fun h' => h h'.symm
    simp [h, this]
theorem bit_one (k j : Nat) : (2 ^ k).testBit j = decide (k = j) := Nat.testBit_two_pow
theorem wbit_put {W : List Nat} {i : Nat} (h : i / 64 < W.length) (j : Nat) : wbit (W.set (i / 64) (W.getD (i / 64) 0 ||| 2 ^ (i % 64))) j = (decide (j = i) || wbit W j) := by
  rw [wbit_word h]
  by_cases hq : j / 64 = i / 64
  · rw [if_pos hq, Nat.testBit_or, bit_one]
    have e : (i % 64 = j % 64) = (j = i) := propext (by omega)
    unfold wbit
    rw [hq]
    simp only [e]
    exact Bool.or_comm _ _
  · rw [if_neg hq]
    have : ¬ j = i := fun h => hq (by rw [h])
    simp [this]
theorem word_put {x k : Nat} (hx : x < 2 ^ 64) (hk : k < 64) : x ||| 2 ^ k < 2 ^ 64 := Nat.or_lt_two_pow hx (Nat.pow_lt_pow_right (by decide) hk)
/-- A bit less. -/
theorem bit_less {x k : Nat} (hb : x.testBit k = true) (j : Nat) : (x ^^^ 2 ^ k).testBit j = (x.testBit j && !decide (k = j)) := by
  rw [Nat.testBit_xor, bit_one]
  by_cases h : k = j
  · subst h; simp [hb]
  · simp [h]
end Go.Inc

