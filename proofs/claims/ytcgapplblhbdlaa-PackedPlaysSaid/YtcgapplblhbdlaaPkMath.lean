/- PLAIN FACTS OF NUMBERS OF FEW BITS: one behind the other, in words of 64 bits, in bytes. No program is named here. -/
import Derived.Test.YtcgapplblhbdlaaBmBits
namespace Go.Inc
open Go.RowKit

/-- The k-th bit of numbers of w bits each. -/
def bitP (w : Nat) (l : List Nat) (k : Nat) : Bool := (l.getD (k / w) 0).testBit (k % w)
def FitsP (w : Nat) (l : List Nat) : Prop := ∀ x ∈ l, x < 2 ^ w
theorem FitsP.get {w : Nat} {l : List Nat} (h : FitsP w l) (i : Nat) : l.getD i 0 < 2 ^ w := by
  rw [List.getD_eq_getElem?_getD]
  cases hx : l[i]? with
  | none => exact Nat.two_pow_pos w
  | some x => exact h x (List.mem_of_getElem? hx)
theorem FitsP.set {w n i : Nat} {l : List Nat} (h : FitsP w l) (hn : n < 2 ^ w) : FitsP w (l.set i n) := fun x hx => by
  rcases List.mem_or_eq_of_mem_set hx with h1 | rfl
  · exact h x h1
  · exact hn
theorem FitsP.append {w : Nat} {l m : List Nat} (h : FitsP w l) (k : FitsP w m) : FitsP w (l ++ m) := fun x hx => (List.mem_append.1 hx).elim (h x) (k x)
theorem FitsP.zeros (w n : Nat) : FitsP w (List.replicate n 0) := fun x hx => by rw [List.mem_replicate] at hx; rw [hx.2]; exact Nat.two_pow_pos w
theorem div_at {w i j : Nat} (hj : j < w) : (i * w + j) / w = i ∧ (i * w + j) % w = j := by
  constructor
  · rw [Nat.mul_comm, Nat.mul_add_div (by omega), Nat.div_eq_of_lt hj]; rfl
  · rw [Nat.mul_comm, Nat.mul_add_mod, Nat.mod_eq_of_lt hj]
theorem bitP_at {w i j : Nat} (l : List Nat) (hj : j < w) : bitP w l (i * w + j) = (l.getD i 0).testBit j := by
  unfold bitP
  rw [(div_at hj).1, (div_at hj).2]
theorem bitP_far {w k : Nat} {l : List Nat} (hw : 0 < w) (h : w * l.length ≤ k) : bitP w l k = false := by
  unfold bitP
  have : l.length ≤ k / w := (Nat.le_div_iff_mul_le hw).2 (by rw [Nat.mul_comm]; exact h)
  rw [List.getD_eq_getElem?_getD, List.getElem?_eq_none this]
  simp
theorem bitP_set {w i n : Nat} {l : List Nat} (hi : i < l.length) (k : Nat) : bitP w (l.set i n) k = if k / w = i then n.testBit (k % w) else bitP w l k := by
  unfold bitP
  simp only [List.getD_eq_getElem?_getD, List.getElem?_set]
  by_cases hk : i = k / w
  · simp [← hk, hi]
  · rw [if_neg hk, if_neg (fun h => hk h.symm)]
theorem getD_zeros (l : List Nat) (n i : Nat) : (l ++ List.replicate n 0).getD i 0 = l.getD i 0 := by
  simp only [List.getD_eq_getElem?_getD]
  by_cases h : i < l.length
  · rw [List.getElem?_append_left h]
  · rw [List.getElem?_append_right (by omega), List.getElem?_eq_none (l := l) (by omega), List.getElem?_replicate]
    split <;> rfl
theorem bitP_zeros (w : Nat) (l : List Nat) (n k : Nat) : bitP w (l ++ List.replicate n 0) k = bitP w l k := by
  unfold bitP
  rw [getD_zeros]
theorem fits_bit {w x j : Nat} (h : x < 2 ^ w) (hj : w ≤ j) : x.testBit j = false := Nat.testBit_lt_two_pow (Nat.lt_of_lt_of_le h (Nat.pow_le_pow_right (by decide) hj))
theorem bitP_inj {w : Nat} {l m : List Nat} (hl : l.length = m.length) (h1 : FitsP w l) (h2 : FitsP w m) (h : ∀ k, bitP w l k = bitP w m k) : l = m := by
  apply List.ext_getElem hl
  intro i hi hm
  apply Nat.eq_of_testBit_eq
  intro j
  by_cases hj : j < w
  · have := h (i * w + j)
    rw [bitP_at _ hj, bitP_at _ hj, List.getD_eq_getElem?_getD, List.getD_eq_getElem?_getD, List.getElem?_eq_getElem hi, List.getElem?_eq_getElem hm] at this
    exact this
  · rw [fits_bit (h1 _ (List.getElem_mem hi)) (by omega), fits_bit (h2 _ (List.getElem_mem hm)) (by omega)]

/-- Words that hold numbers of w bits each. -/
structure Wd (w : Nat) (l : List Nat) (W : List Nat) : Prop where
  len : W.length = (w * l.length + 63) / 64
  lt : ∀ x ∈ W, x < 18446744073709551616
  bit : ∀ k, wbit W k = bitP w l k
section
variable {w i q o n : Nat} {l W : List Nat}
theorem Wd.inj {m V : List Nat} (h : Wd w l W) (k : Wd w m V) (hl : l.length = m.length) (h1 : FitsP w l) (h2 : FitsP w m) : (W = V) ↔ (l = m) := by
  constructor
  · rintro rfl
    exact bitP_inj hl h1 h2 fun i => (h.bit i).symm.trans (k.bit i)
  · rintro rfl
    exact words_ext (by rw [h.len, k.len]) h.lt k.lt fun i => (h.bit i).trans (k.bit i).symm
theorem place_lt (hi : i < l.length) (hw : 1 ≤ w) (hq : q = i * w / 64) : q < (w * l.length + 63) / 64 := by
  have h1 : i * w + w ≤ w * l.length := by
    have : (i + 1) * w ≤ l.length * w := Nat.mul_le_mul_right w hi
    rw [Nat.add_mul, Nat.one_mul] at this
    rw [Nat.mul_comm w l.length]; exact this
  generalize i * w = A at *
  generalize w * l.length = C at *
  omega
theorem place_lt2 (hi : i < l.length) (hq : q = i * w / 64) (ho : o = i * w % 64) (h2 : 64 < o + w) : q + 1 < (w * l.length + 63) / 64 := by
  have h1 : i * w + w ≤ w * l.length := by
    have : (i + 1) * w ≤ l.length * w := Nat.mul_le_mul_right w hi
    rw [Nat.add_mul, Nat.one_mul] at this
    rw [Nat.mul_comm w l.length]; exact this
  generalize i * w = A at *
  generalize w * l.length = C at *
  omega
theorem Wd.at (h : Wd w l W) (hq : q = i * w / 64) (ho : o = i * w % 64) {j : Nat} (hj : j < w) (h64 : o + j < 64) : (W.getD q 0).testBit (o + j) = (l.getD i 0).testBit j := by
  rw [← bitP_at l hj, ← h.bit]
  unfold wbit
  generalize i * w = A at *
  rw [show (A + j) / 64 = q from by omega, show (A + j) % 64 = o + j from by omega]
theorem Wd.at2 (h : Wd w l W) (hq : q = i * w / 64) (ho : o = i * w % 64) {j : Nat} (hj : j < w) (hw : w ≤ 31) (h64 : 64 ≤ o + j) : (W.getD (q + 1) 0).testBit (o + j - 64) = (l.getD i 0).testBit j := by
  rw [← bitP_at l hj, ← h.bit]
  unfold wbit
  generalize i * w = A at *
  rw [show (A + j) / 64 = q + 1 from by omega, show (A + j) % 64 = o + j - 64 from by omega]
theorem mask_bit (w j : Nat) : (2 ^ w - 1).testBit j = decide (j < w) := Nat.testBit_two_pow_sub_one w j
theorem Wd.get_low (h : Wd w l W) (hf : FitsP w l) (hq : q = i * w / 64) (ho : o = i * w % 64) (h64 : o + w ≤ 64) : W.getD q 0 >>> o &&& (2 ^ w - 1) = l.getD i 0 := by
  apply Nat.eq_of_testBit_eq
  intro j
  rw [Nat.testBit_and, mask_bit, Nat.testBit_shiftRight]
  by_cases hj : j < w
  · rw [h.at hq ho hj (by omega)]; simp [hj]
  · rw [fits_bit (hf.get i) (by omega)]; simp [hj]
theorem Wd.get_two (h : Wd w l W) (hf : FitsP w l) (hq : q = i * w / 64) (ho : o = i * w % 64) (hw : w ≤ 31) : (W.getD q 0 >>> o ||| W.getD (q + 1) 0 <<< (64 - o) % 18446744073709551616) &&& (2 ^ w - 1) = l.getD i 0 := by
  apply Nat.eq_of_testBit_eq
  intro j
  have ho64 : o < 64 := by omega
  rw [Nat.testBit_and, mask_bit, Nat.testBit_or, Nat.testBit_shiftRight, ← W64, Nat.testBit_mod_two_pow, Nat.testBit_shiftLeft]
  by_cases hj : j < w
  · by_cases h1 : o + j < 64
    · rw [h.at hq ho hj h1, decide_eq_false (show ¬ 64 - o ≤ j by omega)]; simp [hj]
    · have h2 := h.at2 hq ho hj hw (by omega)
      have e : j - (64 - o) = o + j - 64 := by omega
      rw [e, h2, decide_eq_true (show 64 - o ≤ j by omega), decide_eq_true (show j < 64 by omega)]
      have h3 : (W.getD q 0).testBit (o + j) = false := fits_bit (w := 64) (by rw [W64]; exact wget_lt h.lt q) (by omega)
      rw [h3]; simp [hj]
  · rw [fits_bit (hf.get i) (by omega)]; simp [hj]

/-- A number is laid into its word. -/
def layLo (x M n o : Nat) : Nat := (x &&& (18446744073709551615 - M <<< o % 18446744073709551616)) ||| n <<< o % 18446744073709551616
/-- What does not fit there, into the next one. -/
def layHi (x M n r : Nat) : Nat := (x &&& (18446744073709551615 - M >>> r)) ||| n >>> r
theorem mod64_lt (x : Nat) : x % 18446744073709551616 < 18446744073709551616 := Nat.mod_lt _ (by decide)
theorem shr_le (x r : Nat) : x >>> r ≤ x := by rw [Nat.shiftRight_eq_div_pow]; exact Nat.div_le_self _ _
theorem pow31 {w : Nat} (hw : w ≤ 31) : 2 ^ w ≤ 2147483648 := by
  have := Nat.pow_le_pow_right (n := 2) (by decide) hw
  exact this
theorem mask_lt {w : Nat} (hw : w ≤ 31) : 2 ^ w - 1 < 18446744073709551616 := by have := pow31 hw; omega
theorem layLo_lt {x M n o : Nat} (hx : x < 18446744073709551616) : layLo x M n o < 18446744073709551616 := or_lt64 (and_lt64 hx _) (mod64_lt _)
theorem layHi_lt {x M n r : Nat} (hx : x < 18446744073709551616) (hn : n < 18446744073709551616) : layHi x M n r < 18446744073709551616 := or_lt64 (and_lt64 hx _) (Nat.lt_of_le_of_lt (shr_le n r) hn)
theorem layLo_bit {x n o w : Nat} (hx : x < 18446744073709551616) (j : Nat) (hj : j < 64) :
    (layLo x (2 ^ w - 1) n o).testBit j = ((x.testBit j && !(decide (o ≤ j) && decide (j - o < w))) || (decide (o ≤ j) && n.testBit (j - o))) := by
  unfold layLo
  rw [Nat.testBit_or, andNot_bit hx (mod64_lt _), ← W64, Nat.testBit_mod_two_pow, Nat.testBit_mod_two_pow, Nat.testBit_shiftLeft, Nat.testBit_shiftLeft, mask_bit]
  simp [hj]
theorem layHi_bit {x n r w : Nat} (hx : x < 18446744073709551616) (hw : w ≤ 31) (j : Nat) :
    (layHi x (2 ^ w - 1) n r).testBit j = ((x.testBit j && !decide (r + j < w)) || n.testBit (r + j)) := by
  unfold layHi
  rw [Nat.testBit_or, andNot_bit hx (Nat.lt_of_le_of_lt (shr_le _ _) (mask_lt hw)), Nat.testBit_shiftRight, Nat.testBit_shiftRight, mask_bit]
theorem div_is {k w i : Nat} (hw : 0 < w) : k / w = i ↔ (i * w ≤ k ∧ k < i * w + w) := by
  rw [Nat.div_eq_iff hw]
  generalize i * w = A
  omega
theorem Wd.put_low (h : Wd w l W) (hi : i < l.length) (hn : n < 2 ^ w) (hw1 : 1 ≤ w) (hq : q = i * w / 64) (ho : o = i * w % 64) (h64 : o + w ≤ 64) : Wd w (l.set i n) (W.set q (layLo (W.getD q 0) (2 ^ w - 1) n o)) := by
  have hql : q < W.length := by rw [h.len]; exact place_lt hi hw1 hq
  refine ⟨by rw [List.length_set, List.length_set, h.len], wset_lt h.lt (layLo_lt (wget_lt h.lt q)), fun k => ?_⟩
  rw [wbit_word hql, bitP_set hi, ← h.bit]
  have hd := div_is (k := k) (i := i) (w := w) hw1
  by_cases hk : k / 64 = q
  · rw [if_pos hk, layLo_bit (wget_lt h.lt q) _ (Nat.mod_lt _ (by decide))]
    have hb : (W.getD q 0).testBit (k % 64) = wbit W k := by unfold wbit; rw [hk]
    rw [hb]
    by_cases hin : k / w = i
    · rw [if_pos hin]
      have h1 := hd.1 hin
      have h3 : k % w = k - i * w := by
        have h4 := Nat.div_add_mod k w
        rw [hin, Nat.mul_comm] at h4
        omega
      rw [h3]
      generalize i * w = A at *
      rw [decide_eq_true (show o ≤ k % 64 by omega), decide_eq_true (show k % 64 - o < w by omega), show k % 64 - o = k - A from by omega]
      simp
    · rw [if_neg hin]
      have h1 : ¬ (i * w ≤ k ∧ k < i * w + w) := fun h2 => hin (hd.2 h2)
      generalize i * w = A at *
      by_cases h2 : o ≤ k % 64
      · have h3 : n.testBit (k % 64 - o) = false := fits_bit hn (by omega)
        rw [h3, decide_eq_true h2, decide_eq_false (show ¬ k % 64 - o < w by omega)]; simp
      · rw [decide_eq_false h2]; simp
  · rw [if_neg hk]
    have h1 : ¬ k / w = i := fun h2 => by
      have h3 := hd.1 h2
      generalize i * w = A at *
      omega
    rw [if_neg h1]
theorem Wd.put_two (h : Wd w l W) (hi : i < l.length) (hn : n < 2 ^ w) (hw1 : 1 ≤ w) (hw : w ≤ 31) (hq : q = i * w / 64) (ho : o = i * w % 64) (h64 : 64 < o + w) :
    Wd w (l.set i n) ((W.set q (layLo (W.getD q 0) (2 ^ w - 1) n o)).set (q + 1) (layHi (W.getD (q + 1) 0) (2 ^ w - 1) n (64 - o))) := by
  have hql2 : q + 1 < W.length := by rw [h.len]; exact place_lt2 hi hq ho h64
  have hn64 : n < 18446744073709551616 := by have := pow31 hw; omega
  refine ⟨by rw [List.length_set, List.length_set, List.length_set, h.len], wset_lt (wset_lt h.lt (layLo_lt (wget_lt h.lt q))) (layHi_lt (wget_lt h.lt _) hn64), fun k => ?_⟩
  rw [wbit_word (by rw [List.length_set]; exact hql2), wbit_word (by omega), bitP_set hi, ← h.bit]
  have hd := div_is (k := k) (i := i) (w := w) hw1
  have hmod : k / w = i → k % w = k - i * w := fun hin => by
    have h4 := Nat.div_add_mod k w
    rw [hin, Nat.mul_comm] at h4
    omega
  by_cases hk2 : k / 64 = q + 1
  · rw [if_pos hk2, layHi_bit (wget_lt h.lt _) hw]
    have hb : (W.getD (q + 1) 0).testBit (k % 64) = wbit W k := by unfold wbit; rw [hk2]
    rw [hb]
    by_cases hin : k / w = i
    · rw [if_pos hin, hmod hin]
      have h1 := hd.1 hin
      generalize i * w = A at *
      rw [decide_eq_true (show 64 - o + k % 64 < w by omega), show 64 - o + k % 64 = k - A from by omega]
      simp
    · rw [if_neg hin]
      have h1 : ¬ (i * w ≤ k ∧ k < i * w + w) := fun h2 => hin (hd.2 h2)
      generalize i * w = A at *
      have h3 : n.testBit (64 - o + k % 64) = false := fits_bit hn (by omega)
      rw [h3, decide_eq_false (show ¬ 64 - o + k % 64 < w by omega)]; simp
  · rw [if_neg hk2]
    by_cases hk : k / 64 = q
    · rw [if_pos hk, layLo_bit (wget_lt h.lt q) _ (Nat.mod_lt _ (by decide))]
      have hb : (W.getD q 0).testBit (k % 64) = wbit W k := by unfold wbit; rw [hk]
      rw [hb]
      by_cases hin : k / w = i
      · rw [if_pos hin, hmod hin]
        have h1 := hd.1 hin
        generalize i * w = A at *
        rw [decide_eq_true (show o ≤ k % 64 by omega), decide_eq_true (show k % 64 - o < w by omega), show k % 64 - o = k - A from by omega]
        simp
      · rw [if_neg hin]
        have h1 : ¬ (i * w ≤ k ∧ k < i * w + w) := fun h2 => hin (hd.2 h2)
        generalize i * w = A at *
        by_cases h2 : o ≤ k % 64
        · have h3 : n.testBit (k % 64 - o) = false := fits_bit hn (by omega)
          rw [h3, decide_eq_true h2, decide_eq_false (show ¬ k % 64 - o < w by omega)]; simp
        · rw [decide_eq_false h2]; simp
    · rw [if_neg hk]
      have h1 : ¬ k / w = i := fun h2 => by
        have h3 := hd.1 h2
        generalize i * w = A at *
        omega
      rw [if_neg h1]
/-- More words, all 0. -/
theorem wbit_more (W : List Nat) (n k : Nat) : wbit (W ++ List.replicate n 0) k = wbit W k := by
  unfold wbit
  rw [getD_zeros]
theorem Wd.grow (h : Wd w l W) (n m : Nat) (hm : m = (w * (l.length + n) + 63) / 64) : Wd w (l ++ List.replicate n 0) (W ++ List.replicate (m - W.length) 0) := by
  refine ⟨?_, fun x hx => ?_, fun k => by rw [wbit_more, bitP_zeros, h.bit]⟩
  · rw [List.length_append, List.length_append, List.length_replicate, List.length_replicate, h.len, hm, Nat.mul_add]
    generalize w * l.length = A
    generalize w * n = C
    omega
  · rcases List.mem_append.1 hx with h1 | h1
    · exact h.lt x h1
    · rw [List.mem_replicate] at h1; omega
theorem Wd.none (w : Nat) : Wd w [] [] := ⟨by simp, (fun _ h => by cases h), fun k => by unfold wbit bitP; simp⟩

/-- A word's byte. -/
theorem Wd.byte (h : Wd w l W) (t : Nat) : W.getD (t / 8) 0 >>> (8 * (t % 8)) % 256 = accB (bitP w l) (8 * t) 8 := by
  apply byte_ext (Nat.mod_lt _ (by decide)) (accB_lt _ _ 8)
  intro j hj
  rw [show (256 : Nat) = 2 ^ 8 from rfl, Nat.testBit_mod_two_pow, Nat.testBit_shiftRight, accB_bit _ _ 8 j (Nat.le_refl _) hj, ← h.bit]
  unfold wbit
  rw [show (8 * t + (8 - 8 + j)) / 64 = t / 8 from by omega, show (8 * t + (8 - 8 + j)) % 64 = 8 * (t % 8) + j from by omega]
  simp [hj]
/-- Bytes laid into words, one by one: the bits of the first k bytes. -/
def Laid (f : Nat → Bool) (k : Nat) (V : List Nat) : Prop := (∀ x ∈ V, x < 18446744073709551616) ∧ ∀ i, wbit V i = (decide (i < 8 * k) && f i)
theorem Laid.step {f : Nat → Bool} {k : Nat} {V : List Nat} (h : Laid f k V) (hq : k / 8 < V.length) : Laid f (k + 1) (V.set (k / 8) (V.getD (k / 8) 0 ||| accB f (8 * k) 8 <<< (8 * (k % 8)) % 18446744073709551616)) := by
  refine ⟨wset_lt h.1 (or_lt64 (wget_lt h.1 _) (mod64_lt _)), fun i => ?_⟩
  rw [wbit_word hq]
  by_cases hi : i / 64 = k / 8
  · rw [if_pos hi, Nat.testBit_or, ← W64, Nat.testBit_mod_two_pow, Nat.testBit_shiftLeft]
    have hb : (V.getD (k / 8) 0).testBit (i % 64) = wbit V i := by unfold wbit; rw [hi]
    rw [hb, h.2 i, decide_eq_true (show i % 64 < 64 by omega)]
    by_cases h1 : i < 8 * k
    · rw [decide_eq_false (show ¬ 8 * (k % 8) ≤ i % 64 by omega), decide_eq_true h1, decide_eq_true (show i < 8 * (k + 1) by omega)]; simp
    · rw [decide_eq_false h1, decide_eq_true (show 8 * (k % 8) ≤ i % 64 by omega)]
      by_cases h2 : i < 8 * (k + 1)
      · rw [accB_bit _ _ 8 _ (Nat.le_refl _) (by omega), decide_eq_true h2, show 8 * k + (8 - 8 + (i % 64 - 8 * (k % 8))) = i from by omega]; simp
      · have : (accB f (8 * k) 8).testBit (i % 64 - 8 * (k % 8)) = false := fits_bit (accB_lt f _ 8) (by omega)
        rw [this, decide_eq_false h2]; simp
  · rw [if_neg hi, h.2 i]
    by_cases h1 : i < 8 * k
    · rw [decide_eq_true h1, decide_eq_true (show i < 8 * (k + 1) by omega)]
    · rw [decide_eq_false h1, decide_eq_false (show ¬ i < 8 * (k + 1) by omega)]
theorem Laid.zero (f : Nat → Bool) (n : Nat) : Laid f 0 (List.replicate n 0) := ⟨fun x hx => by rw [List.mem_replicate] at hx; omega, fun i => by rw [wbit_zeros]; simp⟩
theorem Laid.all {V : List Nat} {k : Nat} (h : Laid (bitP w l) k V) (hw : 0 < w) (hk : w * l.length ≤ 8 * k) (hl : V.length = (w * l.length + 63) / 64) : Wd w l V := by
  refine ⟨hl, h.1, fun i => ?_⟩
  rw [h.2 i]
  by_cases h1 : i < 8 * k
  · simp [h1]
  · rw [bitP_far hw (by omega)]; simp
/-- Behind the last number all is 0. -/
theorem Wd.end (h : Wd w l W) (hw : 0 < w) (hq : q = l.length * w / 64) (ho : o = l.length * w % 64) : W.getD q 0 >>> o = 0 := by
  apply Nat.eq_of_testBit_eq
  intro j
  rw [Nat.testBit_shiftRight, Nat.zero_testBit]
  by_cases h1 : o + j < 64
  · have h2 := h.bit (64 * q + (o + j))
    unfold wbit at h2
    rw [show (64 * q + (o + j)) / 64 = q from by omega, show (64 * q + (o + j)) % 64 = o + j from by omega] at h2
    rw [h2, bitP_far hw]
    rw [Nat.mul_comm]
    generalize l.length * w = A at *
    omega
  · exact fits_bit (w := 64) (by rw [W64]; exact wget_lt h.lt q) (by omega)
/-- The numbers' bytes. -/
def pkB (w : Nat) (l : List Nat) : List Nat := bytesB (bitP w l) (w * l.length)
theorem pkB_len (w : Nat) (l : List Nat) : (pkB w l).length = (w * l.length + 7) / 8 := bytesB_len _ _
theorem pkB_bytes (w : Nat) (l : List Nat) : Bytes (pkB w l) := bytesB_bytes _ _
end
end Go.Inc
