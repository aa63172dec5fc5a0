/- PLAIN FACTS: when bytes are a frame's, in the document's words. -/
import Derived.Test.YtmdimhijbmeioaaFrMath
namespace Go.Proofs.Ytmdimhijbmeioaa
open Go.RowKit Go.Inc

/-- The numbers that stand at the head. -/
theorem picked_nums {bs : List Nat} (h : bs.length = 256) : (picked bs).k = (bs.getD 1 0 : Nat) ∧ (picked bs).e = ((bs.getD 2 0 + 256 * bs.getD 3 0 + 65536 * bs.getD 4 0 + 16777216 * bs.getD 5 0 : Nat) : Int) ∧ (picked bs).p = ((bs.getD 6 0 + 256 * bs.getD 7 0 : Nat) : Int) ∧ frN bs = bs.getD 8 0 + 256 * bs.getD 9 0 := by
  have g : ∀ i j x, i + j ≤ 256 → x < j → (frAt bs i j).getD x 0 = bs.getD (i + x) 0 := fun i j x _ hx => frAt_get hx
  have l1 := of_len1 (l := frAt bs 1 1) (frAt_len (by omega))
  have l6 := of_len2 (l := frAt bs 6 2) (frAt_len (by omega))
  have l8 := of_len2 (l := frAt bs 8 2) (frAt_len (by omega))
  have l2 := last_four (l := frAt bs 2 4) (frAt_len (by omega))
  refine ⟨?_, ?_, ?_, ?_⟩
  · show ((Var.num (frAt bs 1 1) : Nat) : Int) = _
    rw [l1, num1, g 1 1 0 (by omega) (by omega)]
  · show ((Var.num (frAt bs 2 4) : Nat) : Int) = _
    rw [l2, num4, g 2 4 0 (by omega) (by omega), g 2 4 1 (by omega) (by omega), g 2 4 2 (by omega) (by omega), g 2 4 3 (by omega) (by omega)]
  · show ((Var.num (frAt bs 6 2) : Nat) : Int) = _
    rw [l6, num2, g 6 2 0 (by omega) (by omega), g 6 2 1 (by omega) (by omega)]
  · unfold frN
    rw [l8, num2, g 8 2 0 (by omega) (by omega), g 8 2 1 (by omega) (by omega)]

theorem zeros_iff {bs : List Nat} (h : bs.length = 256) {n : Nat} (hn : n ≤ 238) : frAt bs (10 + n) (238 - n) = List.replicate (238 - n) 0 ↔ ∀ i, 10 + n ≤ i → i < 248 → bs.getD i 0 = 0 := by
  constructor
  · intro he i h1 h2
    have := frAt_get (bs := bs) (i := 10 + n) (j := 238 - n) (x := i - (10 + n)) (by omega)
    rw [he] at this
    rw [show 10 + n + (i - (10 + n)) = i from by omega] at this
    rw [← this, List.getD_eq_getElem?_getD, List.getElem?_replicate]
    split <;> rfl
  · intro hz
    apply List.ext_getElem
    · rw [frAt_len (by omega), List.length_replicate]
    · intro i h1 h2
      rw [frAt_len (by omega)] at h1
      have hg := frAt_get (bs := bs) (i := 10 + n) (j := 238 - n) (x := i) h1
      rw [hz (10 + n + i) (by omega) (by omega)] at hg
      rw [List.getElem_replicate]
      rw [List.getD_eq_getElem?_getD, List.getElem?_eq_getElem (by rw [frAt_len (by omega)]; exact h1)] at hg
      exact hg

def refOk (bs : List Nat) : Prop := bs.getD 0 0 = 241 ∧ frN bs ≤ 238 ∧ 1 ≤ (picked bs).k ∧ (picked bs).k ≤ 9 ∧ (picked bs).p ≤ 2047 ∧ (∀ i, 10 + frN bs ≤ i → i < 248 → bs.getD i 0 = 0) ∧ frAt bs 248 4 = frAt bs 2 4
theorem refOk_iff {bs : List Nat} (h : bs.length = 256) (hb : Bytes bs) : (chk (picked bs) = 0 ∧ laid (picked bs) = bs.take 252) ↔ refOk bs := by
  have hpl := picked_len h
  have he : (picked bs).e ≤ 4294967295 ∧ 0 ≤ (picked bs).e ∧ 0 ≤ (picked bs).p := by
    have h4 := num_lt4 (l := frAt bs 2 4) (frAt_len (by omega)) (frAt_bytes hb _ _)
    have e1 : (picked bs).e = (Var.num (frAt bs 2 4) : Nat) := rfl
    have e2 : (picked bs).p = (Var.num (frAt bs 6 2) : Nat) := rfl
    rw [e1, e2]
    omega
  rw [chk_zero, form_laid h hb]
  unfold Fr.ok Form refOk
  constructor
  · rintro ⟨⟨a1, a2, _, _, _, a6, _⟩, b1, b2, b3, b4⟩
    exact ⟨b1, b2, a1, a2, a6, (zeros_iff h b2).1 b3, b4⟩
  · rintro ⟨b1, b2, a1, a2, a6, b3, b4⟩
    exact ⟨⟨a1, a2, he.2.1, he.1, he.2.2, a6, by omega⟩, b1, b2, (zeros_iff h b2).2 b3, b4⟩
theorem decE_ok {bs : List Nat} (h : bs.length = 256) (hb : Bytes bs) (hh : holds bs = true) (hr : refOk bs) : decE bs = 0 := by
  unfold decE
  rw [if_neg (by omega), if_neg (by rw [hh]; simp), if_pos ((refOk_iff h hb).2 hr)]
theorem decE_no {bs : List Nat} (h : bs.length = 256) (hb : Bytes bs) (hh : holds bs = true) (hr : ¬ refOk bs) : decE bs = 3 := by
  unfold decE
  rw [if_neg (by omega), if_neg (by rw [hh]; simp), if_neg (fun hx => hr ((refOk_iff h hb).1 hx))]
theorem decF_ok {bs : List Nat} (h : decE bs = 0) : decF bs = picked bs := by unfold decF; rw [if_pos h]
theorem holds_256 {bs : List Nat} (h : bs.length = 256) : holds bs = decide (bs.drop 252 = low (Crc.sum (bs.take 252))) := by
  unfold holds
  rw [h]
  by_cases hx : bs.drop 252 = low (Crc.sum (bs.take 252)) <;> simp [hx]
end Go.Proofs.Ytmdimhijbmeioaa
