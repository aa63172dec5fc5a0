/- PLAIN FACTS: marked bytes hold; with one byte turned they don't; turned twice they are as they were. -/
import Derived.Test.YtmdimhijbmeioaaCrcE
namespace Go.Proofs.Ytmdimhijbmeioaa
open Go.RowKit Go.Inc

theorem holds_mark (bs : List Nat) : holds (mark bs) = true := by
  unfold holds
  rw [decide_eq_true_iff, mark_len]
  refine ⟨by omega, ?_⟩
  rw [show bs.length + 4 - 4 = bs.length from by omega]
  unfold mark
  rw [List.drop_left, List.take_left]

/-- A byte that is turned by nothing is as it was; turned twice, too. -/
theorem turned_twice (bs : List Nat) (k : Int) (b : Nat) : turned (turned bs k b) k b = bs := by
  by_cases h : 0 ≤ k ∧ k < bs.length
  · obtain ⟨m, rfl⟩ := Int.eq_ofNat_of_zero_le h.1
    have hm : m < bs.length := by omega
    rw [turned_in hm, turned_in (by simpa using hm)]
    apply List.ext_getElem?
    intro i
    rw [List.getElem?_set, List.getElem?_set]
    by_cases hi : m = i
    · subst hi
      simp [hm, List.getD_eq_getElem?_getD, Nat.xor_assoc]
    · simp [hi]
  · have h1 : turned bs k b = bs := turned_out (by omega)
    rw [h1, h1]
theorem turned_zero (bs : List Nat) (k : Int) : turned bs k 0 = bs := by
  unfold turned
  split
  · rename_i h
    obtain ⟨m, rfl⟩ := Int.eq_ofNat_of_zero_le h.1
    have hm : m < bs.length := by omega
    apply List.ext_getElem?
    intro i
    rw [List.getElem?_set]
    by_cases hi : m = i
    · subst hi
      simp [hm, List.getD_eq_getElem?_getD]
    · simp [show (m : Int).toNat = m from rfl, hi]
  · rfl

theorem set_mid (bs : List Nat) (m x : Nat) (h : m < bs.length) : bs.set m x = bs.take m ++ x :: bs.drop (m + 1) := List.set_eq_take_append_cons_drop.trans (by rw [if_pos h])

/-- A marked list with one byte turned holds no more. -/
theorem holds_turned (bs : List Nat) (hby : Bytes bs) (m b : Nat) (hm : m < (mark bs).length) (hb : b < 256) (hb0 : b ≠ 0) : holds (turned (mark bs) m b) = false := by
  rw [turned_in hm]
  unfold holds
  rw [decide_eq_false_iff_not, List.length_set, mark_len]
  rintro ⟨_, h⟩
  rw [show bs.length + 4 - 4 = bs.length from by omega] at h
  rw [mark_len] at hm
  by_cases hin : m < bs.length
  · have e1 : (mark bs).getD m 0 = bs.getD m 0 := by
      unfold mark
      simp only [List.getD_eq_getElem?_getD, List.getElem?_append_left hin]
    have e2 : (mark bs).set m ((mark bs).getD m 0 ^^^ b) = bs.set m (bs.getD m 0 ^^^ b) ++ low (Crc.sum bs) := by
      rw [e1]
      unfold mark
      rw [List.set_append_left _ _ hin]
    rw [e2, List.drop_left' (by simp), List.take_left' (by simp)] at h
    have h := low_inj h
    have hx := hby.getD m
    have e3 : bs = bs.take m ++ bs.getD m 0 :: bs.drop (m + 1) := by
      rw [← set_mid bs m _ hin]
      apply List.ext_getElem?
      intro i
      rw [List.getElem?_set]
      by_cases hi : m = i
      · subst hi; simp [hin, List.getD_eq_getElem?_getD]
      · simp [hi]
    rw [set_mid bs m _ hin] at h
    conv at h => lhs; rw [e3]
    have := Crc.sum_turned (hby.take m) (hby.drop (m + 1)) hx (Nat.xor_lt_two_pow (n := 8) hx hb) h
    have h2 : bs.getD m 0 ^^^ (bs.getD m 0 ^^^ b) = bs.getD m 0 ^^^ bs.getD m 0 := by rw [← this]
    rw [← Nat.xor_assoc, Nat.xor_self, Nat.zero_xor] at h2
    exact hb0 h2
  · obtain ⟨j, rfl⟩ : ∃ j, m = bs.length + j := ⟨m - bs.length, by omega⟩
    have hj : j < (low (Crc.sum bs)).length := by
      have : (low (Crc.sum bs)).length = 4 := rfl
      omega
    have e2 : (mark bs).set (bs.length + j) ((mark bs).getD (bs.length + j) 0 ^^^ b) = bs ++ (low (Crc.sum bs)).set j ((low (Crc.sum bs)).getD j 0 ^^^ b) := by
      unfold mark
      rw [List.set_append_right _ _ (by omega), List.getD_eq_getElem?_getD, List.getD_eq_getElem?_getD, List.getElem?_append_right (by omega)]
      rw [show bs.length + j - bs.length = j from by omega]
    rw [e2, List.drop_left, List.take_left] at h
    have h2 := congrArg (fun l => l.getD j 0) h
    simp only [List.getD_eq_getElem?_getD, List.getElem?_set_self hj, Option.getD_some] at h2
    generalize (low (Crc.sum bs))[j]?.getD 0 = x at h2
    have h3 : x ^^^ (x ^^^ b) = x ^^^ x := by rw [h2]
    rw [← Nat.xor_assoc, Nat.xor_self, Nat.zero_xor] at h3
    exact hb0 h3

theorem own_cap {w : World} {B e n c m : Nat} {a : Option Addr} {x : List Value} (h : w.ownsRow B e 1 (.slice a n c) m x) : n ≤ c ∧ c ≤ maxLen := by
  rcases h.2 with ⟨h, _⟩ | ⟨g, cap', cur, h, _, _, h1, h2, _⟩
  · simp only [Value.slice.injEq] at h
    unfold maxLen
    omega
  · simp only [Value.slice.injEq] at h
    omega
end Go.Proofs.Ytmdimhijbmeioaa

