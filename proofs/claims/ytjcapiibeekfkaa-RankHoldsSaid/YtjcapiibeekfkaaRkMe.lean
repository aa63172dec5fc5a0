/- PLAIN FACTS: what a row's bytes must be. No program is named here. -/
import Derived.Test.YtjcapiibeekfkaaRkMb
import Derived.Test.YtjcapiibeekfkaaVarR
namespace Go.Inc
open Go.RowKit
/-- A number that is read was put. -/
theorem Var.get_canonR (g : Nat) : ∀ (bs : List Nat) (i n v p : Nat), Bytes bs → Var.get g i n bs = (v, p, 0) → ∃ m, v = n + m * 128 ^ i ∧ p = i + (Var.put m).length ∧ bs.take (Var.put m).length = Var.put m ∧ (0 < i → 0 < m)
  | [], i, n, v, p, _, h => by rw [Var.get_nil] at h; simp at h
  | c :: bs, i, n, v, p, hb, h => by
    have hc : c < 256 := hb c (by simp)
    by_cases hbad : i = 10 ∨ (0 < i ∧ c = 0) ∨ (g - n) / 128 ^ i < c % 128
    · rw [Var.get_bad hbad] at h; simp at h
    · by_cases hl : c < 128
      · rw [Var.get_last hbad hl] at h
        simp only [Prod.mk.injEq] at h
        obtain ⟨h1, h2, -⟩ := h
        refine ⟨c, by rw [← h1, Nat.mod_eq_of_lt hl], by rw [Var.put_low hl]; simpa using h2.symm, by rw [Var.put_low hl]; rfl, fun h0 => ?_⟩
        apply Nat.pos_of_ne_zero
        intro e
        exact hbad (.inr (.inl ⟨h0, e⟩))
      · rw [Var.get_next hbad hl] at h
        obtain ⟨m, h1, h2, h3, h4⟩ := Var.get_canonR g bs (i + 1) _ v p (fun x hx => hb x (List.mem_cons_of_mem _ hx)) h
        have hm := h4 (by omega)
        have e1 : Var.put (c % 128 + 128 * m) = c :: Var.put m := by
          rw [Var.put_more (by omega)]
          congr 1
          · omega
          · congr 1; omega
        refine ⟨c % 128 + 128 * m, ?_, ?_, ?_, fun _ => by omega⟩
        · rw [h1, Nat.pow_succ, Nat.add_mul]
          generalize 128 ^ i = T
          rw [Nat.mul_comm T 128, ← Nat.mul_assoc, Nat.mul_comm m 128]
          omega
        · rw [e1, h2, List.length_cons]; omega
        · rw [e1, List.length_cons, List.take_succ_cons, h3]
theorem Var.take_valR {g : Nat} {bs : List Nat} (hb : Bytes bs) (h : Var.err g bs = 0) : bs.take (Var.pos g bs) = Var.put (Var.val g bs) := by
  obtain ⟨m, h1, h2, h3, -⟩ := Var.get_canonR g bs 0 0 (Var.val g bs) (Var.pos g bs) hb (by
    unfold Var.err at h
    exact Prod.ext rfl (Prod.ext rfl h))
  have e : Var.val g bs = m := by simpa using h1
  rw [e, h2, Nat.zero_add, h3]
theorem inB_prL (bs : List Nat) (k : Nat) : inB (prL bs) k = (decide (k < prN bs) && (bs.getD (prP bs + k / 8) 0).testBit (k % 8)) := by
  unfold inB prL
  rw [List.getD_eq_getElem?_getD, List.getElem?_map]
  by_cases h : k < prN bs
  · rw [List.getElem?_range h, decide_eq_true h]; rfl
  · rw [List.getElem?_eq_none (by rw [List.length_range]; omega), decide_eq_false h]; rfl
theorem byte_same {x y : Nat} (hx : x < 256) (hy : y < 256) (h : ∀ j, j < 8 → x.testBit j = y.testBit j) : x = y := by
  apply Nat.eq_of_testBit_eq
  intro j
  by_cases hj : j < 8
  · exact h j hj
  · have hp : (256 : Nat) ≤ 2 ^ j := by
      rw [show (256 : Nat) = 2 ^ 8 from rfl]
      exact Nat.pow_le_pow_right (by decide) (by omega)
    rw [Nat.testBit_lt_two_pow (Nat.lt_of_lt_of_le hx hp), Nat.testBit_lt_two_pow (Nat.lt_of_lt_of_le hy hp)]
/-- The bytes are the row's, just where the bits behind the last one are 0. -/
theorem rowBs_iff {bs : List Nat} (hby : Bytes bs) (he : Var.err 9223372036854775807 bs = 0) (hl : prS bs ≤ bs.length) :
    rowBs (prL bs) = bs.take (prS bs) ↔ ∀ k, prN bs ≤ k → k < 8 * ((prN bs + 7) / 8) → (bs.getD (prP bs + k / 8) 0).testBit (k % 8) = false := by
  have hpl : (prL bs).length = prN bs := by unfold prL; simp
  have h1 : bs.take (prP bs) = Var.put (prN bs) := Var.take_valR hby he
  have hpp : prP bs = (Var.put (prN bs)).length := by
    have h := congrArg List.length h1
    rw [List.length_take] at h
    unfold prS at hl
    omega
  have e1 : bs.take (prS bs) = Var.put (prN bs) ++ (bs.drop (prP bs)).take ((prN bs + 7) / 8) := by
    unfold prS
    rw [List.take_add, h1]
  unfold rowBs
  rw [hpl, e1]
  have hd : ∀ q, q < (prN bs + 7) / 8 → ((bs.drop (prP bs)).take ((prN bs + 7) / 8))[q]? = some (bs.getD (prP bs + q) 0) := fun q hq => by
    have : prP bs + q < bs.length := by unfold prS at hl; omega
    rw [List.getElem?_take_of_lt hq, List.getElem?_drop, List.getElem?_eq_getElem this, List.getD_eq_getElem?_getD, List.getElem?_eq_getElem this]; rfl
  have hb : ∀ q, q < (prN bs + 7) / 8 → (bytesB (inB (prL bs)) (prN bs))[q]? = some (accB (inB (prL bs)) (8 * q) 8) := fun q hq => by
    unfold bytesB
    rw [List.getElem?_map, List.getElem?_range hq]; rfl
  have hbit : ∀ q j, j < 8 → (accB (inB (prL bs)) (8 * q) 8).testBit j = (decide (8 * q + j < prN bs) && (bs.getD (prP bs + q) 0).testBit j) := fun q j hj => by
    rw [accB_bit _ _ 8 j (Nat.le_refl _) hj, inB_prL, show 8 * q + (8 - 8 + j) = 8 * q + j from by omega, show (8 * q + j) / 8 = q from by omega, show (8 * q + j) % 8 = j from by omega]
  constructor
  · intro h k hk1 hk2
    have h2 := List.append_cancel_left h
    have h3 := congrArg (fun l => l[k / 8]?) h2
    replace h3 : (accB (inB (prL bs)) (8 * (k / 8)) 8 |> some) = some (bs.getD (prP bs + k / 8) 0) := by
      have h3' : (bytesB (inB (prL bs)) (prN bs))[k / 8]? = ((bs.drop (prP bs)).take ((prN bs + 7) / 8))[k / 8]? := h3
      rw [hd _ (by omega), hb _ (by omega)] at h3'
      exact h3'
    have h4 := hbit (k / 8) (k % 8) (Nat.mod_lt _ (by decide))
    rw [Option.some.inj h3, show 8 * (k / 8) + k % 8 = k from by omega, decide_eq_false (by omega), Bool.false_and] at h4
    exact h4
  · intro h
    congr 1
    apply List.ext_getElem?
    intro q
    by_cases hq : q < (prN bs + 7) / 8
    · rw [hd q hq, hb q hq]
      congr 1
      refine byte_same (accB_lt _ _ 8) (hby.getD _) fun j hj => ?_
      rw [hbit q j hj]
      by_cases hj2 : 8 * q + j < prN bs
      · rw [decide_eq_true hj2, Bool.true_and]
      · have h5 := h (8 * q + j) (by omega) (by omega)
        rw [show (8 * q + j) / 8 = q from by omega, show (8 * q + j) % 8 = j from by omega] at h5
        rw [h5, decide_eq_false hj2, Bool.false_and]
    · rw [List.getElem?_eq_none (by rw [bytesB_len]; omega), List.getElem?_eq_none (by rw [List.length_take]; omega)]
/-- The same, of the last byte alone. -/
theorem rowBs_last {bs : List Nat} (hby : Bytes bs) (he : Var.err 9223372036854775807 bs = 0) (hl : prS bs ≤ bs.length) :
    rowBs (prL bs) = bs.take (prS bs) ↔ (prN bs % 8 = 0 ∨ bs.getD (prP bs + prN bs / 8) 0 / 2 ^ (prN bs % 8) = 0) := by
  rw [rowBs_iff hby he hl]
  constructor
  · intro h
    by_cases h0 : prN bs % 8 = 0
    · exact .inl h0
    · right
      apply Nat.eq_of_testBit_eq
      intro j
      rw [Nat.zero_testBit, Nat.testBit_div_two_pow]
      by_cases hj : prN bs % 8 + j < 8
      · have h5 := h (8 * (prN bs / 8) + (prN bs % 8 + j)) (by omega) (by omega)
        rwa [show (8 * (prN bs / 8) + (prN bs % 8 + j)) / 8 = prN bs / 8 from by omega, show (8 * (prN bs / 8) + (prN bs % 8 + j)) % 8 = j + prN bs % 8 from by omega] at h5
      · have hb := hby.getD (prP bs + prN bs / 8)
        refine Nat.testBit_lt_two_pow (Nat.lt_of_lt_of_le hb ?_)
        rw [show (256 : Nat) = 2 ^ 8 from rfl]
        exact Nat.pow_le_pow_right (by decide) (by omega)
  · intro h k hk1 hk2
    rcases h with h | h
    · omega
    · have h6 := congrArg (fun x => x.testBit (k % 8 - prN bs % 8)) h
      replace h6 : (bs.getD (prP bs + prN bs / 8) 0 / 2 ^ (prN bs % 8)).testBit (k % 8 - prN bs % 8) = (0 : Nat).testBit (k % 8 - prN bs % 8) := h6
      rw [Nat.testBit_div_two_pow, Nat.zero_testBit, show k % 8 - prN bs % 8 + prN bs % 8 = k % 8 from by omega] at h6
      rw [show k / 8 = prN bs / 8 from by omega]
      exact h6
end Go.Inc
