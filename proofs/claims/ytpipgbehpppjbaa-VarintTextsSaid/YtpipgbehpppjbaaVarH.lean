/- CONTRACTS IN THE LAWS' WORDS: what is put is got; the same bytes; one number put. -/
import Derived.Test.YtpipgbehpppjbaaVarG
import Derived.Test.YtpipgbehpppjbaaOpen
namespace Go.Proofs.Ytpipgbehpppjbaa
open Go.RowKit Go.Inc

/-- A slice of bytes, wherever it lies. -/
def Bs (w : World) (v : Value) (bs : List Nat) : Prop := ∃ a c, v = .slice a bs.length c ∧ Sl (fun _ => True) w a bs ∧ bs.length ≤ c ∧ c ≤ maxLen ∧ (a = none → c = 0)
section
variable {w w' : World} {v : Value} {bs : List Nat} {E B : Nat}
theorem held (h : Row E B w v bs) : Bs w v bs := by
  obtain ⟨a, c, rfl, h1, h2, h3, h4⟩ := h.sl
  exact ⟨a, c, rfl, h4.mono fun _ _ _ => trivial, h2, h3, h1⟩
theorem Bs.below (h : Bs w v bs) (hb : Below w.heap.size w w') : Bs w' v bs := by
  obtain ⟨a, c, rfl, h1, h2⟩ := h
  exact ⟨a, c, rfl, h1.below hb, h2⟩
end

theorem same_v (v u : Value) (xs ys : List Nat) (w : World) (h1 : Bs w v xs) (h2 : Bs w u ys) (h : xs = ys) : Calls Try.prog 9 #[v, u] w fun e w' => e = .returned (.bool true) ∧ Below w.heap.size w w' := by
  obtain ⟨a, c, rfl, ha, hc, hm, _⟩ := h1
  obtain ⟨b, d, rfl, hb, _⟩ := h2
  exact same_yes _ _ a b c d xs ys w ha hb (by unfold maxLen at hm; omega) h

theorem getSigned_put (v : Value) (z : Int) (bh : List Nat) (w : World) (h : Bs w v (Var.put (Var.fold z) ++ bh)) (h0 : -9223372036854775808 ≤ z) (h1 : z ≤ 9223372036854775807) (hb : Bytes bh) (hl : bh.length ≤ 1000) :
    Calls Try.prog 8 #[v] w fun e w' => Ans (.int .i64 z) 0 bh w.heap.size e w' ∧ Below w.heap.size w w' := by
  obtain ⟨a, c, rfl, hs, hc, hm, hn⟩ := h
  have hf := Var.fold_lt h0 h1
  have hp := Var.put_ten hf
  have H := getSigned_any _ a c _ w hs ⟨hc, hm⟩ hn (Bytes.append (Var.put_bytes _) hb) (by rw [List.length_append]; omega)
  have e1 : Var.val 18446744073709551615 (Var.put (Var.fold z) ++ bh) = Var.fold z := Var.val_put (by omega) hf _
  have e2 : Var.err 18446744073709551615 (Var.put (Var.fold z) ++ bh) = 0 := Var.err_put (by omega) hf _
  have e3 : tailOf 18446744073709551615 (Var.put (Var.fold z) ++ bh) = bh := by
    unfold tailOf
    rw [if_pos e2, Var.pos_put (by omega) hf]
    exact List.drop_left
  rw [e1, e2, e3, Var.unfold_fold] at H
  exact H
theorem get_put (v : Value) (n : Nat) (z : Int) (bh : List Nat) (w : World) (h : Bs w v (Var.put n ++ bh)) (h1 : n ≤ 9223372036854775807) (hb : Bytes bh) (hl : bh.length ≤ 1000) (hz : z = n) :
    Calls Try.prog 14 #[v] w fun e w' => Ans (.int .i64 z) 0 bh w.heap.size e w' ∧ Below w.heap.size w w' := by
  subst hz
  obtain ⟨a, c, rfl, hs, hc, hm, hn⟩ := h
  have hf : n < 18446744073709551616 := by omega
  have hp := Var.put_ten hf
  have H := get_any _ a c _ w hs ⟨hc, hm⟩ hn (Bytes.append (Var.put_bytes _) hb) (by rw [List.length_append]; omega)
  have e1 : Var.val 9223372036854775807 (Var.put n ++ bh) = n := Var.val_put (by omega) hf _
  have e2 : Var.err 9223372036854775807 (Var.put n ++ bh) = 0 := Var.err_put (by omega) hf _
  have e3 : tailOf 9223372036854775807 (Var.put n ++ bh) = bh := by
    unfold tailOf
    rw [if_pos e2, Var.pos_put (by omega) hf]
    exact List.drop_left
  rw [e1, e2, e3] at H
  exact H
theorem put_one (z : Int) (w : World) (h1 : z ≤ 9223372036854775807) :
    Calls Try.prog 13 #[.slice (some ⟨w.heap.size, 0, none⟩) 1 1] (w.alloc (.cells #[.int .i64 z] 3)) fun e w' => ∃ v, e = .returned v ∧ Bs w' v (if z < 0 then [] else Var.put z.toNat) ∧ Below w.heap.size w w' := by
  have hb1 : Below w.heap.size w (w.alloc (.cells #[.int .i64 z] 3)) := (Below.refl _ _).alloc (Nat.le_refl _) _
  refine (put_any _ _ 1 [z] _ (Si.one w z 3) (by simp) (by simpa using h1)).mono ?_
  rintro e w' ⟨v, rfl, hr, hb⟩
  refine ⟨v, rfl, ?_, hb1.trans (hb.mono hb1.size)⟩
  have e1 : putOf [z] = if z < 0 then [] else Var.put z.toNat := by
    unfold putOf anyNeg
    by_cases h : z < 0 <;> simp [h, puts]
  rw [← e1]
  exact held hr
theorem put_one_neg (z : Int) (w : World) (h : z < 0) :
    Calls Try.prog 13 #[.slice (some ⟨w.heap.size, 0, none⟩) 1 1] (w.alloc (.cells #[.int .i64 z] 3)) fun e w' => ∃ a c, e = .returned (.slice a 0 c) ∧ Below w.heap.size w w' := by
  refine (put_one z w (by omega)).mono ?_
  rintro e w' ⟨v, rfl, hr, hb⟩
  rw [if_pos h] at hr
  obtain ⟨a, c, rfl, _⟩ := hr
  exact ⟨a, c, rfl, hb⟩
theorem put_one_pos (z : Int) (w : World) (h : 0 ≤ z) (h1 : z ≤ 9223372036854775807) :
    Calls Try.prog 13 #[.slice (some ⟨w.heap.size, 0, none⟩) 1 1] (w.alloc (.cells #[.int .i64 z] 3)) fun e w' => ∃ v, e = .returned v ∧ Bs w' v (Var.put z.toNat) ∧ Below w.heap.size w w' := by
  have H := put_one z w h1
  rw [if_neg (by omega)] at H
  exact H
theorem refPut_int (z : Int) (w : World) (h : 0 ≤ z) (h1 : z ≤ 9223372036854775807) :
    Calls Try.prog 10 #[.int .u64 z] w fun e w' => ∃ v', e = .returned v' ∧ Row 5 w.heap.size w' v' (Var.put z.toNat) ∧ Below w.heap.size w w' := by
  have H := refPut_any z.toNat w (by omega)
  rw [Int.toNat_of_nonneg h] at H
  exact H

/-- The numbers that aren't below 0. -/
def posOf (zs : List Int) : List Int := zs.filter fun z => decide (0 ≤ z)
/-- All their bytes. -/
def allOf (zs : List Int) (k : Nat) : List Nat := puts (posOf (zs.take k))
theorem allOf_snoc {zs : List Int} {k : Nat} (h : k < zs.length) : (zs.getD k 0 < 0 → allOf zs (k + 1) = allOf zs k) ∧ (0 ≤ zs.getD k 0 → allOf zs (k + 1) = allOf zs k ++ Var.put (zs.getD k 0).toNat) := by
  unfold allOf posOf
  rw [List.take_succ_eq_append_getElem h, List.getD_eq_getElem?_getD, List.getElem?_eq_getElem h, Option.getD_some, List.filter_append]
  constructor
  · intro h0
    have : ¬ 0 ≤ zs[k] := by omega
    simp [this]
  · intro h0
    simp [h0, puts]
theorem allOf_len {zs : List Int} (hz : ∀ z ∈ zs, z ≤ 9223372036854775807) (k : Nat) : (allOf zs k).length ≤ 10 * k := by
  unfold allOf posOf
  have h1 := puts_len ((zs.take k).filter fun z => decide (0 ≤ z)) (fun z h => hz z (List.mem_of_mem_take (List.mem_filter.1 h).1))
  have h2 := List.length_filter_le (fun z : Int => decide (0 ≤ z)) (zs.take k)
  rw [List.length_take] at h2
  omega
theorem allOf_pos {zs : List Int} {k : Nat} (h : anyNeg (zs.take k) = false) : allOf zs k = puts (zs.take k) := by
  unfold allOf posOf
  congr 1
  rw [List.filter_eq_self]
  intro z hz
  unfold anyNeg at h
  rw [List.any_eq_false] at h
  have := h z hz
  simpa using this
end Go.Proofs.Ytpipgbehpppjbaa
