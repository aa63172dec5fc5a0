/- CONTRACTS IN THE LAWS' WORDS: what is put is got; the same bytes; one number put. -/
import Derived.Test.YtjcapiibeekfkaaVarG
import Derived.Test.YtjcapiibeekfkaaOpen
namespace Go.Proofs.Ytjcapiibeekfkaa
open Go.RowKit Go.Inc

/-- A slice of bytes, wherever it lies. -/
def Bs (w : World) (v : Value) (bs : List Nat) : Prop := ∃ a c, v = .slice a bs.length c ∧ Sl (fun _ => True) w a bs ∧ bs.length ≤ c ∧ c ≤ maxLen ∧ (a = none → c = 0)
section
variable {w w' : World} {v : Value} {bs : List Nat} {E B : Nat}
theorem held (h : Row E B w v bs) : Bs w v bs := by
  obtain ⟨a, c, rfl, h1, h2, h3, h4⟩ := h.sl
  exact ⟨a, c, rfl, h4.mono fun _ _ _ => trivial, h2, h3, h1⟩
theorem Bs.below (h : Bs w v bs) (hb : Below w.heap.size w w') : Bs w' v bs := by
  obtain ⟨a, c, rfl, h1, h2⟩ := h
  exact ⟨a, c, rfl, h1.below hb, h2⟩
end

theorem same_v (v u : Value) (xs ys : List Nat) (w : World) (h1 : Bs w v xs) (h2 : Bs w u ys) (h : xs = ys) : Calls Try.prog 24 #[v, u] w fun e w' => e = .returned (.bool true) ∧ Below w.heap.size w w' := by
  obtain ⟨a, c, rfl, ha, hc, hm, _⟩ := h1
  obtain ⟨b, d, rfl, hb, _⟩ := h2
  exact same_yes _ _ a b c d xs ys w ha hb (by unfold maxLen at hm; omega) h

theorem get_put (v : Value) (n : Nat) (z : Int) (bh : List Nat) (w : World) (h : Bs w v (Var.put n ++ bh)) (h1 : n ≤ 9223372036854775807) (hb : Bytes bh) (hl : bh.length ≤ 1000) (hz : z = n) :
    Calls Try.prog 37 #[v] w fun e w' => Ans (.int .i64 z) 0 bh w.heap.size e w' ∧ Below w.heap.size w w' := by
  subst hz
  obtain ⟨a, c, rfl, hs, hc, hm, hn⟩ := h
  have hf : n < 18446744073709551616 := by omega
  have hp := Var.put_ten hf
  have H := get_any _ a c _ w hs ⟨hc, hm⟩ hn (Bytes.append (Var.put_bytes _) hb) (by rw [List.length_append]; omega)
  have e1 : Var.val 9223372036854775807 (Var.put n ++ bh) = n := Var.val_put (by omega) hf _
  have e2 : Var.err 9223372036854775807 (Var.put n ++ bh) = 0 := Var.err_put (by omega) hf _
  have e3 : tailOf 9223372036854775807 (Var.put n ++ bh) = bh := by
    unfold tailOf
    rw [if_pos e2, Var.pos_put (by omega) hf]
    exact List.drop_left
  rw [e1, e2, e3] at H
  exact H
theorem put_one (z : Int) (w : World) (h1 : z ≤ 9223372036854775807) :
    Calls Try.prog 44 #[.slice (some ⟨w.heap.size, 0, none⟩) 1 1] (w.alloc (.cells #[.int .i64 z] 3)) fun e w' => ∃ v, e = .returned v ∧ Bs w' v (if z < 0 then [] else Var.put z.toNat) ∧ Below w.heap.size w w' := by
  have hb1 : Below w.heap.size w (w.alloc (.cells #[.int .i64 z] 3)) := (Below.refl _ _).alloc (Nat.le_refl _) _
  refine (put_any _ _ 1 [z] _ (Si.one w z 3) (by simp) (by simpa using h1)).mono ?_
  rintro e w' ⟨v, rfl, hr, hb⟩
  refine ⟨v, rfl, ?_, hb1.trans (hb.mono hb1.size)⟩
  have e1 : putOf [z] = if z < 0 then [] else Var.put z.toNat := by
    unfold putOf anyNeg
    by_cases h : z < 0 <;> simp [h, puts]
  rw [← e1]
  exact held hr
theorem put_one_pos (z : Int) (w : World) (h : 0 ≤ z) (h1 : z ≤ 9223372036854775807) :
    Calls Try.prog 44 #[.slice (some ⟨w.heap.size, 0, none⟩) 1 1] (w.alloc (.cells #[.int .i64 z] 3)) fun e w' => ∃ v, e = .returned v ∧ Bs w' v (Var.put z.toNat) ∧ Below w.heap.size w w' := by
  have H := put_one z w h1
  rw [if_neg (by omega)] at H
  exact H
end Go.Proofs.Ytjcapiibeekfkaa

