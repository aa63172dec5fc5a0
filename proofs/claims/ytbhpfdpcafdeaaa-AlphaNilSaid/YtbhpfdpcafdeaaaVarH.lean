/- CONTRACTS IN THE LAWS' WORDS: what is put is got; the same bytes; one number put. -/
import Derived.Test.YtbhpfdpcafdeaaaVarG
import Derived.Test.YtbhpfdpcafdeaaaOpen
namespace Go.Proofs.Ytbhpfdpcafdeaaa
open Go.RowKit Go.Inc

/-- A slice of bytes, wherever it lies. -/
def Bs (w : World) (v : Value) (bs : List Nat) : Prop := ∃ a c, v = .slice a bs.length c ∧ Sl (fun _ => True) w a bs ∧ bs.length ≤ c ∧ c ≤ maxLen ∧ (a = none → c = 0)
section
variable {w w' : World} {v : Value} {bs : List Nat} {E B : Nat}
theorem held (h : Row E B w v bs) : Bs w v bs := by
  obtain ⟨a, c, rfl, h1, h2, h3, h4⟩ := h.sl
  exact ⟨a, c, rfl, h4.mono fun _ _ _ => trivial, h2, h3, h1⟩
theorem Bs.below (h : Bs w v bs) (hb : Below w.heap.size w w') : Bs w' v bs := by
  obtain ⟨a, c, rfl, h1, h2⟩ := h
  exact ⟨a, c, rfl, h1.below hb, h2⟩
end

theorem same_v (v u : Value) (xs ys : List Nat) (w : World) (h1 : Bs w v xs) (h2 : Bs w u ys) (h : xs = ys) : Calls Try.prog 28 #[v, u] w fun e w' => e = .returned (.bool true) ∧ Below w.heap.size w w' := by
  obtain ⟨a, c, rfl, ha, hc, hm, _⟩ := h1
  obtain ⟨b, d, rfl, hb, _⟩ := h2
  exact same_yes _ _ a b c d xs ys w ha hb (by unfold maxLen at hm; omega) h

theorem put_one (z : Int) (w : World) (h1 : z ≤ 9223372036854775807) :
    Calls Try.prog 59 #[.slice (some ⟨w.heap.size, 0, none⟩) 1 1] (w.alloc (.cells #[.int .i64 z] 3)) fun e w' => ∃ v, e = .returned v ∧ Bs w' v (if z < 0 then [] else Var.put z.toNat) ∧ Below w.heap.size w w' := by
  have hb1 : Below w.heap.size w (w.alloc (.cells #[.int .i64 z] 3)) := (Below.refl _ _).alloc (Nat.le_refl _) _
  refine (put_any _ _ 1 [z] _ (Si.one w z 3) (by simp) (by simpa using h1)).mono ?_
  rintro e w' ⟨v, rfl, hr, hb⟩
  refine ⟨v, rfl, ?_, hb1.trans (hb.mono hb1.size)⟩
  have e1 : putOf [z] = if z < 0 then [] else Var.put z.toNat := by
    unfold putOf anyNeg
    by_cases h : z < 0 <;> simp [h, puts]
  rw [← e1]
  exact held hr
theorem put_one_pos (z : Int) (w : World) (h : 0 ≤ z) (h1 : z ≤ 9223372036854775807) :
    Calls Try.prog 59 #[.slice (some ⟨w.heap.size, 0, none⟩) 1 1] (w.alloc (.cells #[.int .i64 z] 3)) fun e w' => ∃ v, e = .returned v ∧ Bs w' v (Var.put z.toNat) ∧ Below w.heap.size w w' := by
  have H := put_one z w h1
  rw [if_neg (by omega)] at H
  exact H
end Go.Proofs.Ytbhpfdpcafdeaaa

