/- CONTRACTS: a device's power; its tally; small functions. -/
import Derived.Test.YtmdimhijbmeioaaRows
import Derived.Test.YtmdimhijbmeioaaDevLib
import Derived.Deep.QuietTactic
import Derived.BigQuiet
import Derived.Laws.LoneSync
namespace Go.Proofs.Ytmdimhijbmeioaa
open Go.RowKit Go.Inc

/-- A device's cells. -/
def devRow (on armed : Bool) (left : Int) (lv mv : Value) (r s t : Int) : Array Value := #[.bool on, .bool armed, .int .i64 left, lv, mv, .int .i64 r, .int .i64 s, .int .i64 t]
/-- .. in a row. -/
def DevRow (w : World) (g : Nat) (on armed : Bool) (left : Int) (lv mv : Value) (r s t : Int) : Prop := w.heap[g]? = some (.cells (devRow on armed left lv mv r s t) 97 (0, 0))

section
variable {w : World} {g : Nat} {on armed : Bool} {left : Int} {lv mv : Value} {r s t : Int}
theorem DevRow.c0 (h : DevRow w g on armed left lv mv r s t) : w.cell? ⟨g, 0, none⟩ = some (.bool on) := cell_of_row w g 0 _ _ _ h
theorem DevRow.c1 (h : DevRow w g on armed left lv mv r s t) : w.cell? ⟨g, 1, none⟩ = some (.bool armed) := cell_of_row w g 1 _ _ _ h
theorem DevRow.c2 (h : DevRow w g on armed left lv mv r s t) : w.cell? ⟨g, 2, none⟩ = some (.int .i64 left) := cell_of_row w g 2 _ _ _ h
theorem DevRow.c3 (h : DevRow w g on armed left lv mv r s t) : w.cell? ⟨g, 3, none⟩ = some lv := cell_of_row w g 3 _ _ _ h
theorem DevRow.c4 (h : DevRow w g on armed left lv mv r s t) : w.cell? ⟨g, 4, none⟩ = some mv := cell_of_row w g 4 _ _ _ h
theorem DevRow.c5 (h : DevRow w g on armed left lv mv r s t) : w.cell? ⟨g, 5, none⟩ = some (.int .i64 r) := cell_of_row w g 5 _ _ _ h
theorem DevRow.c6 (h : DevRow w g on armed left lv mv r s t) : w.cell? ⟨g, 6, none⟩ = some (.int .i64 s) := cell_of_row w g 6 _ _ _ h
theorem row_set {w : World} {g : Nat} {cs cs' : Array Value} {T : TypeId} (h : w.heap[g]? = some (.cells cs T (0, 0))) (i : Nat) (v : Value) (he : cs.setIfInBounds i v = cs') : (w.setCell ⟨g, i, none⟩ v).heap[g]? = some (.cells cs' T (0, 0)) := by
  rw [heap_setCell_same w g i _ _ _ h, he]
theorem DevRow.s0 (h : DevRow w g on armed left lv mv r s t) (x : Bool) : DevRow (w.setCell ⟨g, 0, none⟩ (.bool x)) g x armed left lv mv r s t := row_set h 0 _ (by simp [devRow])
theorem DevRow.s1 (h : DevRow w g on armed left lv mv r s t) (x : Bool) : DevRow (w.setCell ⟨g, 1, none⟩ (.bool x)) g on x left lv mv r s t := row_set h 1 _ (by simp [devRow])
theorem DevRow.s2 (h : DevRow w g on armed left lv mv r s t) (x : Int) : DevRow (w.setCell ⟨g, 2, none⟩ (.int .i64 x)) g on armed x lv mv r s t := row_set h 2 _ (by simp [devRow])
theorem DevRow.s5 (h : DevRow w g on armed left lv mv r s t) (x : Int) : DevRow (w.setCell ⟨g, 5, none⟩ (.int .i64 x)) g on armed left lv mv x s t := row_set h 5 _ (by simp [devRow])
theorem DevRow.s6 (h : DevRow w g on armed left lv mv r s t) (x : Int) : DevRow (w.setCell ⟨g, 6, none⟩ (.int .i64 x)) g on armed left lv mv r x t := row_set h 6 _ (by simp [devRow])
theorem DevRow.fz (h : DevRow w g on armed left lv mv r s t) (i : Nat) : w.frozen? ⟨g, i, none⟩ = false := frozen_of_row w g i _ _ h
end

theorem cut_any (w : World) (g : Nat) (on armed : Bool) (left : Int) (lv mv : Value) (r s t : Int) (h : DevRow w g on armed left lv mv r s t) :
    Calls Try.prog 59 #[.pointer (some ⟨g, 0, none⟩)] w fun e w' => e = .returned (.tuple #[]) ∧ DevRow w' g false armed left lv mv r s t ∧ w.grownBy w' (some g) := by
  have c0 := h.c0
  have f0 := h.fz 0
  have H := hid h
  clear h
  go_enter Try.func59, Try.ntmps59
  go_wp2
  go_end0
  exact ⟨rfl, H.out.s0 false, grown_setCell (grown_refl _ _) (.inl rfl) _⟩

theorem light_any (w : World) (g : Nat) (on armed : Bool) (left : Int) (lv mv : Value) (r s t : Int) (h : DevRow w g on armed left lv mv r s t) :
    Calls Try.prog 48 #[.pointer (some ⟨g, 0, none⟩)] w fun e w' => e = .returned (.tuple #[]) ∧ DevRow w' g true false 0 lv mv r s t ∧ w.grownBy w' (some g) := by
  have c0 := h.c0
  have f0 := h.fz 0
  have c1 := h.c1
  have f1 := h.fz 1
  have c2 := h.c2
  have f2 := h.fz 2
  have H := hid h
  clear h
  go_enter Try.func48, Try.ntmps48
  go_wp2
  go_end0
  have h1 := H.out.s0 true
  have h2 := h1.s1 false
  have h3 := h2.s2 0
  have g1 : w.grownBy (w.setCell ⟨g, 0, none⟩ (.bool true)) (some g) := grown_setCell (grown_refl _ _) (.inl rfl) _
  have g2 := grown_setCell g1 (p := ⟨g, 1, none⟩) (.inl rfl) (.bool false)
  have g3 := grown_setCell g2 (p := ⟨g, 2, none⟩) (.inl rfl) (.int .i64 0)
  exact ⟨rfl, h3, g3⟩

/-- Is one more let be done; what is left then. -/
def spendOk (armed : Bool) (left : Int) : Bool := !(armed && decide (left = 0))
def spendLeft (armed : Bool) (left : Int) : Int := if armed = true ∧ left ≠ 0 then left - 1 else left

theorem spend_any (w : World) (g : Nat) (on armed : Bool) (left : Int) (lv mv : Value) (r s t : Int) (h : DevRow w g on armed left lv mv r s t) (hl : 0 ≤ left ∧ left ≤ 9223372036854775807 ∨ armed = false) :
    Calls Try.prog 51 #[.pointer (some ⟨g, 0, none⟩)] w fun e w' => e = .returned (.bool (spendOk armed left)) ∧ DevRow w' g (on && spendOk armed left) armed (spendLeft armed left) lv mv r s t ∧ w.grownBy w' (some g) := by
  have c1 := h.c1
  have c2 := h.c2
  have f2 := h.fz 2
  have H := hid h
  clear h
  go_enter Try.func51, Try.ntmps51
  cases armed with
  | false =>
    go_wp2
    go_ret
    exact ⟨rfl, by simpa [spendOk, spendLeft] using H.out, grown_refl _ _⟩
  | true =>
    have hl : 0 ≤ left ∧ left ≤ 9223372036854775807 := by rcases hl with h | h; exact h; cases h
    by_cases h0 : left = 0
    · subst h0
      have HC := hid (cut_any w g on true 0 lv mv r s t H.out)
      go_wp2_with fail
      refine HC.out.mono ?_
      rintro e w1 ⟨rfl, h1, h2⟩
      have H1 := hid h1
      have H2 := hid h2
      clear h1 h2 HC
      go_wp2_with fail
      go_ret
      exact ⟨rfl, by simpa [spendOk, spendLeft] using H1.out, H2.out⟩
    · have hd : (left == 0) = false := by simpa using h0
      go_wp2
      go_ret
      refine ⟨by simp [spendOk, h0], ?_, grown_setCell (grown_refl _ _) (.inl rfl) _⟩
      simpa [spendOk, spendLeft, h0] using H.out.s2 (left - 1)

theorem add64_any (w : World) (a : Addr) (x : Int) (hc : w.cell? a = some (.int .i64 x)) (hz : w.frozen? a = false) (hx : 0 ≤ x ∧ x < 9223372036854775807) (ha : a.spot = none) :
    Calls Try.prog 53 #[.pointer (some a), .int .i64 1] w fun e w' => e = .returned (.int .i64 (x + 1)) ∧ w' = w.setCell a (.int .i64 (x + 1)) := by
  obtain ⟨g, o, sp⟩ := a
  subst ha
  have hs : (Op.intArith .add .i64 x 1).run Try.prog w = .ok (.int .i64 (x + 1)) w := by
    simp [go_sem, IntKind.wrap_i64]
    omega
  have hadd := run_call_add (P := Try.prog) Try.func60 (by kernel_rfl) (by kernel_rfl) (by kernel_rfl) .i64 (by kernel_rfl) (y := 1) hc hz hs
  clear hs
  go_enter Try.func53, Try.ntmps53
  go_wp2
  go_ret
  exact ⟨rfl, rfl⟩

theorem on_some (w : World) (g : Nat) (on armed : Bool) (left : Int) (lv mv : Value) (r s t : Int) (h : DevRow w g on armed left lv mv r s t) :
    Calls Try.prog 49 #[.pointer (some ⟨g, 0, none⟩)] w fun e w' => e = .returned (.bool on) ∧ w = w' := by
  have c0 := h.c0
  clear h
  go_enter Try.func49, Try.ntmps49
  go_wp2
  go_ret
  exact ⟨rfl, rfl⟩
theorem pages_some (w : World) (g : Nat) (on armed : Bool) (left : Int) (a : Option Addr) (p c : Nat) (mv : Value) (r s t : Int) (h : DevRow w g on armed left (.slice a (256 * p) c) mv r s t) (hp : p ≤ 2048) :
    Calls Try.prog 58 #[.pointer (some ⟨g, 0, none⟩)] w fun e w' => e = .returned (.int .i64 (p : Int)) ∧ w = w' := by
  have c3 := h.c3
  clear h
  obtain ⟨q, hq⟩ : ∃ q, q = 256 * p := ⟨_, rfl⟩
  rw [← hq] at c3
  have hd : (q : Int) / 256 = (p : Int) := by omega
  have hqb : (q : Int) ≤ 524288 := by omega
  clear hq
  go_enter Try.func58, Try.ntmps58
  go_wp2
  go_ret
  exact ⟨rfl, rfl⟩
theorem mayHave_any (w : World) (n : Int) : Calls Try.prog 39 #[.int .i64 n] w fun e w' => e = .returned (.bool (decide (1 ≤ n) && decide (n ≤ 2048))) ∧ w = w' := by
  by_cases h : 1 ≤ n
  · have h1 : decide (1 ≤ n) = true := decide_eq_true h
    go_enter Try.func39, Try.ntmps39
    go_wp2
    go_ret
    exact ⟨ret_bool (by rw [h1]; rfl), rfl⟩
  · have h1 : decide (1 ≤ n) = false := decide_eq_false h
    go_enter Try.func39, Try.ntmps39
    go_wp2
    go_ret
    exact ⟨rfl, rfl⟩
end Go.Proofs.Ytmdimhijbmeioaa

