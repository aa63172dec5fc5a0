/- CONTRACTS: two frames, the same? The program's and the document's. -/
import Derived.Test.YtmdimhijbmeioaaFrA
import Derived.Test.YtmdimhijbmeioaaFrLib
import Derived.Test.YtmdimhijbmeioaaSame
import Derived.Deep.RegionHeld3
namespace Go.Proofs.Ytmdimhijbmeioaa
open Go.RowKit Go.Inc

theorem Fr.ext {f g : Fr} (h1 : f.k = g.k) (h2 : f.e = g.e) (h3 : f.p = g.p) (h4 : f.b = g.b) : f = g := by
  cases f; cases g; simp_all
instance : DecidableEq Fr := fun f g =>
  if h : f.k = g.k ∧ f.e = g.e ∧ f.p = g.p ∧ f.b = g.b then isTrue (Fr.ext h.1 h.2.1 h.2.2.1 h.2.2.2) else isFalse (by rintro rfl; exact h ⟨rfl, rfl, rfl, rfl⟩)
theorem fr_dec (f g : Fr) : (f.k ≠ g.k ∧ decide (f = g) = false) ∨ (f.k = g.k ∧ f.e ≠ g.e ∧ decide (f = g) = false) ∨ (f.k = g.k ∧ f.e = g.e ∧ f.p ≠ g.p ∧ decide (f = g) = false) ∨ (f.k = g.k ∧ f.e = g.e ∧ f.p = g.p ∧ decide (f = g) = decide (f.b = g.b)) := by
  by_cases h1 : f.k = g.k
  · by_cases h2 : f.e = g.e
    · by_cases h3 : f.p = g.p
      · refine .inr (.inr (.inr ⟨h1, h2, h3, ?_⟩))
        by_cases h4 : f.b = g.b
        · rw [decide_eq_true (Fr.ext h1 h2 h3 h4), decide_eq_true h4]
        · rw [decide_eq_false (fun h => h4 (by rw [h])), decide_eq_false h4]
      · exact .inr (.inr (.inl ⟨h1, h2, h3, decide_eq_false (fun h => h3 (by rw [h]))⟩))
    · exact .inr (.inl ⟨h1, h2, decide_eq_false (fun h => h2 (by rw [h]))⟩)
  · exact .inl ⟨h1, decide_eq_false (fun h => h1 (by rw [h]))⟩

set_option maxHeartbeats 2000000 in
theorem fsame_any (ok ok' : Nat → Prop) (f g : Fr) (a a' : Option Addr) (c c' : Nat) (w : World) (hs : Sl ok w a f.b) (hs' : Sl ok' w a' g.b) (hb : Bytes f.b) (hb' : Bytes g.b) :
    Calls Try.prog 13 #[.agg #[.int .i64 f.k, .int .i64 f.e, .int .i64 f.p, .slice a f.b.length c], .agg #[.int .i64 g.k, .int .i64 g.e, .int .i64 g.p, .slice a' g.b.length c']] w fun r w' => r = .returned (.bool (decide (f = g))) ∧ Below w.heap.size w w' := by
  have hc := fr_dec f g
  have hbx := ((Below.refl w.heap.size w).alloc (Nat.le_refl _) (.cells #[.int .i64 f.k, .int .i64 f.e, .int .i64 f.p, .slice a f.b.length c] 25)).alloc (by simp) (.cells #[.int .i64 g.k, .int .i64 g.e, .int .i64 g.p, .slice a' g.b.length c'] 25)
  have H := hid (equal_any ok ok' a a' c c' f.b g.b _ (hs.below hbx) (hs'.below hbx) hb hb')
  have HB := hid hbx
  clear hs hs' hb hb' hbx
  generalize decide (f = g) = q at *
  rcases hc with ⟨h1, h⟩ | ⟨h1, h2, h⟩ | ⟨h1, h2, h3, h⟩ | ⟨h1, h2, h3, h⟩
  · have k1 : (f.k == g.k) = false := by rw [beq_eq_false_iff_ne]; exact h1
    have HQ := hid h
    clear h h1 H
    go_enter Try.func13, Try.ntmps13
    go_wp2_with fail
    go_ret
    exact ⟨by rw [HQ.out]; rfl, HB.out⟩
  · have k1 : (f.k == g.k) = true := by rw [beq_iff_eq]; exact h1
    have k2 : (f.e == g.e) = false := by rw [beq_eq_false_iff_ne]; exact h2
    have HQ := hid h
    clear h h1 h2 H
    go_enter Try.func13, Try.ntmps13
    go_wp2_with fail
    go_ret
    exact ⟨by rw [HQ.out]; rfl, HB.out⟩
  · have k1 : (f.k == g.k) = true := by rw [beq_iff_eq]; exact h1
    have k2 : (f.e == g.e) = true := by rw [beq_iff_eq]; exact h2
    have k3 : (f.p == g.p) = false := by rw [beq_eq_false_iff_ne]; exact h3
    have HQ := hid h
    clear h h1 h2 h3 H
    go_enter Try.func13, Try.ntmps13
    go_wp2_with fail
    go_ret
    exact ⟨by rw [HQ.out]; rfl, HB.out⟩
  · have k1 : (f.k == g.k) = true := by rw [beq_iff_eq]; exact h1
    have k2 : (f.e == g.e) = true := by rw [beq_iff_eq]; exact h2
    have k3 : (f.p == g.p) = true := by rw [beq_iff_eq]; exact h3
    have HQ := hid h
    clear h h1 h2 h3
    go_enter Try.func13, Try.ntmps13
    go_wp2_with fail
    refine H.out.mono ?_
    rintro r w1 ⟨rfl, rfl⟩
    clear H
    go_wp2_with fail
    go_ret
    exact ⟨by rw [HQ.out]; rfl, HB.out⟩

set_option maxHeartbeats 2000000 in
theorem rsame_any (ok ok' : Nat → Prop) (f g : Fr) (a a' : Option Addr) (c c' : Nat) (w : World) (hs : Sl ok w a f.b) (hs' : Sl ok' w a' g.b) (hl : f.b.length ≤ 9223372036854775807) :
    Calls Try.prog 23 #[.agg #[.int .i64 f.k, .int .i64 f.e, .int .i64 f.p, .slice a f.b.length c], .agg #[.int .i64 g.k, .int .i64 g.e, .int .i64 g.p, .slice a' g.b.length c']] w fun r w' => r = .returned (.bool (decide (f = g))) ∧ Below w.heap.size w w' := by
  have hc := fr_dec f g
  have hbx := ((Below.refl w.heap.size w).alloc (Nat.le_refl _) (.cells #[.int .i64 f.k, .int .i64 f.e, .int .i64 f.p, .slice a f.b.length c] 24)).alloc (by simp) (.cells #[.int .i64 g.k, .int .i64 g.e, .int .i64 g.p, .slice a' g.b.length c'] 24)
  have H := hid (same_any ok ok' a a' c c' f.b g.b _ (hs.below hbx) (hs'.below hbx) hl)
  have HB := hid hbx
  clear hs hs' hl hbx
  generalize decide (f = g) = q at *
  rcases hc with ⟨h1, h⟩ | ⟨h1, h2, h⟩ | ⟨h1, h2, h3, h⟩ | ⟨h1, h2, h3, h⟩
  · have k1 : (f.k == g.k) = false := by rw [beq_eq_false_iff_ne]; exact h1
    have HQ := hid h
    clear h h1 H
    go_enter Try.func23, Try.ntmps23
    go_wp2_with fail
    go_ret
    exact ⟨by rw [HQ.out]; rfl, HB.out⟩
  · have k1 : (f.k == g.k) = true := by rw [beq_iff_eq]; exact h1
    have k2 : (f.e == g.e) = false := by rw [beq_eq_false_iff_ne]; exact h2
    have HQ := hid h
    clear h h1 h2 H
    go_enter Try.func23, Try.ntmps23
    go_wp2_with fail
    go_ret
    exact ⟨by rw [HQ.out]; rfl, HB.out⟩
  · have k1 : (f.k == g.k) = true := by rw [beq_iff_eq]; exact h1
    have k2 : (f.e == g.e) = true := by rw [beq_iff_eq]; exact h2
    have k3 : (f.p == g.p) = false := by rw [beq_eq_false_iff_ne]; exact h3
    have HQ := hid h
    clear h h1 h2 h3 H
    go_enter Try.func23, Try.ntmps23
    go_wp2_with fail
    go_ret
    exact ⟨by rw [HQ.out]; rfl, HB.out⟩
  · have k1 : (f.k == g.k) = true := by rw [beq_iff_eq]; exact h1
    have k2 : (f.e == g.e) = true := by rw [beq_iff_eq]; exact h2
    have k3 : (f.p == g.p) = true := by rw [beq_iff_eq]; exact h3
    have HQ := hid h
    clear h h1 h2 h3
    go_enter Try.func23, Try.ntmps23
    go_wp2_with fail
    refine H.out.mono ?_
    rintro r w1 ⟨rfl, hb1⟩
    have HB1 := hid (HB.out.trans (hb1.mono HB.out.size))
    clear H hb1
    go_wp2_with fail
    go_ret
    exact ⟨by rw [HQ.out]; rfl, HB1.out⟩
end Go.Proofs.Ytmdimhijbmeioaa
