/- CONTRACTS: Check, Of, the pages of a right list, Pages, Count, At, Part. -/
import Derived.Test.YtlfpepkgnobjnaaPxC
namespace Go.Proofs.Ytlfpepkgnobjnaa
open Go.RowKit Go.Inc

set_option maxRecDepth 20000 in
set_option maxHeartbeats 1500000 in
theorem pxCheck (ok : Nat → Prop) (a : Option Addr) (c : Nat) (xs : List Xt) (w : World) (hs : XtS ok w a xs) (hl : (xs.length : Int) ≤ 65536) (hbx : ∀ x ∈ xs, fitsX x) :
    Calls Try.prog 11 #[.slice a xs.length c] w fun e w' => e = .returned (.int .i64 (chkX xs)) ∧ Below w.heap.size w w' := by
  have HGA := hid (gather_any ok a c xs w hs hl hbx)
  have hgb := gaE_bnd xs
  have HGL := hid (gaX_len xs)
  obtain ⟨n, hn⟩ : ∃ n, n = xs.length := ⟨_, rfl⟩
  have HN := hid hn
  rw [← hn] at hl HGA HGL ⊢
  clear hs hbx hn
  go_enter Try.func11, Try.ntmps11
  go_wp2_with fail
  refine HGA.out.mono ?_
  clear HGA
  rintro e w1 ⟨⟨v, rfl, hv⟩, hb⟩
  have HB := hid hb
  obtain ⟨a2, c2, rfl, -, -, -, -, -⟩ := ownedX hv
  obtain ⟨m, hm⟩ : ∃ m, m = (gaX xs).length := ⟨_, rfl⟩
  rw [← hm] at HGL ⊢
  have HM := hid hm
  clear hv hb hm
  obtain ⟨E, hE⟩ : ∃ E, E = gaE xs := ⟨_, rfl⟩
  rw [← hE] at hgb ⊢
  have HE := hid hE
  clear hE
  by_cases h0 : E = 0
  · have hE0 : (E == 0) = true := by rw [beq_iff_eq]; exact h0
    have H0 : Hid (gaE xs = 0) := hid (by rw [← HE.out, h0])
    subst h0
    by_cases hlt : (m : Int) < n
    · have hd : ((m : Int) < n) = True := eq_true hlt
      have hd2 : decide ((m : Int) < n) = true := decide_eq_true hlt
      have hd3 : (m < n) = True := eq_true (by omega)
      have HO : Hid (chkX xs = 3) := hid (chk_ga_less H0.out (by rw [← HM.out, ← HN.out]; omega))
      clear hlt
      go_wp2_with fail
      go_ret
      exact ⟨by rw [HO.out]; rfl, HB.out⟩
    · have hd2 : decide ((m : Int) < n) = false := decide_eq_false hlt
      have hd3 : (m < n) = False := eq_false (by omega)
      have HO : Hid (chkX xs = 0) := hid (chk_ga_same H0.out (by rw [← HM.out, ← HN.out]; omega))
      clear hlt
      go_wp2_with fail
      go_ret
      exact ⟨by rw [HO.out]; rfl, HB.out⟩
  · have hE0 : (E == 0) = false := by rw [beq_eq_false_iff_ne]; exact h0
    have HO : Hid (chkX xs = E) := hid (by rw [HE.out]; exact chk_ga_bad (by rw [← HE.out]; exact h0))
    clear h0
    go_wp2_with fail
    go_ret
    exact ⟨by rw [HO.out]; rfl, HB.out⟩
set_option maxRecDepth 20000 in
set_option maxHeartbeats 1500000 in
theorem open_any (ok : Nat → Prop) (a : Option Addr) (c : Nat) (xs : List Xt) (w : World) (hs : XtS ok w a xs) (hl : (xs.length : Int) ≤ 65536) (hbx : ∀ x ∈ xs, fitsX x) :
    Calls Try.prog 28 #[.slice a xs.length c] w fun e w' => (∃ v, e = .returned (.tuple #[v, .int .i64 (chkX xs)]) ∧ w'.ownsRow w.heap.size 3 1 v (pgX xs).length (zvals (pgX xs))) ∧ Below w.heap.size w w' := by
  have HCK := hid (pxCheck ok a c xs w hs hl hbx)
  have HSP : Hid (∀ y, Below w.heap.size w y → (∀ x ∈ xs, okX x = true) → Calls Try.prog 38 #[.slice a xs.length c] y fun e w' => (∃ v, e = .returned v ∧ w'.ownsRow y.heap.size 3 1 v (pagesX xs).length (zvals (pagesX xs))) ∧ Below y.heap.size y w') := hid fun y hy hok => spread_any ok a c xs y (hs.below hy) hok hl
  have hcb := chkX_bnd xs
  obtain ⟨n, hn⟩ : ∃ n, n = xs.length := ⟨_, rfl⟩
  rw [← hn] at hl HCK HSP ⊢
  obtain ⟨E, hE⟩ : ∃ E, E = chkX xs := ⟨_, rfl⟩
  rw [← hE] at hcb HCK ⊢
  have HE := hid hE
  clear hs hbx hn hE
  by_cases h0 : E = 0
  · have hE0 : (E != 0) = false := by rw [h0]; rfl
    have H0 : Hid (chkX xs = 0) := hid (by rw [← HE.out, h0])
    subst h0
    go_enter Try.func28, Try.ntmps28
    go_wp2_with fail
    refine HCK.out.mono ?_
    clear HCK
    rintro e w1 ⟨rfl, hb⟩
    have HB := hid hb
    clear hb
    go_wp2_with fail
    refine (HSP.out w1 HB.out (badX_false.1 (chkX_zero H0.out).1)).mono ?_
    clear HSP
    rintro e w2 ⟨⟨v, rfl, hv⟩, hb2⟩
    have HB2 : Hid (Below w.heap.size w w2) := hid (HB.out.trans (hb2.mono HB.out.size))
    have HV : Hid (w2.ownsRow w.heap.size 3 1 v (pgX xs).length (zvals (pgX xs))) := hid (by
      rw [pgX_good H0.out]
      exact ownsWeaken hv HB.out.size)
    clear hv hb2
    go_wp2_with fail
    go_ret2
    exact ⟨⟨_, rfl, HV.out⟩, HB2.out⟩
  · have hE0 : (E != 0) = true := by rw [bne_iff_ne]; exact h0
    have HP : Hid (pgX xs = []) := hid (pgX_bad (by rw [← HE.out]; exact h0))
    clear h0
    go_enter Try.func28, Try.ntmps28
    go_wp2_with fail
    refine HCK.out.mono ?_
    clear HCK
    rintro e w1 ⟨rfl, hb⟩
    have HB := hid hb
    clear hb
    go_wp2_with fail
    go_ret2
    exact ⟨⟨_, rfl, by rw [HP.out]; exact World.ownsRow_nil _ _ _ _⟩, HB.out⟩
set_option maxRecDepth 20000 in
set_option maxHeartbeats 1500000 in
theorem pxPages (ok : Nat → Prop) (a : Option Addr) (c : Nat) (xs : List Xt) (w : World) (hs : XtS ok w a xs) (hl : (xs.length : Int) ≤ 65536) (hbx : ∀ x ∈ xs, fitsX x) :
    Calls Try.prog 13 #[.slice a xs.length c] w fun e w' => (∃ v, e = .returned v ∧ w'.ownsRow w.heap.size 3 1 v (pgX xs).length (zvals (pgX xs))) ∧ Below w.heap.size w w' := by
  have HO := hid (open_any ok a c xs w hs hl hbx)
  obtain ⟨n, hn⟩ : ∃ n, n = xs.length := ⟨_, rfl⟩
  rw [← hn] at hl HO ⊢
  clear hs hbx hn
  go_enter Try.func13, Try.ntmps13
  go_wp2_with fail
  refine HO.out.mono ?_
  clear HO
  rintro e w1 ⟨⟨v, rfl, hv⟩, hb⟩
  have HB := hid hb
  have HV := hid hv
  clear hb hv
  go_wp2_with fail
  go_ret
  exact ⟨⟨_, rfl, HV.out⟩, HB.out⟩
set_option maxRecDepth 20000 in
set_option maxHeartbeats 1500000 in
theorem pxCount (ok : Nat → Prop) (a : Option Addr) (c : Nat) (xs : List Xt) (w : World) (hs : XtS ok w a xs) (hl : (xs.length : Int) ≤ 65536) (hbx : ∀ x ∈ xs, fitsX x) :
    Calls Try.prog 14 #[.slice a xs.length c] w fun e w' => e = .returned (.int .i64 (pgX xs).length) ∧ Below w.heap.size w w' := by
  have HO := hid (pxPages ok a c xs w hs hl hbx)
  obtain ⟨n, hn⟩ : ∃ n, n = xs.length := ⟨_, rfl⟩
  rw [← hn] at hl HO ⊢
  clear hs hbx hn
  go_enter Try.func14, Try.ntmps14
  go_wp2_with fail
  refine HO.out.mono ?_
  clear HO
  rintro e w1 ⟨⟨v, rfl, hv⟩, hb⟩
  have HB := hid hb
  obtain ⟨a2, c2, rfl, -, -, -, -, -⟩ := ownedZ hv
  clear hb hv
  go_wp2_with fail
  go_ret
  exact ⟨rfl, HB.out⟩
end Go.Proofs.Ytlfpepkgnobjnaa
