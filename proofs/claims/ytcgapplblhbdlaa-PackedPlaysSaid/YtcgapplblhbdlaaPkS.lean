/- 'PackedFits' walked. -/
import Derived.Test.YtcgapplblhbdlaaPkQ
namespace Go.Proofs.Ytcgapplblhbdlaa
open Go.RowKit Go.Inc

/-- The loop, and what comes behind it, where a number is wrong. -/
theorem wid_bad {zs : List Int} {k : Nat} (h : k < zs.length) (h0 : widthZ (zs.getD k 0) = 0) : allF (widTo zs zs.length) zs = false := by
  rw [← Bool.not_eq_true, allF_wid]
  exact fun h1 => h1 k h h0
set_option maxRecDepth 20000 in
set_option maxHeartbeats 2000000 in
theorem pkFits_bad (ok : Nat → Prop) (x : World) (a : Option Addr) (c m : Nat) (zs : List Int) (n : Int) (hs : Si ok x a zs) (hc : m ≤ c ∧ c ≤ maxLen) (hmin : min (m : Int) 40 = (zs.length : Int)) (hbad : allF (widTo zs zs.length) zs = false) :
    Calls Try.prog 4 #[.slice a m c, .int .i64 n] x fun e w' => e = .returned (.bool true) ∧ Below x.heap.size x w' := by
  have hl40 : (zs.length : Int) ≤ 40 := by omega
  have hlm : (zs.length : Int) ≤ (m : Int) := by omega
  have hlc : (zs.length : Int) ≤ (c : Int) := by omega
  have HF := hid (pkFit_bad ok x a c zs hs (by omega) hbad)
  have HBAD := hid (fun h => (Bool.eq_false_iff.1 hbad) ((allF_wid zs).2 h))
  have HS := hid hs
  obtain ⟨K, hK⟩ : ∃ K, K = zs.length := ⟨_, rfl⟩
  have HK := hid hK
  rw [← hK] at hmin hl40 hlm hlc HF
  have HCM := hid hc
  have hm0 : (0 : Int) ≤ (m : Int) := by omega
  clear hs hc hbad hK
  go_enter Try.func4, Try.ntmps4
  go_wp2_with fail
  refine HF.out.mono ?_
  rintro e x1 ⟨rfl, hb1⟩
  have HB1 := hid hb1
  clear hb1 HF
  go_wp2_with fail
  refine (pkWidth_any n x1).mono ?_
  rintro e w1 ⟨rfl, rfl⟩
  go_wp2_with fail
  refine (refWidth_any n x1).mono ?_
  rintro e w1 ⟨rfl, rfl⟩
  have hnn : ((widthZ n : Int) != (widthZ n : Int)) = false := by simp
  generalize widthZ n = u at *
  go_wp2_with fail
  go_loop [7, 8] (fun v i => ∃ k : Nat, k ≤ K ∧ i = .int .i64 (k : Int) ∧ v = .int .i64 ((widTo zs k : Nat) : Int) ∧ ∀ t, t < k → widthZ (zs.getD t 0) ≠ 0) (fun _ i => K - (intOf i).toNat)
  case atStart => exact ⟨0, Nat.zero_le _, rfl, rfl, fun t ht => by omega⟩
  case round =>
    obtain ⟨k, hk, rfl, rfl, hall⟩ := hrel
    have HALL := hid hall
    clear hall
    by_cases hlt : (k : Int) < K
    · obtain ⟨b0, o0, rfl, hc⟩ : ∃ b0 o0, a = some ⟨b0, o0, none⟩ ∧ x1.cell? ⟨b0, o0 + k, none⟩ = some (.int .i64 (zs.getD k 0)) := by
        rcases HS.out.below HB1.out with h | ⟨b0, o0, h, _, hc⟩
        · have := HK.out; rw [h] at this; simp at this; omega
        · exact ⟨b0, o0, h, hc k (by have := HK.out; omega)⟩
      have HX : Hid (widTo zs (k + 1) = max (widTo zs k) (widthZ (zs.getD k 0))) := hid rfl
      have HZ : Hid (widthZ (zs.getD k 0) ≠ 0 → ∀ t, t < k + 1 → widthZ (zs.getD t 0) ≠ 0) := hid fun h t ht => by
        by_cases h1 : t = k
        · rw [h1]; exact h
        · exact HALL.out t (by omega)
      obtain ⟨z, hz⟩ : ∃ z, z = zs.getD k 0 := ⟨_, rfl⟩
      rw [← hz] at hc HX HZ
      have HW := hid (refWidth_any z x1)
      have hb1 := widTo_le zs k
      have hb2 := widthZ_le z
      obtain ⟨u2, hu⟩ : ∃ u2, u2 = widTo zs k := ⟨_, rfl⟩
      obtain ⟨y, hy⟩ : ∃ y, y = widthZ z := ⟨_, rfl⟩
      rw [← hu] at HX hb1 ⊢
      rw [← hy] at HX HW hb2 HZ
      have hkn : (k < K) = True := eq_true (by omega)
      by_cases hy0 : y = 0
      · subst hy0
        clear hz hu hy HX HZ HALL hb2
        go_wp2_with fail
        refine HW.out.mono ?_
        rintro e w1 ⟨rfl, rfl⟩
        go_wp2_with fail
        refine (pkKnown_any x1).mono ?_
        rintro e x2 ⟨rfl, hb2⟩
        have HB2 := hid (HB1.out.trans (hb2.mono HB1.out.size))
        clear hb2
        go_wp2_with fail
        go_ret
        exact ⟨rfl, HB2.out⟩
      · have hy0' : ((y : Int) == 0) = false := by rw [beq_eq_false_iff_ne]; omega
        have HZ2 := hid (HZ.out hy0)
        have hmx : max (u2 : Int) (y : Int) = ((max u2 y : Nat) : Int) := by omega
        rw [← HX.out] at hmx
        clear hz hu hy hy0 HZ
        go_wp2_with fail
        refine HW.out.mono ?_
        rintro e w1 ⟨rfl, rfl⟩
        go_wp2_with fail
        refine HW.out.mono ?_
        rintro e w1 ⟨rfl, rfl⟩
        go_wp2_with fail
        go_round
        case rel => exact ⟨k + 1, by omega, by go_num, rfl, HZ2.out⟩
        case measure => simp [intOf]; omega
    · exact (HBAD.out (fun t ht => HALL.out t (by have := HK.out; omega))).elim
end Go.Proofs.Ytcgapplblhbdlaa
