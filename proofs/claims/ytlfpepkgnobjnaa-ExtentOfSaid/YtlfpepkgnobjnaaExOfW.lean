/- THE LAW ExtentOf: the walk. -/
import Derived.Test.YtlfpepkgnobjnaaExK
namespace Go.Proofs.Ytlfpepkgnobjnaa
open Go.RowKit Go.Inc

set_option maxRecDepth 20000 in
set_option maxHeartbeats 4000000 in
theorem extentOf_walk (P : PX) (a : Option Addr) (c : Nat) (zs : List Int) (W : World) (hz : Si (fun _ => True) W a zs) (hb : ∀ z ∈ zs, -9223372036854775808 ≤ z ∧ z ≤ 9223372036854775807) (hlc : zs.length ≤ c) (hcm : c ≤ maxLen) :
    Calls Try.prog 3 #[.slice a zs.length c] W fun e w' => e = .returned (.bool true) ∧ Below W.heap.size W w' := by
  have HP := hid P
  obtain ⟨ps, hps⟩ : ∃ ps, ps = zs.take 1100 := ⟨_, rfl⟩
  have hmin : min (zs.length : Int) 1100 = (ps.length : Int) := by rw [hps, List.length_take]; omega
  have HZ : Hid (Si (fun b => b < W.heap.size) W a ps) := hid (by rw [hps]; exact (hz.mono fun _ _ h => h).front 1100)
  have HBZ : Hid (∀ z ∈ ps, -9223372036854775808 ≤ z ∧ z ≤ 9223372036854775807) := hid (by rw [hps]; exact fun z h => hb z (List.mem_of_mem_take h))
  have hz10 : (ps.length : Int) ≤ 1100 := by omega
  have hzc2 : (ps.length : Int) ≤ c := by omega
  have hzl : (ps.length : Int) ≤ zs.length := by omega
  have hc2 : (c : Int) ≤ 9223372036854775807 := by unfold maxLen at hcm; omega
  obtain ⟨nz, hnz⟩ : ∃ nz, nz = zs.length := ⟨_, rfl⟩
  obtain ⟨n, hn⟩ : ∃ n, n = ps.length := ⟨_, rfl⟩
  have HN := hid hn
  rw [← hnz] at hlc hmin hzl ⊢
  rw [← hn] at hmin hz10 hzc2 hzl
  have HPO : Hid (Calls Try.prog 6 #[.slice a n c] W fun e w' => (∃ a' c', e = .returned (.tuple #[.slice a' (ofX ps).length c', .int .i64 (ofE ps)]) ∧ XtS (Up W.heap.size) w' a' (ofX ps)) ∧ Below W.heap.size W w') := hid (by
    rw [hn]
    exact of_x P c HZ.out (by omega) HBZ.out)
  have HRO : Hid (∀ y, Below W.heap.size W y → Calls Try.prog 7 #[.slice a n c] y fun e w' => (∃ a' c', e = .returned (.tuple #[.slice a' (ofX ps).length c', .int .i64 (ofE ps)]) ∧ XtS (Up y.heap.size) w' a' (ofX ps)) ∧ Below y.heap.size y w') := hid fun y hy => by
    rw [hn]
    exact refOf_x c (HZ.out.below hy) (by omega)
  have hxl := ofX_len (ps := ps)
  obtain ⟨m, hm⟩ : ∃ m, m = (ofX ps).length := ⟨_, rfl⟩
  have hm2 : (m : Int) ≤ 1100 := by omega
  have HM := hid hm
  obtain ⟨E, hE⟩ : ∃ E, E = ofE ps := ⟨_, rfl⟩
  have HE := hid hE
  rw [← hm, ← hE] at HPO HRO
  clear P hz hb hps hnz hn HBZ hxl hm hE
  go_enter Try.func3, Try.ntmps3
  go_wp2_with fail
  refine HPO.out.mono ?_
  clear HPO
  rintro e w1 ⟨⟨a1, c1, rfl, hx1⟩, hb1⟩
  have HX1 := hid hx1
  have HB1 := hid hb1
  clear hx1 hb1
  go_wp2_with fail
  refine (HRO.out w1 HB1.out).mono ?_
  clear HRO
  rintro e w2 ⟨⟨a2, c2, rfl, hx2⟩, hb2⟩
  have HX2 := hid (HX1.out.below hb2)
  have HY2 := hid hx2
  have HB2 := hid (HB1.out.trans (hb2.mono HB1.out.size))
  clear hx2 hb2 HX1 HB1
  have hEE : (E != E) = false := by simp
  go_wp2_with fail
  have HL := hid (lawOf_x c1 HX2.out (by have := HM.out; omega))
  rw [← HM.out] at HL
  refine HL.out.mono ?_
  clear HL
  rintro e w3 ⟨⟨a3, c3, rfl, hx3⟩, hb3⟩
  have HS3 := hid (rSame_eq m c3 c2 (ofX ps) hx3 (HY2.out.below hb3) HM.out (by omega))
  have HX3 := hid (HX2.out.below hb3)
  have HB3 := hid (HB2.out.trans (hb3.mono HB2.out.size))
  clear hx3 hb3 HX2 HY2 HB2
  go_wp2_with fail
  refine HS3.out.mono ?_
  clear HS3
  rintro e w4 ⟨rfl, hb4⟩
  have HX4 := hid (HX3.out.below hb4)
  have HB4 := hid (HB3.out.trans (hb4.mono HB3.out.size))
  clear hb4 HX3 HB3
  go_wp2_with fail
  refine (known_any HP.out w4).mono ?_
  rintro e w5 ⟨rfl, hb5⟩
  have HX5 := hid (HX4.out.below hb5)
  have HB5 := hid (HB4.out.trans (hb5.mono HB4.out.size))
  clear hb5 HX4 HB4
  by_cases h0 : E = 0
  · have HF : Hid (∀ x ∈ ofX ps, fitsX x) := hid fun x hx => by
      have := okX_iff.1 (ofX_ok (by rw [← HE.out]; exact h0) x hx)
      unfold fitsX
      omega
    have HC0 : Hid (chkX (ofX ps) = 0) := hid (ofX_chk (by rw [← HE.out]; exact h0))
    have HPG : Hid (pgX (ofX ps) = ps) := hid (by rw [pgX_good HC0.out]; exact ofX_pages (by rw [← HE.out]; exact h0))
    have HC := hid (HP.out.pCheck _ a1 c1 (ofX ps) w5 HX5.out (by have := HM.out; omega) HF.out)
    rw [HC0.out, ← HM.out] at HC
    have hE0 : (E != 0) = false := by rw [h0]; rfl
    have hz1100 : Hid (Si (fun b => b < W.heap.size) w5 a ps) := hid (HZ.out.below HB5.out)
    clear h0
    go_wp2_with fail
    refine HC.out.mono ?_
    clear HC
    rintro e w6 ⟨rfl, hb6⟩
    have HX6 := hid (HX5.out.below hb6)
    have HB6 := hid (HB5.out.trans (hb6.mono HB5.out.size))
    have HPP := hid (pages_z HP.out c1 HX6.out (by have := HM.out; omega) HF.out)
    rw [HPG.out, ← HM.out, ← HN.out] at HPP
    clear hb6 HX5 HB5 hz1100
    go_wp2_with fail
    refine HPP.out.mono ?_
    clear HPP
    rintro e w7 ⟨⟨a7, c7, rfl, hs7⟩, hb7⟩
    have HX7 := hid (HX6.out.below hb7)
    have HB7 := hid (HB6.out.trans (hb7.mono HB6.out.size))
    have HS7 := hid (zSame_eq n c7 c ps hs7 (HZ.out.below HB7.out) HN.out (by omega))
    clear hs7 hb7 HX6 HB6
    go_wp2_with fail
    refine HS7.out.mono ?_
    clear HS7
    rintro e w8 ⟨rfl, hb8⟩
    have HCT := hid (HP.out.pCount _ a1 c1 (ofX ps) w8 (HX7.out.below hb8) (by have := HM.out; omega) HF.out)
    have HB8 := hid (HB7.out.trans (hb8.mono HB7.out.size))
    rw [HPG.out, ← HM.out, ← HN.out] at HCT
    clear hb8 HX7 HB7
    go_wp2_with fail
    refine HCT.out.mono ?_
    clear HCT
    rintro e w9 ⟨rfl, hb9⟩
    have HB9 := hid (HB8.out.trans (hb9.mono HB8.out.size))
    clear hb9 HB8
    have hnn : ((n : Int) == n) = true := by simp
    go_wp2_with fail
    go_ret
    exact ⟨rfl, HB9.out⟩
  · have hE0 : (E != 0) = true := by simpa using h0
    clear h0
    go_wp2_with fail
    go_ret
    exact ⟨rfl, HB5.out⟩
end Go.Proofs.Ytlfpepkgnobjnaa
