/- THE LAW ExtentTells: the walk. -/
import Derived.Test.YtlfpepkgnobjnaaExK
namespace Go.Proofs.Ytlfpepkgnobjnaa
open Go.RowKit Go.Inc

set_option maxRecDepth 20000 in
set_option maxHeartbeats 8000000 in
theorem tells_bad (P : PX) (a : Option Addr) (c : Nat) (xs : List Xt) (i page j k : Int) (W : World) (hx : XtS (fun _ => True) W a xs) (hf : ∀ x ∈ xs, fitsX x) (hl : (xs.length : Int) ≤ 9223372036854775807) (hi : -9223372036854775808 ≤ i ∧ i ≤ 9223372036854775807) (hpg : -9223372036854775808 ≤ page ∧ page ≤ 9223372036854775807) (hj : -9223372036854775808 ≤ j ∧ j ≤ 9223372036854775807) (hk : -9223372036854775808 ≤ k ∧ k ≤ 9223372036854775807) (hbad : chkX (xs.take 30) ≠ 0) :
    Calls Try.prog 4 #[.slice a xs.length c, .int .i64 i, .int .i64 page, .int .i64 j, .int .i64 k] W fun e w' => e = .returned (.bool true) ∧ Below W.heap.size W w' := by
  have HP := hid P
  obtain ⟨ys, hys⟩ : ∃ ys, ys = xs.take 30 := ⟨_, rfl⟩
  have HTO := hid (lawTo_x c hx hl)
  have HF : Hid (∀ x ∈ ys, fitsX x) := hid (by rw [hys]; exact fun x h => hf x (List.mem_of_mem_take h))
  have hyl : (ys.length : Int) ≤ 30 := by rw [hys, List.length_take]; omega
  rw [← hys] at HTO
  obtain ⟨n, hn⟩ : ∃ n, n = xs.length := ⟨_, rfl⟩
  obtain ⟨m, hm⟩ : ∃ m, m = ys.length := ⟨_, rfl⟩
  have HM := hid hm
  rw [← hn] at HTO ⊢
  rw [← hm] at HTO hyl
  have HI := hid hi
  have HJ := hid hj
  have HK := hid hk
  have HPG := hid hpg
  have HCL : Hid ((ys.length : Int) ≤ 65536) := hid (by omega)
  rw [← hys] at hbad
  obtain ⟨B, hB⟩ : ∃ B, B = chkX ys := ⟨_, rfl⟩
  have HAE : Hid (atE ys i = B) := hid (by rw [hB]; exact atE_bad hbad)
  have HFE : Hid (fdE ys page = B) := hid (by rw [hB]; exact fdE_bad hbad)
  have HPE : Hid (ptE ys j k = B) := hid (by rw [hB]; exact ptE_bad hbad)
  have HPX : Hid (pgX ys = []) := hid (pgX_bad hbad)
  have hB0 : (B != 0) = true := by rw [hB]; simpa using hbad
  have hBB : (B != B) = false := by simp
  have hBE : (B == B) = true := by simp
  have HB := hid hB
  clear hbad hB
  clear P hys hn hm hx hf hl hi hj hk hpg
  go_enter Try.func4, Try.ntmps4
  go_wp2_with fail
  refine HTO.out.mono ?_
  clear HTO
  rintro e w1 ⟨⟨a1, c1, rfl, hx1⟩, hb1⟩
  have HX1 := hid hx1
  have HB1 := hid hb1
  have HLO := hid (lawOf_x c1 HX1.out HCL.out)
  rw [← HM.out] at HLO
  clear hx1 hb1
  go_wp2_with fail
  refine HLO.out.mono ?_
  clear HLO
  rintro e w2 ⟨⟨a2, c2, rfl, hx2⟩, hb2⟩
  have HX2 := hid (HX1.out.below hb2)
  have HY2 := hid hx2
  have HB2 := hid (HB1.out.trans (hb2.mono HB1.out.size))
  have HCK := hid (rCheck_any _ a2 c2 ys w2 HY2.out HCL.out HF.out)
  rw [← HM.out, ← HB.out] at HCK
  clear hx2 hb2 HX1 HB1
  go_wp2_with fail
  refine HCK.out.mono ?_
  clear HCK
  rintro e w3 ⟨rfl, hb3⟩
  have HX3 := hid (HX2.out.below hb3)
  have HY3 := hid (HY2.out.below hb3)
  have HB3 := hid (HB2.out.trans (hb3.mono HB2.out.size))
  have HAT := hid (HP.out.pAt _ a1 c1 ys i w3 HX3.out HCL.out HF.out HI.out)
  rw [← HM.out] at HAT
  clear hb3 HX2 HY2 HB2
  go_wp2_with fail
  refine HAT.out.mono ?_
  clear HAT
  rintro e w4 ⟨⟨pa, rfl, hpa⟩, hb4⟩
  have HPA := hid hpa
  have HX4 := hid (HX3.out.below hb4)
  have HY4 := hid (HY3.out.below hb4)
  have HB4 := hid (HB3.out.trans (hb4.mono HB3.out.size))
  have HFD := hid (HP.out.pFind _ a1 c1 ys page w4 HX4.out HCL.out HF.out HPG.out)
  rw [← HM.out] at HFD
  clear hb4 hpa HX3 HY3 HB3
  rw [HAE.out]
  go_wp2_with fail
  refine HFD.out.mono ?_
  clear HFD
  rintro e w5 ⟨⟨kf, rfl, hkf⟩, hb5⟩
  have HKF := hid hkf
  have HX5 := hid (HX4.out.below hb5)
  have HY5 := hid (HY4.out.below hb5)
  have HB5 := hid (HB4.out.trans (hb5.mono HB4.out.size))
  have HPT := hid (part_x HP.out c1 HX5.out HCL.out HF.out HJ.out HK.out)
  rw [← HM.out] at HPT
  clear hb5 hkf HX4 HY4 HB4
  rw [HFE.out]
  go_wp2_with fail
  refine HPT.out.mono ?_
  clear HPT
  rintro e w6 ⟨⟨a6, c6, rfl, hx6⟩, hb6⟩
  have HZ6 := hid hx6
  have HX6 := hid (HX5.out.below hb6)
  have HY6 := hid (HY5.out.below hb6)
  have HB6 := hid (HB5.out.trans (hb6.mono HB5.out.size))
  have HC7 := hid (HP.out.pCheck _ a1 c1 ys w6 HX6.out HCL.out HF.out)
  rw [← HM.out, ← HB.out] at HC7
  clear hx6 hb6 HX5 HY5 HB5
  rw [HPE.out]
  go_wp2_with fail
  refine HC7.out.mono ?_
  clear HC7
  rintro e w7 ⟨rfl, hb7⟩
  have HZ7 := hid (HZ6.out.below hb7)
  have HX7 := hid (HX6.out.below hb7)
  have HY7 := hid (HY6.out.below hb7)
  have HB7 := hid (HB6.out.trans (hb7.mono HB6.out.size))
  clear hb7 HZ6 HX6 HY6 HB6
  go_wp2_with fail
  refine (known_any HP.out w7).mono ?_
  rintro e w8 ⟨rfl, hb8⟩
  have HX8 := hid (HX7.out.below hb8)
  have HB8 := hid (HB7.out.trans (hb8.mono HB7.out.size))
  have HPP := hid (pages_z HP.out c1 HX8.out HCL.out HF.out)
  rw [← HM.out, HPX.out] at HPP
  clear hb8 HX7 HY7 HZ7 HB7
  go_wp2_with fail
  refine HPP.out.mono ?_
  clear HPP
  rintro e w9 ⟨⟨a9, c9, rfl, -⟩, hb9⟩
  have HX9 := hid (HX8.out.below hb9)
  have HB9 := hid (HB8.out.trans (hb9.mono HB8.out.size))
  have HCT := hid (HP.out.pCount _ a1 c1 ys w9 HX9.out HCL.out HF.out)
  rw [← HM.out, HPX.out] at HCT
  clear hb9 HX8 HB8
  simp only [List.length_nil]
  go_wp2_with fail
  refine HCT.out.mono ?_
  clear HCT
  rintro e w10 ⟨rfl, hb10⟩
  have HB10 := hid (HB9.out.trans (hb10.mono HB9.out.size))
  clear hb10 HX9 HB9
  go_wp2_with fail
  go_ret
  exact ⟨rfl, HB10.out⟩
set_option maxRecDepth 20000 in
set_option maxHeartbeats 8000000 in
theorem tells_good (P : PX) (a : Option Addr) (c : Nat) (xs : List Xt) (i page j k : Int) (W : World) (hx : XtS (fun _ => True) W a xs) (hf : ∀ x ∈ xs, fitsX x) (hl : (xs.length : Int) ≤ 9223372036854775807) (hi : -9223372036854775808 ≤ i ∧ i ≤ 9223372036854775807) (hpg : -9223372036854775808 ≤ page ∧ page ≤ 9223372036854775807) (hj : -9223372036854775808 ≤ j ∧ j ≤ 9223372036854775807) (hk : -9223372036854775808 ≤ k ∧ k ≤ 9223372036854775807) (hgood : chkX (xs.take 30) = 0) :
    Calls Try.prog 4 #[.slice a xs.length c, .int .i64 i, .int .i64 page, .int .i64 j, .int .i64 k] W fun e w' => e = .returned (.bool true) ∧ Below W.heap.size W w' := by
  have HP := hid P
  obtain ⟨ys, hys⟩ : ∃ ys, ys = xs.take 30 := ⟨_, rfl⟩
  have HTO := hid (lawTo_x c hx hl)
  have HF : Hid (∀ x ∈ ys, fitsX x) := hid (by rw [hys]; exact fun x h => hf x (List.mem_of_mem_take h))
  have hyl : (ys.length : Int) ≤ 30 := by rw [hys, List.length_take]; omega
  rw [← hys] at HTO
  obtain ⟨n, hn⟩ : ∃ n, n = xs.length := ⟨_, rfl⟩
  obtain ⟨m, hm⟩ : ∃ m, m = ys.length := ⟨_, rfl⟩
  have HM := hid hm
  rw [← hn] at HTO ⊢
  rw [← hm] at HTO hyl
  have HI := hid hi
  have HJ := hid hj
  have HK := hid hk
  have HPG := hid hpg
  have HCL : Hid ((ys.length : Int) ≤ 65536) := hid (by omega)
  rw [← hys] at hgood
  have HC0 := hid hgood
  have HOK := hid (badX_false.1 (chkX_zero hgood).1)
  have HND := hid (chkX_zero hgood).2.2.1
  obtain ⟨zs, hzs⟩ : ∃ zs, zs = pagesX ys := ⟨_, rfl⟩
  obtain ⟨N, hN⟩ : ∃ N, N = zs.length := ⟨_, rfl⟩
  have hN1 : (N : Int) ≤ 1024 := by have := pages_cnt hgood; rw [hN, hzs]; omega
  obtain ⟨EA, hEA⟩ : ∃ E, E = atE ys i := ⟨_, rfl⟩
  obtain ⟨EF, hEF⟩ : ∃ E, E = fdE ys page := ⟨_, rfl⟩
  obtain ⟨EP, hEP⟩ : ∃ E, E = ptE ys j k := ⟨_, rfl⟩
  obtain ⟨mp, hmp⟩ : ∃ mp, mp = (ptX ys j k).length := ⟨_, rfl⟩
  have HMP := hid hmp
  have HPX : Hid (pgX ys = zs) := hid (by rw [hzs]; exact pgX_good hgood)
  have HEA := hid hEA
  have HEF := hid hEF
  have HEP := hid hEP
  have HN := hid hN
  have HZS := hid hzs
  clear hgood hEA hEF hEP hN hzs hmp
  clear P hys hn hm hx hf hl hi hj hk hpg
  go_enter Try.func4, Try.ntmps4
  go_wp2_with fail
  refine HTO.out.mono ?_
  clear HTO
  rintro e w1 ⟨⟨a1, c1, rfl, hx1⟩, hb1⟩
  have HX1 := hid hx1
  have HB1 := hid hb1
  have HLO := hid (lawOf_x c1 HX1.out HCL.out)
  rw [← HM.out] at HLO
  clear hx1 hb1
  go_wp2_with fail
  refine HLO.out.mono ?_
  clear HLO
  rintro e w2 ⟨⟨a2, c2, rfl, hx2⟩, hb2⟩
  have HX2 := hid (HX1.out.below hb2)
  have HY2 := hid hx2
  have HB2 := hid (HB1.out.trans (hb2.mono HB1.out.size))
  have HCK := hid (rCheck_any _ a2 c2 ys w2 HY2.out HCL.out HF.out)
  rw [← HM.out, HC0.out] at HCK
  clear hx2 hb2 HX1 HB1
  go_wp2_with fail
  refine HCK.out.mono ?_
  clear HCK
  rintro e w3 ⟨rfl, hb3⟩
  have HX3 := hid (HX2.out.below hb3)
  have HY3 := hid (HY2.out.below hb3)
  have HB3 := hid (HB2.out.trans (hb3.mono HB2.out.size))
  have HAT := hid (HP.out.pAt _ a1 c1 ys i w3 HX3.out HCL.out HF.out HI.out)
  rw [← HM.out] at HAT
  clear hb3 HX2 HY2 HB2
  go_wp2_with fail
  refine HAT.out.mono ?_
  clear HAT
  rintro e w4 ⟨⟨pa, rfl, hpa⟩, hb4⟩
  have HPA := hid hpa
  have HX4 := hid (HX3.out.below hb4)
  have HY4 := hid (HY3.out.below hb4)
  have HB4 := hid (HB3.out.trans (hb4.mono HB3.out.size))
  have HFD := hid (HP.out.pFind _ a1 c1 ys page w4 HX4.out HCL.out HF.out HPG.out)
  rw [← HM.out] at HFD
  clear hb4 hpa HX3 HY3 HB3
  rw [← HEA.out] at HPA ⊢
  go_wp2_with fail
  refine HFD.out.mono ?_
  clear HFD
  rintro e w5 ⟨⟨kf, rfl, hkf⟩, hb5⟩
  have HKF := hid hkf
  have HX5 := hid (HX4.out.below hb5)
  have HY5 := hid (HY4.out.below hb5)
  have HB5 := hid (HB4.out.trans (hb5.mono HB4.out.size))
  have HPT := hid (part_x HP.out c1 HX5.out HCL.out HF.out HJ.out HK.out)
  rw [← HM.out] at HPT
  clear hb5 hkf HX4 HY4 HB4
  rw [← HEF.out] at HKF ⊢
  go_wp2_with fail
  refine HPT.out.mono ?_
  clear HPT
  rintro e w6 ⟨⟨a6, c6, rfl, hx6⟩, hb6⟩
  have HZ6 := hid hx6
  have HX6 := hid (HX5.out.below hb6)
  have HY6 := hid (HY5.out.below hb6)
  have HB6 := hid (HB5.out.trans (hb6.mono HB5.out.size))
  have HC7 := hid (HP.out.pCheck _ a1 c1 ys w6 HX6.out HCL.out HF.out)
  rw [← HM.out, HC0.out] at HC7
  clear hx6 hb6 HX5 HY5 HB5
  rw [← HEP.out, ← HMP.out]
  go_wp2_with fail
  refine HC7.out.mono ?_
  clear HC7
  rintro e w7 ⟨rfl, hb7⟩
  have HZ7 := hid (HZ6.out.below hb7)
  have HX7 := hid (HX6.out.below hb7)
  have HY7 := hid (HY6.out.below hb7)
  have HB7 := hid (HB6.out.trans (hb7.mono HB6.out.size))
  clear hb7 HZ6 HX6 HY6 HB6
  have HAL := hid (all_z c2 HY7.out HOK.out HCL.out)
  rw [← HM.out, ← HZS.out, ← HN.out] at HAL
  go_wp2_with fail
  refine HAL.out.mono ?_
  clear HAL
  rintro e w8 ⟨⟨a8, c8, rfl, hs8, hc8, hm8, hn8⟩, hb8⟩
  have HS8 := hid hs8
  have HZ8 := hid (HZ7.out.below hb8)
  have HX8 := hid (HX7.out.below hb8)
  have HB8 := hid (HB7.out.trans (hb8.mono HB7.out.size))
  have HN8 := hid hn8
  clear hs8 hb8 hn8 HZ7 HX7 HY7 HB7
  go_wp2_with fail
  go_loop [21, 22] (fun t jj => ∃ q : Nat, q ≤ N ∧ jj = .int .i64 (q : Int) ∧ t = .int .i64 (seekP zs page q)) (fun _ jj => N - (intOf jj).toNat)
  case atStart => exact ⟨0, Nat.zero_le _, rfl, rfl⟩
  case round =>
    obtain ⟨q, hq, rfl, rfl⟩ := hrel
    by_cases hlt : (q : Int) < N
    · obtain ⟨b, o, rfl, hcq⟩ := siCell HS8.out (k := q) (by have := HN.out; omega)
      obtain ⟨x, hx⟩ : ∃ x, x = zs.getD q 0 := ⟨_, rfl⟩
      rw [← hx] at hcq
      have hqn : (q < N) = True := eq_true (by omega)
      have HSK : Hid (seekP zs page (q + 1) = if x = page then (q : Int) else seekP zs page q) := hid (by rw [hx]; rfl)
      clear hx
      obtain ⟨S, hS⟩ : ∃ S, S = seekP zs page q := ⟨_, rfl⟩
      rw [← hS] at HSK ⊢
      clear hS
      by_cases hxp : x = page
      · rw [if_pos hxp] at HSK
        have hxe : (x == page) = true := by simpa using hxp
        clear hxp
        go_wp2_with fail
        go_round
        case rel => exact ⟨q + 1, by omega, by go_num, by rw [HSK.out]⟩
        case measure => simp [intOf]; omega
      · rw [if_neg hxp] at HSK
        have hxe : (x == page) = false := by simpa using hxp
        clear hxp
        go_wp2_with fail
        go_round
        case rel => exact ⟨q + 1, by omega, by go_num, by rw [HSK.out]⟩
        case measure => simp [intOf]; omega
    · have hqn : (q < N) = False := eq_false (by omega)
      obtain rfl : q = N := by omega
      clear hlt
      have HPP := hid (pages_z HP.out c1 HX8.out HCL.out HF.out)
      rw [← HM.out, HPX.out, ← HN.out] at HPP
      go_wp2_with fail
      refine HPP.out.mono ?_
      clear HPP
      rintro e w9 ⟨⟨a9, c9, rfl, hs9⟩, hb9⟩
      have HS9 := hid (HS8.out.below hb9)
      have HSM := hid (zSame_eq q c9 c8 zs hs9 HS9.out HN.out (by omega))
      have HX9 := hid (HX8.out.below hb9)
      have HZ9 := hid (HZ8.out.below hb9)
      have HB9 := hid (HB8.out.trans (hb9.mono HB8.out.size))
      clear hs9 hb9 HS8 HX8 HZ8 HB8
      go_wp2_with fail
      refine HSM.out.mono ?_
      clear HSM
      rintro e w10 ⟨rfl, hb10⟩
      have HS10 := hid (HS9.out.below hb10)
      have HX10 := hid (HX9.out.below hb10)
      have HZ10 := hid (HZ9.out.below hb10)
      have HB10 := hid (HB9.out.trans (hb10.mono HB9.out.size))
      have HCT := hid (HP.out.pCount _ a1 c1 ys w10 HX10.out HCL.out HF.out)
      rw [← HM.out, HPX.out, ← HN.out] at HCT
      clear hb10 HS9 HX9 HZ9 HB9
      go_wp2_with fail
      refine HCT.out.mono ?_
      clear HCT
      rintro e w11 ⟨rfl, hb11⟩
      have HS11 := hid (HS10.out.below hb11)
      have HZ11 := hid (HZ10.out.below hb11)
      have HB11 := hid (HB10.out.trans (hb11.mono HB10.out.size))
      clear hb11 HS10 HX10 HZ10 HB10
      have hqq : ((q : Int) != q) = false := by simp
      by_cases hin : page ∈ zs
      · obtain ⟨K, hK⟩ : ∃ K : Nat, K = List.idxOf page zs := ⟨_, rfl⟩
        have hS : seekP zs page q = (K : Int) := by rw [hK, HN.out]; exact seekP_in (by rw [HZS.out]; exact HND.out) hin
        obtain rfl : EF = 0 := by rw [HEF.out]; exact fdE_in HC0.out (by rw [← HZS.out]; exact hin)
        obtain rfl : kf = (K : Int) := by rw [hK, HZS.out]; exact HKF.out rfl
        rw [hS]
        have hK0 : ((K : Int) < 0) = False := eq_false (by omega)
        have hKK : ((K : Int) != K) = false := by simp
        clear hS hK hin HKF HEF
        by_cases hi1 : i < 0
        · obtain rfl : EA = 10 := by rw [HEA.out]; exact atE_out HC0.out (.inl hi1)
          have hi2 : (i < 0) = True := eq_true hi1
          clear hi1 HEA HPA
          by_cases hj1 : j < 0
          · obtain rfl : EP = 10 := by rw [HEP.out]; exact ptE_out HC0.out (.inl hj1)
            have hj2 : (j < 0) = True := eq_true hj1
            clear hj1 HEP
            go_wp2_with fail
            refine (known_any HP.out w11).mono ?_
            rintro e w12 ⟨rfl, hb12⟩
            have HB12 := hid (HB11.out.trans (hb12.mono HB11.out.size))
            clear hb12 HS11 HZ11 HB11
            go_wp2_with fail
            go_ret
            exact ⟨rfl, HB12.out⟩
          · obtain ⟨jN, rfl⟩ := Int.eq_ofNat_of_zero_le (show 0 ≤ j by omega)
            by_cases hk1 : (q : Int) < k
            · obtain rfl : EP = 10 := by rw [HEP.out]; exact ptE_out HC0.out (.inr (.inl (by rw [← HZS.out, ← HN.out]; exact hk1)))
              have hk2 : ((q : Int) < k) = True := eq_true hk1
              clear hj1 hk1 HEP
              go_wp2_with fail
              refine (known_any HP.out w11).mono ?_
              rintro e w12 ⟨rfl, hb12⟩
              have HB12 := hid (HB11.out.trans (hb12.mono HB11.out.size))
              clear hb12 HS11 HZ11 HB11
              go_wp2_with fail
              go_ret
              exact ⟨rfl, HB12.out⟩
            · by_cases hjk : k < (jN : Int)
              · obtain rfl : EP = 10 := by rw [HEP.out]; exact ptE_out HC0.out (.inr (.inr hjk))
                have hk2 : ((q : Int) < k) = False := eq_false hk1
                have hk3 : (k < (jN : Int)) = True := eq_true hjk
                clear hj1 hk1 hjk HEP
                go_wp2_with fail
                refine (known_any HP.out w11).mono ?_
                rintro e w12 ⟨rfl, hb12⟩
                have HB12 := hid (HB11.out.trans (hb12.mono HB11.out.size))
                clear hb12 HS11 HZ11 HB11
                go_wp2_with fail
                go_ret
                exact ⟨rfl, HB12.out⟩
              · obtain ⟨kN, rfl⟩ := Int.eq_ofNat_of_zero_le (show 0 ≤ k by omega)
                obtain rfl : EP = 0 := by rw [HEP.out]; exact ptE_in HC0.out (by omega) (by rw [← HZS.out, ← HN.out]; omega) (by omega)
                have hk2 : (q < kN) = False := eq_false (by omega)
                have hk3 : (kN < jN) = False := eq_false (by omega)
                have hk4 : (jN : Int) ≤ kN := by omega
                have hk5 : (kN : Int) ≤ c8 := by omega
                have hk6 : (kN : Int) ≤ q := by omega
                have hc9 : (c8 : Int) ≤ 9223372036854775807 := by unfold maxLen at hm8; omega
                clear hj1 hk1 hjk
                by_cases hcj : c8 = jN
                · have hcj2 : (c8 = jN) = True := eq_true hcj
                  have HSC : Hid (Si (Up w7.heap.size) w11 a8 (ptP ys (jN : Int) (kN : Int))) := hid (by
                    unfold ptP
                    rw [← HZS.out]
                    exact siCut HS11.out jN kN _ (fun h => absurd h (by omega)))
                  have HLL : Hid ((ptP ys (jN : Int) (kN : Int)).length = kN - jN) := hid (by
                    have := ptP_len (xs := ys) (a := (jN : Int)) (b := (kN : Int)) (by omega) (by rw [← HZS.out, ← HN.out]; exact hk6) hk4
                    omega)
                  have HXX : Hid (ptX ys (jN : Int) (kN : Int) = ofX (ptP ys (jN : Int) (kN : Int))) := hid (ptX_good HEP.out.symm)
                  have HRO := hid (refOf_x (c8 - jN) HSC.out (by rw [HLL.out]; omega))
                  rw [HLL.out, ptP_ok HC0.out, ← HXX.out, ← HMP.out] at HRO
                  have hmp2 : (mp : Int) ≤ 1024 := by
                    have := ofX_len (ps := ptP ys (jN : Int) (kN : Int))
                    rw [← HXX.out, ← HMP.out, HLL.out] at this
                    omega
                  clear hcj HSC HLL HXX HEP HPX HND HZS
                  go_wp2_with fail
                  clear hcj2 hk2 hk3 hk4 hk5 hk6
                  refine HRO.out.mono ?_
                  clear HRO
                  rintro e w12 ⟨⟨a12, c12, rfl, hx12⟩, hb12⟩
                  have HZ12 := hid (HZ11.out.below hb12)
                  have HY12 := hid hx12
                  have HB12 := hid (HB11.out.trans (hb12.mono HB11.out.size))
                  clear hx12 hb12 HS11 HZ11 HB11
                  go_wp2_with fail
                  refine (known_any HP.out w12).mono ?_
                  rintro e w13 ⟨rfl, hb13⟩
                  have HZ13 := hid (HZ12.out.below hb13)
                  have HY13 := hid (HY12.out.below hb13)
                  have HB13 := hid (HB12.out.trans (hb13.mono HB12.out.size))
                  have HLO := hid (lawOf_x c6 HZ13.out (by rw [← HMP.out]; omega))
                  rw [← HMP.out] at HLO
                  clear hb13 HZ12 HY12 HB12
                  go_wp2_with fail
                  refine HLO.out.mono ?_
                  clear HLO
                  rintro e w14 ⟨⟨a14, c14, rfl, hx14⟩, hb14⟩
                  have HB14 := hid (HB13.out.trans (hb14.mono HB13.out.size))
                  have HSX := hid (rSame_eq mp c14 c12 (ptX ys (jN : Int) (kN : Int)) hx14 (HY13.out.below hb14) HMP.out (by omega))
                  clear hx14 hb14 HZ13 HY13 HB13
                  go_wp2_with fail
                  refine HSX.out.mono ?_
                  clear HSX
                  rintro e w15 ⟨rfl, hb15⟩
                  have HB15 := hid (HB14.out.trans (hb15.mono HB14.out.size))
                  clear hb15 HB14
                  go_wp2_with fail
                  go_ret
                  exact ⟨rfl, HB15.out⟩
                · have hcj2 : (c8 = jN) = False := eq_false hcj
                  have HSC : Hid (Si (Up w7.heap.size) w11 (a8.map fun x => x.add jN) (ptP ys (jN : Int) (kN : Int))) := hid (by
                    unfold ptP
                    rw [← HZS.out]
                    exact siCut HS11.out jN kN _ (fun _ => rfl))
                  have HLL : Hid ((ptP ys (jN : Int) (kN : Int)).length = kN - jN) := hid (by
                    have := ptP_len (xs := ys) (a := (jN : Int)) (b := (kN : Int)) (by omega) (by rw [← HZS.out, ← HN.out]; exact hk6) hk4
                    omega)
                  have HXX : Hid (ptX ys (jN : Int) (kN : Int) = ofX (ptP ys (jN : Int) (kN : Int))) := hid (ptX_good HEP.out.symm)
                  have HRO := hid (refOf_x (c8 - jN) HSC.out (by rw [HLL.out]; omega))
                  rw [HLL.out, ptP_ok HC0.out, ← HXX.out, ← HMP.out] at HRO
                  have hmp2 : (mp : Int) ≤ 1024 := by
                    have := ofX_len (ps := ptP ys (jN : Int) (kN : Int))
                    rw [← HXX.out, ← HMP.out, HLL.out] at this
                    omega
                  clear hcj HSC HLL HXX HEP HPX HND HZS
                  go_wp2_with fail
                  clear hcj2 hk2 hk3 hk4 hk5 hk6
                  refine HRO.out.mono ?_
                  clear HRO
                  rintro e w12 ⟨⟨a12, c12, rfl, hx12⟩, hb12⟩
                  have HZ12 := hid (HZ11.out.below hb12)
                  have HY12 := hid hx12
                  have HB12 := hid (HB11.out.trans (hb12.mono HB11.out.size))
                  clear hx12 hb12 HS11 HZ11 HB11
                  go_wp2_with fail
                  refine (known_any HP.out w12).mono ?_
                  rintro e w13 ⟨rfl, hb13⟩
                  have HZ13 := hid (HZ12.out.below hb13)
                  have HY13 := hid (HY12.out.below hb13)
                  have HB13 := hid (HB12.out.trans (hb13.mono HB12.out.size))
                  have HLO := hid (lawOf_x c6 HZ13.out (by rw [← HMP.out]; omega))
                  rw [← HMP.out] at HLO
                  clear hb13 HZ12 HY12 HB12
                  go_wp2_with fail
                  refine HLO.out.mono ?_
                  clear HLO
                  rintro e w14 ⟨⟨a14, c14, rfl, hx14⟩, hb14⟩
                  have HB14 := hid (HB13.out.trans (hb14.mono HB13.out.size))
                  have HSX := hid (rSame_eq mp c14 c12 (ptX ys (jN : Int) (kN : Int)) hx14 (HY13.out.below hb14) HMP.out (by omega))
                  clear hx14 hb14 HZ13 HY13 HB13
                  go_wp2_with fail
                  refine HSX.out.mono ?_
                  clear HSX
                  rintro e w15 ⟨rfl, hb15⟩
                  have HB15 := hid (HB14.out.trans (hb15.mono HB14.out.size))
                  clear hb15 HB14
                  go_wp2_with fail
                  go_ret
                  exact ⟨rfl, HB15.out⟩
        · obtain ⟨iN, rfl⟩ := Int.eq_ofNat_of_zero_le (show 0 ≤ i by omega)
          by_cases hi2 : (iN : Int) < q
          · obtain rfl : EA = 0 := by rw [HEA.out]; exact atE_in HC0.out (by omega) (by rw [← HZS.out, ← HN.out]; exact hi2)
            have hi3 : (q ≤ iN) = False := eq_false (by omega)
            have hi4 : (iN < q) = True := eq_true (by omega)
            obtain ⟨b, o, rfl, hci⟩ := siCell HS11.out (k := iN) (by have := HN.out; omega)
            obtain rfl : pa = zs.getD iN 0 := by rw [HZS.out]; exact HPA.out rfl
            clear hi1 HEA HPA
            obtain ⟨x, hx⟩ : ∃ x, x = zs.getD iN 0 := ⟨_, rfl⟩
            rw [← hx] at hci ⊢
            clear hx
            have hxx : (x != x) = false := by simp
            by_cases hj1 : j < 0
            · obtain rfl : EP = 10 := by rw [HEP.out]; exact ptE_out HC0.out (.inl hj1)
              have hj2 : (j < 0) = True := eq_true hj1
              clear hj1 HEP
              go_wp2_with fail
              refine (known_any HP.out w11).mono ?_
              rintro e w12 ⟨rfl, hb12⟩
              have HB12 := hid (HB11.out.trans (hb12.mono HB11.out.size))
              clear hb12 HS11 HZ11 HB11
              go_wp2_with fail
              go_ret
              exact ⟨rfl, HB12.out⟩
            · obtain ⟨jN, rfl⟩ := Int.eq_ofNat_of_zero_le (show 0 ≤ j by omega)
              by_cases hk1 : (q : Int) < k
              · obtain rfl : EP = 10 := by rw [HEP.out]; exact ptE_out HC0.out (.inr (.inl (by rw [← HZS.out, ← HN.out]; exact hk1)))
                have hk2 : ((q : Int) < k) = True := eq_true hk1
                clear hj1 hk1 HEP
                go_wp2_with fail
                refine (known_any HP.out w11).mono ?_
                rintro e w12 ⟨rfl, hb12⟩
                have HB12 := hid (HB11.out.trans (hb12.mono HB11.out.size))
                clear hb12 HS11 HZ11 HB11
                go_wp2_with fail
                go_ret
                exact ⟨rfl, HB12.out⟩
              · by_cases hjk : k < (jN : Int)
                · obtain rfl : EP = 10 := by rw [HEP.out]; exact ptE_out HC0.out (.inr (.inr hjk))
                  have hk2 : ((q : Int) < k) = False := eq_false hk1
                  have hk3 : (k < (jN : Int)) = True := eq_true hjk
                  clear hj1 hk1 hjk HEP
                  go_wp2_with fail
                  refine (known_any HP.out w11).mono ?_
                  rintro e w12 ⟨rfl, hb12⟩
                  have HB12 := hid (HB11.out.trans (hb12.mono HB11.out.size))
                  clear hb12 HS11 HZ11 HB11
                  go_wp2_with fail
                  go_ret
                  exact ⟨rfl, HB12.out⟩
                · obtain ⟨kN, rfl⟩ := Int.eq_ofNat_of_zero_le (show 0 ≤ k by omega)
                  obtain rfl : EP = 0 := by rw [HEP.out]; exact ptE_in HC0.out (by omega) (by rw [← HZS.out, ← HN.out]; omega) (by omega)
                  have hk2 : (q < kN) = False := eq_false (by omega)
                  have hk3 : (kN < jN) = False := eq_false (by omega)
                  have hk4 : (jN : Int) ≤ kN := by omega
                  have hk5 : (kN : Int) ≤ c8 := by omega
                  have hk6 : (kN : Int) ≤ q := by omega
                  have hc9 : (c8 : Int) ≤ 9223372036854775807 := by unfold maxLen at hm8; omega
                  clear hj1 hk1 hjk
                  by_cases hcj : c8 = jN
                  · have hcj2 : (c8 = jN) = True := eq_true hcj
                    have HSC : Hid (Si (Up w7.heap.size) w11 (some ⟨b, o, none⟩) (ptP ys (jN : Int) (kN : Int))) := hid (by
                      unfold ptP
                      rw [← HZS.out]
                      exact siCut HS11.out jN kN _ (fun h => absurd h (by omega)))
                    have HLL : Hid ((ptP ys (jN : Int) (kN : Int)).length = kN - jN) := hid (by
                      have := ptP_len (xs := ys) (a := (jN : Int)) (b := (kN : Int)) (by omega) (by rw [← HZS.out, ← HN.out]; exact hk6) hk4
                      omega)
                    have HXX : Hid (ptX ys (jN : Int) (kN : Int) = ofX (ptP ys (jN : Int) (kN : Int))) := hid (ptX_good HEP.out.symm)
                    have HRO := hid (refOf_x (c8 - jN) HSC.out (by rw [HLL.out]; omega))
                    rw [HLL.out, ptP_ok HC0.out, ← HXX.out, ← HMP.out] at HRO
                    have hmp2 : (mp : Int) ≤ 1024 := by
                      have := ofX_len (ps := ptP ys (jN : Int) (kN : Int))
                      rw [← HXX.out, ← HMP.out, HLL.out] at this
                      omega
                    clear hcj HSC HLL HXX HEP HPX HND HZS
                    go_wp2_with fail
                    clear hcj2 hk2 hk3 hk4 hk5 hk6
                    refine HRO.out.mono ?_
                    clear HRO
                    rintro e w12 ⟨⟨a12, c12, rfl, hx12⟩, hb12⟩
                    have HZ12 := hid (HZ11.out.below hb12)
                    have HY12 := hid hx12
                    have HB12 := hid (HB11.out.trans (hb12.mono HB11.out.size))
                    clear hx12 hb12 HS11 HZ11 HB11
                    go_wp2_with fail
                    refine (known_any HP.out w12).mono ?_
                    rintro e w13 ⟨rfl, hb13⟩
                    have HZ13 := hid (HZ12.out.below hb13)
                    have HY13 := hid (HY12.out.below hb13)
                    have HB13 := hid (HB12.out.trans (hb13.mono HB12.out.size))
                    have HLO := hid (lawOf_x c6 HZ13.out (by rw [← HMP.out]; omega))
                    rw [← HMP.out] at HLO
                    clear hb13 HZ12 HY12 HB12
                    go_wp2_with fail
                    refine HLO.out.mono ?_
                    clear HLO
                    rintro e w14 ⟨⟨a14, c14, rfl, hx14⟩, hb14⟩
                    have HB14 := hid (HB13.out.trans (hb14.mono HB13.out.size))
                    have HSX := hid (rSame_eq mp c14 c12 (ptX ys (jN : Int) (kN : Int)) hx14 (HY13.out.below hb14) HMP.out (by omega))
                    clear hx14 hb14 HZ13 HY13 HB13
                    go_wp2_with fail
                    refine HSX.out.mono ?_
                    clear HSX
                    rintro e w15 ⟨rfl, hb15⟩
                    have HB15 := hid (HB14.out.trans (hb15.mono HB14.out.size))
                    clear hb15 HB14
                    go_wp2_with fail
                    go_ret
                    exact ⟨rfl, HB15.out⟩
                  · have hcj2 : (c8 = jN) = False := eq_false hcj
                    have HSC : Hid (Si (Up w7.heap.size) w11 (some ⟨b, o + jN, none⟩) (ptP ys (jN : Int) (kN : Int))) := hid (by
                      unfold ptP
                      rw [← HZS.out]
                      exact siCut HS11.out jN kN _ (fun _ => by simp [Addr.add]))
                    have HLL : Hid ((ptP ys (jN : Int) (kN : Int)).length = kN - jN) := hid (by
                      have := ptP_len (xs := ys) (a := (jN : Int)) (b := (kN : Int)) (by omega) (by rw [← HZS.out, ← HN.out]; exact hk6) hk4
                      omega)
                    have HXX : Hid (ptX ys (jN : Int) (kN : Int) = ofX (ptP ys (jN : Int) (kN : Int))) := hid (ptX_good HEP.out.symm)
                    have HRO := hid (refOf_x (c8 - jN) HSC.out (by rw [HLL.out]; omega))
                    rw [HLL.out, ptP_ok HC0.out, ← HXX.out, ← HMP.out] at HRO
                    have hmp2 : (mp : Int) ≤ 1024 := by
                      have := ofX_len (ps := ptP ys (jN : Int) (kN : Int))
                      rw [← HXX.out, ← HMP.out, HLL.out] at this
                      omega
                    clear hcj HSC HLL HXX HEP HPX HND HZS
                    go_wp2_with fail
                    clear hcj2 hk2 hk3 hk4 hk5 hk6
                    refine HRO.out.mono ?_
                    clear HRO
                    rintro e w12 ⟨⟨a12, c12, rfl, hx12⟩, hb12⟩
                    have HZ12 := hid (HZ11.out.below hb12)
                    have HY12 := hid hx12
                    have HB12 := hid (HB11.out.trans (hb12.mono HB11.out.size))
                    clear hx12 hb12 HS11 HZ11 HB11
                    go_wp2_with fail
                    refine (known_any HP.out w12).mono ?_
                    rintro e w13 ⟨rfl, hb13⟩
                    have HZ13 := hid (HZ12.out.below hb13)
                    have HY13 := hid (HY12.out.below hb13)
                    have HB13 := hid (HB12.out.trans (hb13.mono HB12.out.size))
                    have HLO := hid (lawOf_x c6 HZ13.out (by rw [← HMP.out]; omega))
                    rw [← HMP.out] at HLO
                    clear hb13 HZ12 HY12 HB12
                    go_wp2_with fail
                    refine HLO.out.mono ?_
                    clear HLO
                    rintro e w14 ⟨⟨a14, c14, rfl, hx14⟩, hb14⟩
                    have HB14 := hid (HB13.out.trans (hb14.mono HB13.out.size))
                    have HSX := hid (rSame_eq mp c14 c12 (ptX ys (jN : Int) (kN : Int)) hx14 (HY13.out.below hb14) HMP.out (by omega))
                    clear hx14 hb14 HZ13 HY13 HB13
                    go_wp2_with fail
                    refine HSX.out.mono ?_
                    clear HSX
                    rintro e w15 ⟨rfl, hb15⟩
                    have HB15 := hid (HB14.out.trans (hb15.mono HB14.out.size))
                    clear hb15 HB14
                    go_wp2_with fail
                    go_ret
                    exact ⟨rfl, HB15.out⟩
          · obtain rfl : EA = 10 := by rw [HEA.out]; exact atE_out HC0.out (.inr (by rw [← HZS.out, ← HN.out]; omega))
            have hi3 : (q ≤ iN) = True := eq_true (by omega)
            clear hi1 hi2 HEA HPA
            by_cases hj1 : j < 0
            · obtain rfl : EP = 10 := by rw [HEP.out]; exact ptE_out HC0.out (.inl hj1)
              have hj2 : (j < 0) = True := eq_true hj1
              clear hj1 HEP
              go_wp2_with fail
              refine (known_any HP.out w11).mono ?_
              rintro e w12 ⟨rfl, hb12⟩
              have HB12 := hid (HB11.out.trans (hb12.mono HB11.out.size))
              clear hb12 HS11 HZ11 HB11
              go_wp2_with fail
              go_ret
              exact ⟨rfl, HB12.out⟩
            · obtain ⟨jN, rfl⟩ := Int.eq_ofNat_of_zero_le (show 0 ≤ j by omega)
              by_cases hk1 : (q : Int) < k
              · obtain rfl : EP = 10 := by rw [HEP.out]; exact ptE_out HC0.out (.inr (.inl (by rw [← HZS.out, ← HN.out]; exact hk1)))
                have hk2 : ((q : Int) < k) = True := eq_true hk1
                clear hj1 hk1 HEP
                go_wp2_with fail
                refine (known_any HP.out w11).mono ?_
                rintro e w12 ⟨rfl, hb12⟩
                have HB12 := hid (HB11.out.trans (hb12.mono HB11.out.size))
                clear hb12 HS11 HZ11 HB11
                go_wp2_with fail
                go_ret
                exact ⟨rfl, HB12.out⟩
              · by_cases hjk : k < (jN : Int)
                · obtain rfl : EP = 10 := by rw [HEP.out]; exact ptE_out HC0.out (.inr (.inr hjk))
                  have hk2 : ((q : Int) < k) = False := eq_false hk1
                  have hk3 : (k < (jN : Int)) = True := eq_true hjk
                  clear hj1 hk1 hjk HEP
                  go_wp2_with fail
                  refine (known_any HP.out w11).mono ?_
                  rintro e w12 ⟨rfl, hb12⟩
                  have HB12 := hid (HB11.out.trans (hb12.mono HB11.out.size))
                  clear hb12 HS11 HZ11 HB11
                  go_wp2_with fail
                  go_ret
                  exact ⟨rfl, HB12.out⟩
                · obtain ⟨kN, rfl⟩ := Int.eq_ofNat_of_zero_le (show 0 ≤ k by omega)
                  obtain rfl : EP = 0 := by rw [HEP.out]; exact ptE_in HC0.out (by omega) (by rw [← HZS.out, ← HN.out]; omega) (by omega)
                  have hk2 : (q < kN) = False := eq_false (by omega)
                  have hk3 : (kN < jN) = False := eq_false (by omega)
                  have hk4 : (jN : Int) ≤ kN := by omega
                  have hk5 : (kN : Int) ≤ c8 := by omega
                  have hk6 : (kN : Int) ≤ q := by omega
                  have hc9 : (c8 : Int) ≤ 9223372036854775807 := by unfold maxLen at hm8; omega
                  clear hj1 hk1 hjk
                  by_cases hcj : c8 = jN
                  · have hcj2 : (c8 = jN) = True := eq_true hcj
                    have HSC : Hid (Si (Up w7.heap.size) w11 a8 (ptP ys (jN : Int) (kN : Int))) := hid (by
                      unfold ptP
                      rw [← HZS.out]
                      exact siCut HS11.out jN kN _ (fun h => absurd h (by omega)))
                    have HLL : Hid ((ptP ys (jN : Int) (kN : Int)).length = kN - jN) := hid (by
                      have := ptP_len (xs := ys) (a := (jN : Int)) (b := (kN : Int)) (by omega) (by rw [← HZS.out, ← HN.out]; exact hk6) hk4
                      omega)
                    have HXX : Hid (ptX ys (jN : Int) (kN : Int) = ofX (ptP ys (jN : Int) (kN : Int))) := hid (ptX_good HEP.out.symm)
                    have HRO := hid (refOf_x (c8 - jN) HSC.out (by rw [HLL.out]; omega))
                    rw [HLL.out, ptP_ok HC0.out, ← HXX.out, ← HMP.out] at HRO
                    have hmp2 : (mp : Int) ≤ 1024 := by
                      have := ofX_len (ps := ptP ys (jN : Int) (kN : Int))
                      rw [← HXX.out, ← HMP.out, HLL.out] at this
                      omega
                    clear hcj HSC HLL HXX HEP HPX HND HZS
                    go_wp2_with fail
                    clear hcj2 hk2 hk3 hk4 hk5 hk6
                    refine HRO.out.mono ?_
                    clear HRO
                    rintro e w12 ⟨⟨a12, c12, rfl, hx12⟩, hb12⟩
                    have HZ12 := hid (HZ11.out.below hb12)
                    have HY12 := hid hx12
                    have HB12 := hid (HB11.out.trans (hb12.mono HB11.out.size))
                    clear hx12 hb12 HS11 HZ11 HB11
                    go_wp2_with fail
                    refine (known_any HP.out w12).mono ?_
                    rintro e w13 ⟨rfl, hb13⟩
                    have HZ13 := hid (HZ12.out.below hb13)
                    have HY13 := hid (HY12.out.below hb13)
                    have HB13 := hid (HB12.out.trans (hb13.mono HB12.out.size))
                    have HLO := hid (lawOf_x c6 HZ13.out (by rw [← HMP.out]; omega))
                    rw [← HMP.out] at HLO
                    clear hb13 HZ12 HY12 HB12
                    go_wp2_with fail
                    refine HLO.out.mono ?_
                    clear HLO
                    rintro e w14 ⟨⟨a14, c14, rfl, hx14⟩, hb14⟩
                    have HB14 := hid (HB13.out.trans (hb14.mono HB13.out.size))
                    have HSX := hid (rSame_eq mp c14 c12 (ptX ys (jN : Int) (kN : Int)) hx14 (HY13.out.below hb14) HMP.out (by omega))
                    clear hx14 hb14 HZ13 HY13 HB13
                    go_wp2_with fail
                    refine HSX.out.mono ?_
                    clear HSX
                    rintro e w15 ⟨rfl, hb15⟩
                    have HB15 := hid (HB14.out.trans (hb15.mono HB14.out.size))
                    clear hb15 HB14
                    go_wp2_with fail
                    go_ret
                    exact ⟨rfl, HB15.out⟩
                  · have hcj2 : (c8 = jN) = False := eq_false hcj
                    have HSC : Hid (Si (Up w7.heap.size) w11 (a8.map fun x => x.add jN) (ptP ys (jN : Int) (kN : Int))) := hid (by
                      unfold ptP
                      rw [← HZS.out]
                      exact siCut HS11.out jN kN _ (fun _ => rfl))
                    have HLL : Hid ((ptP ys (jN : Int) (kN : Int)).length = kN - jN) := hid (by
                      have := ptP_len (xs := ys) (a := (jN : Int)) (b := (kN : Int)) (by omega) (by rw [← HZS.out, ← HN.out]; exact hk6) hk4
                      omega)
                    have HXX : Hid (ptX ys (jN : Int) (kN : Int) = ofX (ptP ys (jN : Int) (kN : Int))) := hid (ptX_good HEP.out.symm)
                    have HRO := hid (refOf_x (c8 - jN) HSC.out (by rw [HLL.out]; omega))
                    rw [HLL.out, ptP_ok HC0.out, ← HXX.out, ← HMP.out] at HRO
                    have hmp2 : (mp : Int) ≤ 1024 := by
                      have := ofX_len (ps := ptP ys (jN : Int) (kN : Int))
                      rw [← HXX.out, ← HMP.out, HLL.out] at this
                      omega
                    clear hcj HSC HLL HXX HEP HPX HND HZS
                    go_wp2_with fail
                    clear hcj2 hk2 hk3 hk4 hk5 hk6
                    refine HRO.out.mono ?_
                    clear HRO
                    rintro e w12 ⟨⟨a12, c12, rfl, hx12⟩, hb12⟩
                    have HZ12 := hid (HZ11.out.below hb12)
                    have HY12 := hid hx12
                    have HB12 := hid (HB11.out.trans (hb12.mono HB11.out.size))
                    clear hx12 hb12 HS11 HZ11 HB11
                    go_wp2_with fail
                    refine (known_any HP.out w12).mono ?_
                    rintro e w13 ⟨rfl, hb13⟩
                    have HZ13 := hid (HZ12.out.below hb13)
                    have HY13 := hid (HY12.out.below hb13)
                    have HB13 := hid (HB12.out.trans (hb13.mono HB12.out.size))
                    have HLO := hid (lawOf_x c6 HZ13.out (by rw [← HMP.out]; omega))
                    rw [← HMP.out] at HLO
                    clear hb13 HZ12 HY12 HB12
                    go_wp2_with fail
                    refine HLO.out.mono ?_
                    clear HLO
                    rintro e w14 ⟨⟨a14, c14, rfl, hx14⟩, hb14⟩
                    have HB14 := hid (HB13.out.trans (hb14.mono HB13.out.size))
                    have HSX := hid (rSame_eq mp c14 c12 (ptX ys (jN : Int) (kN : Int)) hx14 (HY13.out.below hb14) HMP.out (by omega))
                    clear hx14 hb14 HZ13 HY13 HB13
                    go_wp2_with fail
                    refine HSX.out.mono ?_
                    clear HSX
                    rintro e w15 ⟨rfl, hb15⟩
                    have HB15 := hid (HB14.out.trans (hb15.mono HB14.out.size))
                    clear hb15 HB14
                    go_wp2_with fail
                    go_ret
                    exact ⟨rfl, HB15.out⟩
      · have hS : seekP zs page q = -1 := by rw [HN.out]; exact seekP_out _ (Nat.le_refl _) hin
        obtain rfl : EF = 7 := by rw [HEF.out]; exact fdE_out HC0.out (by rw [← HZS.out]; exact hin)
        rw [hS]
        clear hS hin HKF HEF
        by_cases hi1 : i < 0
        · obtain rfl : EA = 10 := by rw [HEA.out]; exact atE_out HC0.out (.inl hi1)
          have hi2 : (i < 0) = True := eq_true hi1
          clear hi1 HEA HPA
          by_cases hj1 : j < 0
          · obtain rfl : EP = 10 := by rw [HEP.out]; exact ptE_out HC0.out (.inl hj1)
            have hj2 : (j < 0) = True := eq_true hj1
            clear hj1 HEP
            go_wp2_with fail
            refine (known_any HP.out w11).mono ?_
            rintro e w12 ⟨rfl, hb12⟩
            have HB12 := hid (HB11.out.trans (hb12.mono HB11.out.size))
            clear hb12 HS11 HZ11 HB11
            go_wp2_with fail
            go_ret
            exact ⟨rfl, HB12.out⟩
          · obtain ⟨jN, rfl⟩ := Int.eq_ofNat_of_zero_le (show 0 ≤ j by omega)
            by_cases hk1 : (q : Int) < k
            · obtain rfl : EP = 10 := by rw [HEP.out]; exact ptE_out HC0.out (.inr (.inl (by rw [← HZS.out, ← HN.out]; exact hk1)))
              have hk2 : ((q : Int) < k) = True := eq_true hk1
              clear hj1 hk1 HEP
              go_wp2_with fail
              refine (known_any HP.out w11).mono ?_
              rintro e w12 ⟨rfl, hb12⟩
              have HB12 := hid (HB11.out.trans (hb12.mono HB11.out.size))
              clear hb12 HS11 HZ11 HB11
              go_wp2_with fail
              go_ret
              exact ⟨rfl, HB12.out⟩
            · by_cases hjk : k < (jN : Int)
              · obtain rfl : EP = 10 := by rw [HEP.out]; exact ptE_out HC0.out (.inr (.inr hjk))
                have hk2 : ((q : Int) < k) = False := eq_false hk1
                have hk3 : (k < (jN : Int)) = True := eq_true hjk
                clear hj1 hk1 hjk HEP
                go_wp2_with fail
                refine (known_any HP.out w11).mono ?_
                rintro e w12 ⟨rfl, hb12⟩
                have HB12 := hid (HB11.out.trans (hb12.mono HB11.out.size))
                clear hb12 HS11 HZ11 HB11
                go_wp2_with fail
                go_ret
                exact ⟨rfl, HB12.out⟩
              · obtain ⟨kN, rfl⟩ := Int.eq_ofNat_of_zero_le (show 0 ≤ k by omega)
                obtain rfl : EP = 0 := by rw [HEP.out]; exact ptE_in HC0.out (by omega) (by rw [← HZS.out, ← HN.out]; omega) (by omega)
                have hk2 : (q < kN) = False := eq_false (by omega)
                have hk3 : (kN < jN) = False := eq_false (by omega)
                have hk4 : (jN : Int) ≤ kN := by omega
                have hk5 : (kN : Int) ≤ c8 := by omega
                have hk6 : (kN : Int) ≤ q := by omega
                have hc9 : (c8 : Int) ≤ 9223372036854775807 := by unfold maxLen at hm8; omega
                clear hj1 hk1 hjk
                by_cases hcj : c8 = jN
                · have hcj2 : (c8 = jN) = True := eq_true hcj
                  have HSC : Hid (Si (Up w7.heap.size) w11 a8 (ptP ys (jN : Int) (kN : Int))) := hid (by
                    unfold ptP
                    rw [← HZS.out]
                    exact siCut HS11.out jN kN _ (fun h => absurd h (by omega)))
                  have HLL : Hid ((ptP ys (jN : Int) (kN : Int)).length = kN - jN) := hid (by
                    have := ptP_len (xs := ys) (a := (jN : Int)) (b := (kN : Int)) (by omega) (by rw [← HZS.out, ← HN.out]; exact hk6) hk4
                    omega)
                  have HXX : Hid (ptX ys (jN : Int) (kN : Int) = ofX (ptP ys (jN : Int) (kN : Int))) := hid (ptX_good HEP.out.symm)
                  have HRO := hid (refOf_x (c8 - jN) HSC.out (by rw [HLL.out]; omega))
                  rw [HLL.out, ptP_ok HC0.out, ← HXX.out, ← HMP.out] at HRO
                  have hmp2 : (mp : Int) ≤ 1024 := by
                    have := ofX_len (ps := ptP ys (jN : Int) (kN : Int))
                    rw [← HXX.out, ← HMP.out, HLL.out] at this
                    omega
                  clear hcj HSC HLL HXX HEP HPX HND HZS
                  go_wp2_with fail
                  clear hcj2 hk2 hk3 hk4 hk5 hk6
                  refine HRO.out.mono ?_
                  clear HRO
                  rintro e w12 ⟨⟨a12, c12, rfl, hx12⟩, hb12⟩
                  have HZ12 := hid (HZ11.out.below hb12)
                  have HY12 := hid hx12
                  have HB12 := hid (HB11.out.trans (hb12.mono HB11.out.size))
                  clear hx12 hb12 HS11 HZ11 HB11
                  go_wp2_with fail
                  refine (known_any HP.out w12).mono ?_
                  rintro e w13 ⟨rfl, hb13⟩
                  have HZ13 := hid (HZ12.out.below hb13)
                  have HY13 := hid (HY12.out.below hb13)
                  have HB13 := hid (HB12.out.trans (hb13.mono HB12.out.size))
                  have HLO := hid (lawOf_x c6 HZ13.out (by rw [← HMP.out]; omega))
                  rw [← HMP.out] at HLO
                  clear hb13 HZ12 HY12 HB12
                  go_wp2_with fail
                  refine HLO.out.mono ?_
                  clear HLO
                  rintro e w14 ⟨⟨a14, c14, rfl, hx14⟩, hb14⟩
                  have HB14 := hid (HB13.out.trans (hb14.mono HB13.out.size))
                  have HSX := hid (rSame_eq mp c14 c12 (ptX ys (jN : Int) (kN : Int)) hx14 (HY13.out.below hb14) HMP.out (by omega))
                  clear hx14 hb14 HZ13 HY13 HB13
                  go_wp2_with fail
                  refine HSX.out.mono ?_
                  clear HSX
                  rintro e w15 ⟨rfl, hb15⟩
                  have HB15 := hid (HB14.out.trans (hb15.mono HB14.out.size))
                  clear hb15 HB14
                  go_wp2_with fail
                  go_ret
                  exact ⟨rfl, HB15.out⟩
                · have hcj2 : (c8 = jN) = False := eq_false hcj
                  have HSC : Hid (Si (Up w7.heap.size) w11 (a8.map fun x => x.add jN) (ptP ys (jN : Int) (kN : Int))) := hid (by
                    unfold ptP
                    rw [← HZS.out]
                    exact siCut HS11.out jN kN _ (fun _ => rfl))
                  have HLL : Hid ((ptP ys (jN : Int) (kN : Int)).length = kN - jN) := hid (by
                    have := ptP_len (xs := ys) (a := (jN : Int)) (b := (kN : Int)) (by omega) (by rw [← HZS.out, ← HN.out]; exact hk6) hk4
                    omega)
                  have HXX : Hid (ptX ys (jN : Int) (kN : Int) = ofX (ptP ys (jN : Int) (kN : Int))) := hid (ptX_good HEP.out.symm)
                  have HRO := hid (refOf_x (c8 - jN) HSC.out (by rw [HLL.out]; omega))
                  rw [HLL.out, ptP_ok HC0.out, ← HXX.out, ← HMP.out] at HRO
                  have hmp2 : (mp : Int) ≤ 1024 := by
                    have := ofX_len (ps := ptP ys (jN : Int) (kN : Int))
                    rw [← HXX.out, ← HMP.out, HLL.out] at this
                    omega
                  clear hcj HSC HLL HXX HEP HPX HND HZS
                  go_wp2_with fail
                  clear hcj2 hk2 hk3 hk4 hk5 hk6
                  refine HRO.out.mono ?_
                  clear HRO
                  rintro e w12 ⟨⟨a12, c12, rfl, hx12⟩, hb12⟩
                  have HZ12 := hid (HZ11.out.below hb12)
                  have HY12 := hid hx12
                  have HB12 := hid (HB11.out.trans (hb12.mono HB11.out.size))
                  clear hx12 hb12 HS11 HZ11 HB11
                  go_wp2_with fail
                  refine (known_any HP.out w12).mono ?_
                  rintro e w13 ⟨rfl, hb13⟩
                  have HZ13 := hid (HZ12.out.below hb13)
                  have HY13 := hid (HY12.out.below hb13)
                  have HB13 := hid (HB12.out.trans (hb13.mono HB12.out.size))
                  have HLO := hid (lawOf_x c6 HZ13.out (by rw [← HMP.out]; omega))
                  rw [← HMP.out] at HLO
                  clear hb13 HZ12 HY12 HB12
                  go_wp2_with fail
                  refine HLO.out.mono ?_
                  clear HLO
                  rintro e w14 ⟨⟨a14, c14, rfl, hx14⟩, hb14⟩
                  have HB14 := hid (HB13.out.trans (hb14.mono HB13.out.size))
                  have HSX := hid (rSame_eq mp c14 c12 (ptX ys (jN : Int) (kN : Int)) hx14 (HY13.out.below hb14) HMP.out (by omega))
                  clear hx14 hb14 HZ13 HY13 HB13
                  go_wp2_with fail
                  refine HSX.out.mono ?_
                  clear HSX
                  rintro e w15 ⟨rfl, hb15⟩
                  have HB15 := hid (HB14.out.trans (hb15.mono HB14.out.size))
                  clear hb15 HB14
                  go_wp2_with fail
                  go_ret
                  exact ⟨rfl, HB15.out⟩
        · obtain ⟨iN, rfl⟩ := Int.eq_ofNat_of_zero_le (show 0 ≤ i by omega)
          by_cases hi2 : (iN : Int) < q
          · obtain rfl : EA = 0 := by rw [HEA.out]; exact atE_in HC0.out (by omega) (by rw [← HZS.out, ← HN.out]; exact hi2)
            have hi3 : (q ≤ iN) = False := eq_false (by omega)
            have hi4 : (iN < q) = True := eq_true (by omega)
            obtain ⟨b, o, rfl, hci⟩ := siCell HS11.out (k := iN) (by have := HN.out; omega)
            obtain rfl : pa = zs.getD iN 0 := by rw [HZS.out]; exact HPA.out rfl
            clear hi1 HEA HPA
            obtain ⟨x, hx⟩ : ∃ x, x = zs.getD iN 0 := ⟨_, rfl⟩
            rw [← hx] at hci ⊢
            clear hx
            have hxx : (x != x) = false := by simp
            by_cases hj1 : j < 0
            · obtain rfl : EP = 10 := by rw [HEP.out]; exact ptE_out HC0.out (.inl hj1)
              have hj2 : (j < 0) = True := eq_true hj1
              clear hj1 HEP
              go_wp2_with fail
              refine (known_any HP.out w11).mono ?_
              rintro e w12 ⟨rfl, hb12⟩
              have HB12 := hid (HB11.out.trans (hb12.mono HB11.out.size))
              clear hb12 HS11 HZ11 HB11
              go_wp2_with fail
              go_ret
              exact ⟨rfl, HB12.out⟩
            · obtain ⟨jN, rfl⟩ := Int.eq_ofNat_of_zero_le (show 0 ≤ j by omega)
              by_cases hk1 : (q : Int) < k
              · obtain rfl : EP = 10 := by rw [HEP.out]; exact ptE_out HC0.out (.inr (.inl (by rw [← HZS.out, ← HN.out]; exact hk1)))
                have hk2 : ((q : Int) < k) = True := eq_true hk1
                clear hj1 hk1 HEP
                go_wp2_with fail
                refine (known_any HP.out w11).mono ?_
                rintro e w12 ⟨rfl, hb12⟩
                have HB12 := hid (HB11.out.trans (hb12.mono HB11.out.size))
                clear hb12 HS11 HZ11 HB11
                go_wp2_with fail
                go_ret
                exact ⟨rfl, HB12.out⟩
              · by_cases hjk : k < (jN : Int)
                · obtain rfl : EP = 10 := by rw [HEP.out]; exact ptE_out HC0.out (.inr (.inr hjk))
                  have hk2 : ((q : Int) < k) = False := eq_false hk1
                  have hk3 : (k < (jN : Int)) = True := eq_true hjk
                  clear hj1 hk1 hjk HEP
                  go_wp2_with fail
                  refine (known_any HP.out w11).mono ?_
                  rintro e w12 ⟨rfl, hb12⟩
                  have HB12 := hid (HB11.out.trans (hb12.mono HB11.out.size))
                  clear hb12 HS11 HZ11 HB11
                  go_wp2_with fail
                  go_ret
                  exact ⟨rfl, HB12.out⟩
                · obtain ⟨kN, rfl⟩ := Int.eq_ofNat_of_zero_le (show 0 ≤ k by omega)
                  obtain rfl : EP = 0 := by rw [HEP.out]; exact ptE_in HC0.out (by omega) (by rw [← HZS.out, ← HN.out]; omega) (by omega)
                  have hk2 : (q < kN) = False := eq_false (by omega)
                  have hk3 : (kN < jN) = False := eq_false (by omega)
                  have hk4 : (jN : Int) ≤ kN := by omega
                  have hk5 : (kN : Int) ≤ c8 := by omega
                  have hk6 : (kN : Int) ≤ q := by omega
                  have hc9 : (c8 : Int) ≤ 9223372036854775807 := by unfold maxLen at hm8; omega
                  clear hj1 hk1 hjk
                  by_cases hcj : c8 = jN
                  · have hcj2 : (c8 = jN) = True := eq_true hcj
                    have HSC : Hid (Si (Up w7.heap.size) w11 (some ⟨b, o, none⟩) (ptP ys (jN : Int) (kN : Int))) := hid (by
                      unfold ptP
                      rw [← HZS.out]
                      exact siCut HS11.out jN kN _ (fun h => absurd h (by omega)))
                    have HLL : Hid ((ptP ys (jN : Int) (kN : Int)).length = kN - jN) := hid (by
                      have := ptP_len (xs := ys) (a := (jN : Int)) (b := (kN : Int)) (by omega) (by rw [← HZS.out, ← HN.out]; exact hk6) hk4
                      omega)
                    have HXX : Hid (ptX ys (jN : Int) (kN : Int) = ofX (ptP ys (jN : Int) (kN : Int))) := hid (ptX_good HEP.out.symm)
                    have HRO := hid (refOf_x (c8 - jN) HSC.out (by rw [HLL.out]; omega))
                    rw [HLL.out, ptP_ok HC0.out, ← HXX.out, ← HMP.out] at HRO
                    have hmp2 : (mp : Int) ≤ 1024 := by
                      have := ofX_len (ps := ptP ys (jN : Int) (kN : Int))
                      rw [← HXX.out, ← HMP.out, HLL.out] at this
                      omega
                    clear hcj HSC HLL HXX HEP HPX HND HZS
                    go_wp2_with fail
                    clear hcj2 hk2 hk3 hk4 hk5 hk6
                    refine HRO.out.mono ?_
                    clear HRO
                    rintro e w12 ⟨⟨a12, c12, rfl, hx12⟩, hb12⟩
                    have HZ12 := hid (HZ11.out.below hb12)
                    have HY12 := hid hx12
                    have HB12 := hid (HB11.out.trans (hb12.mono HB11.out.size))
                    clear hx12 hb12 HS11 HZ11 HB11
                    go_wp2_with fail
                    refine (known_any HP.out w12).mono ?_
                    rintro e w13 ⟨rfl, hb13⟩
                    have HZ13 := hid (HZ12.out.below hb13)
                    have HY13 := hid (HY12.out.below hb13)
                    have HB13 := hid (HB12.out.trans (hb13.mono HB12.out.size))
                    have HLO := hid (lawOf_x c6 HZ13.out (by rw [← HMP.out]; omega))
                    rw [← HMP.out] at HLO
                    clear hb13 HZ12 HY12 HB12
                    go_wp2_with fail
                    refine HLO.out.mono ?_
                    clear HLO
                    rintro e w14 ⟨⟨a14, c14, rfl, hx14⟩, hb14⟩
                    have HB14 := hid (HB13.out.trans (hb14.mono HB13.out.size))
                    have HSX := hid (rSame_eq mp c14 c12 (ptX ys (jN : Int) (kN : Int)) hx14 (HY13.out.below hb14) HMP.out (by omega))
                    clear hx14 hb14 HZ13 HY13 HB13
                    go_wp2_with fail
                    refine HSX.out.mono ?_
                    clear HSX
                    rintro e w15 ⟨rfl, hb15⟩
                    have HB15 := hid (HB14.out.trans (hb15.mono HB14.out.size))
                    clear hb15 HB14
                    go_wp2_with fail
                    go_ret
                    exact ⟨rfl, HB15.out⟩
                  · have hcj2 : (c8 = jN) = False := eq_false hcj
                    have HSC : Hid (Si (Up w7.heap.size) w11 (some ⟨b, o + jN, none⟩) (ptP ys (jN : Int) (kN : Int))) := hid (by
                      unfold ptP
                      rw [← HZS.out]
                      exact siCut HS11.out jN kN _ (fun _ => by simp [Addr.add]))
                    have HLL : Hid ((ptP ys (jN : Int) (kN : Int)).length = kN - jN) := hid (by
                      have := ptP_len (xs := ys) (a := (jN : Int)) (b := (kN : Int)) (by omega) (by rw [← HZS.out, ← HN.out]; exact hk6) hk4
                      omega)
                    have HXX : Hid (ptX ys (jN : Int) (kN : Int) = ofX (ptP ys (jN : Int) (kN : Int))) := hid (ptX_good HEP.out.symm)
                    have HRO := hid (refOf_x (c8 - jN) HSC.out (by rw [HLL.out]; omega))
                    rw [HLL.out, ptP_ok HC0.out, ← HXX.out, ← HMP.out] at HRO
                    have hmp2 : (mp : Int) ≤ 1024 := by
                      have := ofX_len (ps := ptP ys (jN : Int) (kN : Int))
                      rw [← HXX.out, ← HMP.out, HLL.out] at this
                      omega
                    clear hcj HSC HLL HXX HEP HPX HND HZS
                    go_wp2_with fail
                    clear hcj2 hk2 hk3 hk4 hk5 hk6
                    refine HRO.out.mono ?_
                    clear HRO
                    rintro e w12 ⟨⟨a12, c12, rfl, hx12⟩, hb12⟩
                    have HZ12 := hid (HZ11.out.below hb12)
                    have HY12 := hid hx12
                    have HB12 := hid (HB11.out.trans (hb12.mono HB11.out.size))
                    clear hx12 hb12 HS11 HZ11 HB11
                    go_wp2_with fail
                    refine (known_any HP.out w12).mono ?_
                    rintro e w13 ⟨rfl, hb13⟩
                    have HZ13 := hid (HZ12.out.below hb13)
                    have HY13 := hid (HY12.out.below hb13)
                    have HB13 := hid (HB12.out.trans (hb13.mono HB12.out.size))
                    have HLO := hid (lawOf_x c6 HZ13.out (by rw [← HMP.out]; omega))
                    rw [← HMP.out] at HLO
                    clear hb13 HZ12 HY12 HB12
                    go_wp2_with fail
                    refine HLO.out.mono ?_
                    clear HLO
                    rintro e w14 ⟨⟨a14, c14, rfl, hx14⟩, hb14⟩
                    have HB14 := hid (HB13.out.trans (hb14.mono HB13.out.size))
                    have HSX := hid (rSame_eq mp c14 c12 (ptX ys (jN : Int) (kN : Int)) hx14 (HY13.out.below hb14) HMP.out (by omega))
                    clear hx14 hb14 HZ13 HY13 HB13
                    go_wp2_with fail
                    refine HSX.out.mono ?_
                    clear HSX
                    rintro e w15 ⟨rfl, hb15⟩
                    have HB15 := hid (HB14.out.trans (hb15.mono HB14.out.size))
                    clear hb15 HB14
                    go_wp2_with fail
                    go_ret
                    exact ⟨rfl, HB15.out⟩
          · obtain rfl : EA = 10 := by rw [HEA.out]; exact atE_out HC0.out (.inr (by rw [← HZS.out, ← HN.out]; omega))
            have hi3 : (q ≤ iN) = True := eq_true (by omega)
            clear hi1 hi2 HEA HPA
            by_cases hj1 : j < 0
            · obtain rfl : EP = 10 := by rw [HEP.out]; exact ptE_out HC0.out (.inl hj1)
              have hj2 : (j < 0) = True := eq_true hj1
              clear hj1 HEP
              go_wp2_with fail
              refine (known_any HP.out w11).mono ?_
              rintro e w12 ⟨rfl, hb12⟩
              have HB12 := hid (HB11.out.trans (hb12.mono HB11.out.size))
              clear hb12 HS11 HZ11 HB11
              go_wp2_with fail
              go_ret
              exact ⟨rfl, HB12.out⟩
            · obtain ⟨jN, rfl⟩ := Int.eq_ofNat_of_zero_le (show 0 ≤ j by omega)
              by_cases hk1 : (q : Int) < k
              · obtain rfl : EP = 10 := by rw [HEP.out]; exact ptE_out HC0.out (.inr (.inl (by rw [← HZS.out, ← HN.out]; exact hk1)))
                have hk2 : ((q : Int) < k) = True := eq_true hk1
                clear hj1 hk1 HEP
                go_wp2_with fail
                refine (known_any HP.out w11).mono ?_
                rintro e w12 ⟨rfl, hb12⟩
                have HB12 := hid (HB11.out.trans (hb12.mono HB11.out.size))
                clear hb12 HS11 HZ11 HB11
                go_wp2_with fail
                go_ret
                exact ⟨rfl, HB12.out⟩
              · by_cases hjk : k < (jN : Int)
                · obtain rfl : EP = 10 := by rw [HEP.out]; exact ptE_out HC0.out (.inr (.inr hjk))
                  have hk2 : ((q : Int) < k) = False := eq_false hk1
                  have hk3 : (k < (jN : Int)) = True := eq_true hjk
                  clear hj1 hk1 hjk HEP
                  go_wp2_with fail
                  refine (known_any HP.out w11).mono ?_
                  rintro e w12 ⟨rfl, hb12⟩
                  have HB12 := hid (HB11.out.trans (hb12.mono HB11.out.size))
                  clear hb12 HS11 HZ11 HB11
                  go_wp2_with fail
                  go_ret
                  exact ⟨rfl, HB12.out⟩
                · obtain ⟨kN, rfl⟩ := Int.eq_ofNat_of_zero_le (show 0 ≤ k by omega)
                  obtain rfl : EP = 0 := by rw [HEP.out]; exact ptE_in HC0.out (by omega) (by rw [← HZS.out, ← HN.out]; omega) (by omega)
                  have hk2 : (q < kN) = False := eq_false (by omega)
                  have hk3 : (kN < jN) = False := eq_false (by omega)
                  have hk4 : (jN : Int) ≤ kN := by omega
                  have hk5 : (kN : Int) ≤ c8 := by omega
                  have hk6 : (kN : Int) ≤ q := by omega
                  have hc9 : (c8 : Int) ≤ 9223372036854775807 := by unfold maxLen at hm8; omega
                  clear hj1 hk1 hjk
                  by_cases hcj : c8 = jN
                  · have hcj2 : (c8 = jN) = True := eq_true hcj
                    have HSC : Hid (Si (Up w7.heap.size) w11 a8 (ptP ys (jN : Int) (kN : Int))) := hid (by
                      unfold ptP
                      rw [← HZS.out]
                      exact siCut HS11.out jN kN _ (fun h => absurd h (by omega)))
                    have HLL : Hid ((ptP ys (jN : Int) (kN : Int)).length = kN - jN) := hid (by
                      have := ptP_len (xs := ys) (a := (jN : Int)) (b := (kN : Int)) (by omega) (by rw [← HZS.out, ← HN.out]; exact hk6) hk4
                      omega)
                    have HXX : Hid (ptX ys (jN : Int) (kN : Int) = ofX (ptP ys (jN : Int) (kN : Int))) := hid (ptX_good HEP.out.symm)
                    have HRO := hid (refOf_x (c8 - jN) HSC.out (by rw [HLL.out]; omega))
                    rw [HLL.out, ptP_ok HC0.out, ← HXX.out, ← HMP.out] at HRO
                    have hmp2 : (mp : Int) ≤ 1024 := by
                      have := ofX_len (ps := ptP ys (jN : Int) (kN : Int))
                      rw [← HXX.out, ← HMP.out, HLL.out] at this
                      omega
                    clear hcj HSC HLL HXX HEP HPX HND HZS
                    go_wp2_with fail
                    clear hcj2 hk2 hk3 hk4 hk5 hk6
                    refine HRO.out.mono ?_
                    clear HRO
                    rintro e w12 ⟨⟨a12, c12, rfl, hx12⟩, hb12⟩
                    have HZ12 := hid (HZ11.out.below hb12)
                    have HY12 := hid hx12
                    have HB12 := hid (HB11.out.trans (hb12.mono HB11.out.size))
                    clear hx12 hb12 HS11 HZ11 HB11
                    go_wp2_with fail
                    refine (known_any HP.out w12).mono ?_
                    rintro e w13 ⟨rfl, hb13⟩
                    have HZ13 := hid (HZ12.out.below hb13)
                    have HY13 := hid (HY12.out.below hb13)
                    have HB13 := hid (HB12.out.trans (hb13.mono HB12.out.size))
                    have HLO := hid (lawOf_x c6 HZ13.out (by rw [← HMP.out]; omega))
                    rw [← HMP.out] at HLO
                    clear hb13 HZ12 HY12 HB12
                    go_wp2_with fail
                    refine HLO.out.mono ?_
                    clear HLO
                    rintro e w14 ⟨⟨a14, c14, rfl, hx14⟩, hb14⟩
                    have HB14 := hid (HB13.out.trans (hb14.mono HB13.out.size))
                    have HSX := hid (rSame_eq mp c14 c12 (ptX ys (jN : Int) (kN : Int)) hx14 (HY13.out.below hb14) HMP.out (by omega))
                    clear hx14 hb14 HZ13 HY13 HB13
                    go_wp2_with fail
                    refine HSX.out.mono ?_
                    clear HSX
                    rintro e w15 ⟨rfl, hb15⟩
                    have HB15 := hid (HB14.out.trans (hb15.mono HB14.out.size))
                    clear hb15 HB14
                    go_wp2_with fail
                    go_ret
                    exact ⟨rfl, HB15.out⟩
                  · have hcj2 : (c8 = jN) = False := eq_false hcj
                    have HSC : Hid (Si (Up w7.heap.size) w11 (a8.map fun x => x.add jN) (ptP ys (jN : Int) (kN : Int))) := hid (by
                      unfold ptP
                      rw [← HZS.out]
                      exact siCut HS11.out jN kN _ (fun _ => rfl))
                    have HLL : Hid ((ptP ys (jN : Int) (kN : Int)).length = kN - jN) := hid (by
                      have := ptP_len (xs := ys) (a := (jN : Int)) (b := (kN : Int)) (by omega) (by rw [← HZS.out, ← HN.out]; exact hk6) hk4
                      omega)
                    have HXX : Hid (ptX ys (jN : Int) (kN : Int) = ofX (ptP ys (jN : Int) (kN : Int))) := hid (ptX_good HEP.out.symm)
                    have HRO := hid (refOf_x (c8 - jN) HSC.out (by rw [HLL.out]; omega))
                    rw [HLL.out, ptP_ok HC0.out, ← HXX.out, ← HMP.out] at HRO
                    have hmp2 : (mp : Int) ≤ 1024 := by
                      have := ofX_len (ps := ptP ys (jN : Int) (kN : Int))
                      rw [← HXX.out, ← HMP.out, HLL.out] at this
                      omega
                    clear hcj HSC HLL HXX HEP HPX HND HZS
                    go_wp2_with fail
                    clear hcj2 hk2 hk3 hk4 hk5 hk6
                    refine HRO.out.mono ?_
                    clear HRO
                    rintro e w12 ⟨⟨a12, c12, rfl, hx12⟩, hb12⟩
                    have HZ12 := hid (HZ11.out.below hb12)
                    have HY12 := hid hx12
                    have HB12 := hid (HB11.out.trans (hb12.mono HB11.out.size))
                    clear hx12 hb12 HS11 HZ11 HB11
                    go_wp2_with fail
                    refine (known_any HP.out w12).mono ?_
                    rintro e w13 ⟨rfl, hb13⟩
                    have HZ13 := hid (HZ12.out.below hb13)
                    have HY13 := hid (HY12.out.below hb13)
                    have HB13 := hid (HB12.out.trans (hb13.mono HB12.out.size))
                    have HLO := hid (lawOf_x c6 HZ13.out (by rw [← HMP.out]; omega))
                    rw [← HMP.out] at HLO
                    clear hb13 HZ12 HY12 HB12
                    go_wp2_with fail
                    refine HLO.out.mono ?_
                    clear HLO
                    rintro e w14 ⟨⟨a14, c14, rfl, hx14⟩, hb14⟩
                    have HB14 := hid (HB13.out.trans (hb14.mono HB13.out.size))
                    have HSX := hid (rSame_eq mp c14 c12 (ptX ys (jN : Int) (kN : Int)) hx14 (HY13.out.below hb14) HMP.out (by omega))
                    clear hx14 hb14 HZ13 HY13 HB13
                    go_wp2_with fail
                    refine HSX.out.mono ?_
                    clear HSX
                    rintro e w15 ⟨rfl, hb15⟩
                    have HB15 := hid (HB14.out.trans (hb15.mono HB14.out.size))
                    clear hb15 HB14
                    go_wp2_with fail
                    go_ret
                    exact ⟨rfl, HB15.out⟩
end Go.Proofs.Ytlfpepkgnobjnaa
