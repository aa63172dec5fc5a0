/- THE LAW OF CHECKS (layer 15), walked over the program's contracts. (written by gen_sfck.py) -/
import Derived.Test.YtclpoconppmapaaSfL
namespace Go.Proofs.Ytclpoconppmapaa
open Go.RowKit Go.Inc
set_option maxRecDepth 20000 in
set_option maxHeartbeats 4000000 in
theorem suffixChecks_walk (ps : PS) (W : World) (p : Option Addr) (c : Nat) (zs0 : List Int) (a b : Int) (ha : i64s a) (hb : i64s b) (hz : ∀ z ∈ zs0, i64s z) (hs : Si (fun _ => True) W p zs0) (hlc : zs0.length ≤ c) (hcm : c ≤ maxLen) (hn : p = none → c = 0) :
    Calls Try.prog 3 #[.slice p zs0.length c, .int .i64 a, .int .i64 b] W fun e w' => e = .returned (.bool true) ∧ Below W.heap.size W w' := by
  have HRW := hid (raw_any _ W _ zs0 ⟨p, c, rfl, hs, hlc, hcm, hn⟩ (by unfold maxLen at hcm; omega))
  have HXL : Hid ((zs0.take 60).length ≤ 65536) := hid (by rw [List.length_take]; omega)
  have HX6 : Hid ((zs0.take 60).take 60 = zs0.take 60) := hid (by rw [List.take_take]; rfl)
  have HXZ : Hid (∀ z ∈ zs0.take 60, i64s z) := hid (fun z h => hz z (List.mem_of_mem_take h))
  obtain ⟨X, hX⟩ : ∃ X, X = zs0.take 60 := ⟨_, rfl⟩
  rw [← hX] at HRW HXL HXZ HX6
  have HA := hid ha
  have HBI := hid hb
  clear hz hs hlc hcm hn hX ha hb
  go_enter Try.func3, Try.ntmps3
  go_wp2_with fail
  refine HRW.out.mono ?_
  rintro e w1 ⟨v, rfl, hv, rfl⟩
  have HV0 := hid hv
  have HCR := hid (refCheck_so _ W v X hv HXL.out)
  clear HRW hv
  go_wp2_with fail
  refine HCR.out.mono ?_
  rintro e w1 ⟨rfl, rfl⟩
  clear HCR
  have HB0 := hid (Below.refl W.heap.size W)
  by_cases hck : ckT X = 0
  · have HR := hid (ckT_zero hck)
    rw [hck]
    obtain ⟨n, hnn⟩ : ∃ n, n = X.length := ⟨_, rfl⟩
    have HN := hid hnn
    have hnb : (n : Int) ≤ 65536 := by have := HXL.out; omega
    obtain ⟨va, vc, hv, -⟩ := HV0.out
    rw [← hnn] at hv
    subst hv
    clear hnn
    by_cases hain : 0 ≤ a ∧ a < n
    · obtain ⟨a, rfl⟩ := Int.eq_ofNat_of_zero_le hain.1
      have han : a < n := by omega
      have ha1 : (a < n) = True := eq_true han
      have ha0 : ((0 : Int) ≤ (a : Int)) = True := eq_true (by omega)
      have HAN := hid han
      have HPC : Hid (∀ w, So (fun _ => True) w (.slice va n vc) X → Calls Try.prog 15 #[.slice va n vc, .int .i64 (a : Int)] w fun e w' => ∃ u pe, e = .returned (.tuple #[u, .int .i64 pe]) ∧ Below w.heap.size w w') := hid (fun w hw => by
        by_cases hm : a ∈ fsT X X.length
        · refine (ps.pPiece _ w _ X a hw HXL.out hck hm).mono ?_
          rintro e w' ⟨u, rfl, -, hb⟩
          exact ⟨u, 0, rfl, hb⟩
        · refine (ps.pPieceN _ w _ X a hw HXL.out hck (by rw [← HN.out]; exact han) hm).mono ?_
          rintro e w' ⟨u, rfl, hb⟩
          exact ⟨u, 7, rfl, hb⟩)
      by_cases hbin : 0 ≤ b ∧ b < n
      · obtain ⟨b, rfl⟩ := Int.eq_ofNat_of_zero_le hbin.1
        have hbn : b < n := by omega
        have hb1 : (b < n) = True := eq_true hbn
        have hb0 : ((0 : Int) ≤ (b : Int)) = True := eq_true (by omega)
        have HBN := hid hbn
        clear hain hbin han hbn
        have HC := hid (ps.pKinds _ W _ X HV0.out HXL.out hck)
        go_wp2_with fail
        refine HC.out.mono ?_
        rintro e w1 ⟨uk, ck, rfl, -, hb⟩
        have HV1 := hid (HV0.out.below hb)
        have HB1 := hid (HB0.out.trans (hb.mono HB0.out.size))
        clear hb HC HV0 HB0
        have HC := hid (ps.pFirsts _ w1 _ X HV1.out HXL.out hck)
        go_wp2_with fail
        refine HC.out.mono ?_
        rintro e w2 ⟨u1, rfl, -, hb⟩
        have HV2 := hid (HV1.out.below hb)
        have HB2 := hid (HB1.out.trans (hb.mono HB1.out.size))
        clear hb HC HV1 HB1
        have HC := hid (ps.pLess _ w2 _ X a b HV2.out HXL.out hck (by rw [← HN.out]; exact HAN.out) (by rw [← HN.out]; exact HBN.out))
        go_wp2_with fail
        refine HC.out.mono ?_
        rintro e w3 ⟨rfl, hb⟩
        have HV3 := hid (HV2.out.below hb)
        have HB3 := hid (HB2.out.trans (hb.mono HB2.out.size))
        clear hb HC HV2 HB2
        have HC := hid (ps.pSort _ w3 _ X HV3.out HXL.out hck)
        go_wp2_with fail
        refine HC.out.mono ?_
        rintro e w4 ⟨u3, rfl, -, hb⟩
        have HV4 := hid (HV3.out.below hb)
        have HB4 := hid (HB3.out.trans (hb.mono HB3.out.size))
        clear hb HC HV3 HB3
        have HC := hid (ps.pCommon _ w4 _ X a b HV4.out HXL.out hck (by rw [← HN.out]; exact HAN.out) (by rw [← HN.out]; exact HBN.out))
        go_wp2_with fail
        refine HC.out.mono ?_
        rintro e w5 ⟨rfl, hb⟩
        have HV5 := hid (HV4.out.below hb)
        have HB5 := hid (HB4.out.trans (hb.mono HB4.out.size))
        clear hb HC HV4 HB4
        have HC := hid (HPC.out w5 HV5.out)
        go_wp2_with fail
        refine HC.out.mono ?_
        rintro e w6 ⟨u5, pe, rfl, hb⟩
        have HV6 := hid (HV5.out.below hb)
        have HB6 := hid (HB5.out.trans (hb.mono HB5.out.size))
        clear hb HC HV5 HB5
        have HC := hid (ps.pCheck _ w6 _ X HV6.out HXL.out HXZ.out)
        rw [hck] at HC
        go_wp2_with fail
        refine HC.out.mono ?_
        rintro e w7 ⟨rfl, hb⟩
        have HV7 := hid (HV6.out.below hb)
        have HB7 := hid (HB6.out.trans (hb.mono HB6.out.size))
        clear hb HC HV6 HB6
        have HC := hid (known15_any ps w7)
        go_wp2_with fail
        refine HC.out.mono ?_
        rintro e w8 ⟨rfl, hb⟩
        have HV8 := hid (HV7.out.below hb)
        have HB8 := hid (HB7.out.trans (hb.mono HB7.out.size))
        clear hb HC HV7 HB7
        go_wp2_with fail
        go_ret
        exact ⟨rfl, HB8.out⟩
      · have HOUT := hid (show ¬ ((0 ≤ (a : Int) ∧ (a : Int) < (n : Int)) ∧ 0 ≤ b ∧ b < n) from fun h => hbin h.2)
        by_cases hb2 : 0 ≤ b
        · have hb0 : (0 ≤ b) = True := eq_true hb2
          have hb1 : (b < (n : Int)) = False := eq_false (fun h => hbin ⟨hb2, h⟩)
          clear hain hbin han hb2
          have HC := hid (ps.pKinds _ W _ X HV0.out HXL.out hck)
          go_wp2_with fail
          refine HC.out.mono ?_
          rintro e w1 ⟨uk, ck, rfl, -, hb⟩
          have HV1 := hid (HV0.out.below hb)
          have HB1 := hid (HB0.out.trans (hb.mono HB0.out.size))
          clear hb HC HV0 HB0
          have HC := hid (ps.pFirsts _ w1 _ X HV1.out HXL.out hck)
          go_wp2_with fail
          refine HC.out.mono ?_
          rintro e w2 ⟨u1, rfl, -, hb⟩
          have HV2 := hid (HV1.out.below hb)
          have HB2 := hid (HB1.out.trans (hb.mono HB1.out.size))
          clear hb HC HV1 HB1
          have HC := hid (ps.pLessR _ w2 _ X _ _ HV2.out HXL.out hck HA.out HBI.out (by rw [← HN.out]; exact HOUT.out))
          go_wp2_with fail
          refine HC.out.mono ?_
          rintro e w3 ⟨u2, rfl, hb⟩
          have HV3 := hid (HV2.out.below hb)
          have HB3 := hid (HB2.out.trans (hb.mono HB2.out.size))
          clear hb HC HV2 HB2
          have HC := hid (ps.pSort _ w3 _ X HV3.out HXL.out hck)
          go_wp2_with fail
          refine HC.out.mono ?_
          rintro e w4 ⟨u3, rfl, -, hb⟩
          have HV4 := hid (HV3.out.below hb)
          have HB4 := hid (HB3.out.trans (hb.mono HB3.out.size))
          clear hb HC HV3 HB3
          have HC := hid (ps.pCommonR _ w4 _ X _ _ HV4.out HXL.out hck HA.out HBI.out (by rw [← HN.out]; exact HOUT.out))
          go_wp2_with fail
          refine HC.out.mono ?_
          rintro e w5 ⟨u4, rfl, hb⟩
          have HV5 := hid (HV4.out.below hb)
          have HB5 := hid (HB4.out.trans (hb.mono HB4.out.size))
          clear hb HC HV4 HB4
          have HC := hid (HPC.out w5 HV5.out)
          go_wp2_with fail
          refine HC.out.mono ?_
          rintro e w6 ⟨u5, pe, rfl, hb⟩
          have HV6 := hid (HV5.out.below hb)
          have HB6 := hid (HB5.out.trans (hb.mono HB5.out.size))
          clear hb HC HV5 HB5
          have HC := hid (ps.pCheck _ w6 _ X HV6.out HXL.out HXZ.out)
          rw [hck] at HC
          go_wp2_with fail
          refine HC.out.mono ?_
          rintro e w7 ⟨rfl, hb⟩
          have HV7 := hid (HV6.out.below hb)
          have HB7 := hid (HB6.out.trans (hb.mono HB6.out.size))
          clear hb HC HV6 HB6
          have HC := hid (known15_any ps w7)
          go_wp2_with fail
          refine HC.out.mono ?_
          rintro e w8 ⟨rfl, hb⟩
          have HV8 := hid (HV7.out.below hb)
          have HB8 := hid (HB7.out.trans (hb.mono HB7.out.size))
          clear hb HC HV7 HB7
          go_wp2_with fail
          go_ret
          exact ⟨rfl, HB8.out⟩
        · have hb0 : (0 ≤ b) = False := eq_false hb2
          clear hain hbin han hb2
          have HC := hid (ps.pKinds _ W _ X HV0.out HXL.out hck)
          go_wp2_with fail
          refine HC.out.mono ?_
          rintro e w1 ⟨uk, ck, rfl, -, hb⟩
          have HV1 := hid (HV0.out.below hb)
          have HB1 := hid (HB0.out.trans (hb.mono HB0.out.size))
          clear hb HC HV0 HB0
          have HC := hid (ps.pFirsts _ w1 _ X HV1.out HXL.out hck)
          go_wp2_with fail
          refine HC.out.mono ?_
          rintro e w2 ⟨u1, rfl, -, hb⟩
          have HV2 := hid (HV1.out.below hb)
          have HB2 := hid (HB1.out.trans (hb.mono HB1.out.size))
          clear hb HC HV1 HB1
          have HC := hid (ps.pLessR _ w2 _ X _ _ HV2.out HXL.out hck HA.out HBI.out (by rw [← HN.out]; exact HOUT.out))
          go_wp2_with fail
          refine HC.out.mono ?_
          rintro e w3 ⟨u2, rfl, hb⟩
          have HV3 := hid (HV2.out.below hb)
          have HB3 := hid (HB2.out.trans (hb.mono HB2.out.size))
          clear hb HC HV2 HB2
          have HC := hid (ps.pSort _ w3 _ X HV3.out HXL.out hck)
          go_wp2_with fail
          refine HC.out.mono ?_
          rintro e w4 ⟨u3, rfl, -, hb⟩
          have HV4 := hid (HV3.out.below hb)
          have HB4 := hid (HB3.out.trans (hb.mono HB3.out.size))
          clear hb HC HV3 HB3
          have HC := hid (ps.pCommonR _ w4 _ X _ _ HV4.out HXL.out hck HA.out HBI.out (by rw [← HN.out]; exact HOUT.out))
          go_wp2_with fail
          refine HC.out.mono ?_
          rintro e w5 ⟨u4, rfl, hb⟩
          have HV5 := hid (HV4.out.below hb)
          have HB5 := hid (HB4.out.trans (hb.mono HB4.out.size))
          clear hb HC HV4 HB4
          have HC := hid (HPC.out w5 HV5.out)
          go_wp2_with fail
          refine HC.out.mono ?_
          rintro e w6 ⟨u5, pe, rfl, hb⟩
          have HV6 := hid (HV5.out.below hb)
          have HB6 := hid (HB5.out.trans (hb.mono HB5.out.size))
          clear hb HC HV5 HB5
          have HC := hid (ps.pCheck _ w6 _ X HV6.out HXL.out HXZ.out)
          rw [hck] at HC
          go_wp2_with fail
          refine HC.out.mono ?_
          rintro e w7 ⟨rfl, hb⟩
          have HV7 := hid (HV6.out.below hb)
          have HB7 := hid (HB6.out.trans (hb.mono HB6.out.size))
          clear hb HC HV6 HB6
          have HC := hid (known15_any ps w7)
          go_wp2_with fail
          refine HC.out.mono ?_
          rintro e w8 ⟨rfl, hb⟩
          have HV8 := hid (HV7.out.below hb)
          have HB8 := hid (HB7.out.trans (hb.mono HB7.out.size))
          clear hb HC HV7 HB7
          go_wp2_with fail
          go_ret
          exact ⟨rfl, HB8.out⟩
    · have HOUT := hid (show ¬ ((0 ≤ a ∧ a < (n : Int)) ∧ 0 ≤ b ∧ b < n) from fun h => hain h.1)
      have HAO := hid hain
      by_cases ha2 : 0 ≤ a
      · have ha0 : (0 ≤ a) = True := eq_true ha2
        have ha1 : (a < (n : Int)) = False := eq_false (fun h => hain ⟨ha2, h⟩)
        clear hain ha2
        have HC := hid (ps.pKinds _ W _ X HV0.out HXL.out hck)
        go_wp2_with fail
        refine HC.out.mono ?_
        rintro e w1 ⟨uk, ck, rfl, -, hb⟩
        have HV1 := hid (HV0.out.below hb)
        have HB1 := hid (HB0.out.trans (hb.mono HB0.out.size))
        clear hb HC HV0 HB0
        have HC := hid (ps.pFirsts _ w1 _ X HV1.out HXL.out hck)
        go_wp2_with fail
        refine HC.out.mono ?_
        rintro e w2 ⟨u1, rfl, -, hb⟩
        have HV2 := hid (HV1.out.below hb)
        have HB2 := hid (HB1.out.trans (hb.mono HB1.out.size))
        clear hb HC HV1 HB1
        have HC := hid (ps.pLessR _ w2 _ X _ _ HV2.out HXL.out hck HA.out HBI.out (by rw [← HN.out]; exact HOUT.out))
        go_wp2_with fail
        refine HC.out.mono ?_
        rintro e w3 ⟨u2, rfl, hb⟩
        have HV3 := hid (HV2.out.below hb)
        have HB3 := hid (HB2.out.trans (hb.mono HB2.out.size))
        clear hb HC HV2 HB2
        have HC := hid (ps.pSort _ w3 _ X HV3.out HXL.out hck)
        go_wp2_with fail
        refine HC.out.mono ?_
        rintro e w4 ⟨u3, rfl, -, hb⟩
        have HV4 := hid (HV3.out.below hb)
        have HB4 := hid (HB3.out.trans (hb.mono HB3.out.size))
        clear hb HC HV3 HB3
        have HC := hid (ps.pCommonR _ w4 _ X _ _ HV4.out HXL.out hck HA.out HBI.out (by rw [← HN.out]; exact HOUT.out))
        go_wp2_with fail
        refine HC.out.mono ?_
        rintro e w5 ⟨u4, rfl, hb⟩
        have HV5 := hid (HV4.out.below hb)
        have HB5 := hid (HB4.out.trans (hb.mono HB4.out.size))
        clear hb HC HV4 HB4
        have HC := hid (ps.pPieceR _ w5 _ X _ HV5.out HXL.out hck HA.out (by rw [← HN.out]; exact HAO.out))
        go_wp2_with fail
        refine HC.out.mono ?_
        rintro e w6 ⟨u5, rfl, hb⟩
        have HV6 := hid (HV5.out.below hb)
        have HB6 := hid (HB5.out.trans (hb.mono HB5.out.size))
        clear hb HC HV5 HB5
        have HC := hid (ps.pCheck _ w6 _ X HV6.out HXL.out HXZ.out)
        rw [hck] at HC
        go_wp2_with fail
        refine HC.out.mono ?_
        rintro e w7 ⟨rfl, hb⟩
        have HV7 := hid (HV6.out.below hb)
        have HB7 := hid (HB6.out.trans (hb.mono HB6.out.size))
        clear hb HC HV6 HB6
        have HC := hid (known15_any ps w7)
        go_wp2_with fail
        refine HC.out.mono ?_
        rintro e w8 ⟨rfl, hb⟩
        have HV8 := hid (HV7.out.below hb)
        have HB8 := hid (HB7.out.trans (hb.mono HB7.out.size))
        clear hb HC HV7 HB7
        go_wp2_with fail
        go_ret
        exact ⟨rfl, HB8.out⟩
      · have ha0 : (0 ≤ a) = False := eq_false ha2
        clear hain ha2
        have HC := hid (ps.pKinds _ W _ X HV0.out HXL.out hck)
        go_wp2_with fail
        refine HC.out.mono ?_
        rintro e w1 ⟨uk, ck, rfl, -, hb⟩
        have HV1 := hid (HV0.out.below hb)
        have HB1 := hid (HB0.out.trans (hb.mono HB0.out.size))
        clear hb HC HV0 HB0
        have HC := hid (ps.pFirsts _ w1 _ X HV1.out HXL.out hck)
        go_wp2_with fail
        refine HC.out.mono ?_
        rintro e w2 ⟨u1, rfl, -, hb⟩
        have HV2 := hid (HV1.out.below hb)
        have HB2 := hid (HB1.out.trans (hb.mono HB1.out.size))
        clear hb HC HV1 HB1
        have HC := hid (ps.pLessR _ w2 _ X _ _ HV2.out HXL.out hck HA.out HBI.out (by rw [← HN.out]; exact HOUT.out))
        go_wp2_with fail
        refine HC.out.mono ?_
        rintro e w3 ⟨u2, rfl, hb⟩
        have HV3 := hid (HV2.out.below hb)
        have HB3 := hid (HB2.out.trans (hb.mono HB2.out.size))
        clear hb HC HV2 HB2
        have HC := hid (ps.pSort _ w3 _ X HV3.out HXL.out hck)
        go_wp2_with fail
        refine HC.out.mono ?_
        rintro e w4 ⟨u3, rfl, -, hb⟩
        have HV4 := hid (HV3.out.below hb)
        have HB4 := hid (HB3.out.trans (hb.mono HB3.out.size))
        clear hb HC HV3 HB3
        have HC := hid (ps.pCommonR _ w4 _ X _ _ HV4.out HXL.out hck HA.out HBI.out (by rw [← HN.out]; exact HOUT.out))
        go_wp2_with fail
        refine HC.out.mono ?_
        rintro e w5 ⟨u4, rfl, hb⟩
        have HV5 := hid (HV4.out.below hb)
        have HB5 := hid (HB4.out.trans (hb.mono HB4.out.size))
        clear hb HC HV4 HB4
        have HC := hid (ps.pPieceR _ w5 _ X _ HV5.out HXL.out hck HA.out (by rw [← HN.out]; exact HAO.out))
        go_wp2_with fail
        refine HC.out.mono ?_
        rintro e w6 ⟨u5, rfl, hb⟩
        have HV6 := hid (HV5.out.below hb)
        have HB6 := hid (HB5.out.trans (hb.mono HB5.out.size))
        clear hb HC HV5 HB5
        have HC := hid (ps.pCheck _ w6 _ X HV6.out HXL.out HXZ.out)
        rw [hck] at HC
        go_wp2_with fail
        refine HC.out.mono ?_
        rintro e w7 ⟨rfl, hb⟩
        have HV7 := hid (HV6.out.below hb)
        have HB7 := hid (HB6.out.trans (hb.mono HB6.out.size))
        clear hb HC HV6 HB6
        have HC := hid (known15_any ps w7)
        go_wp2_with fail
        refine HC.out.mono ?_
        rintro e w8 ⟨rfl, hb⟩
        have HV8 := hid (HV7.out.below hb)
        have HB8 := hid (HB7.out.trans (hb.mono HB7.out.size))
        clear hb HC HV7 HB7
        go_wp2_with fail
        go_ret
        exact ⟨rfl, HB8.out⟩
  · have HD : Hid (decide (ckT X = 0 ∧ X = zsN (srT X X.length)) = false) := hid (decide_eq_false fun h => hck h.1)
    obtain ⟨k, hk⟩ : ∃ k, k = ckT X := ⟨_, rfl⟩
    rw [← hk]
    have hk0 : ((k : Int) != 0) = true := by rw [bne_iff_ne]; omega
    have hk1 : ((k : Int) != (k : Int)) = false := bne_self_eq_false _
    have hk2 : ((k : Int) == (k : Int)) = true := beq_self_eq_true _
    have HC := hid (ps.pKindsE _ W v X HV0.out HXL.out HXZ.out hck)
    rw [← hk] at HC
    go_wp2_with fail
    refine HC.out.mono ?_
    rintro e w1 ⟨u, rfl, hb⟩
    have HV1 := hid (HV0.out.below hb)
    have HB1 := hid (HB0.out.trans (hb.mono HB0.out.size))
    clear hb HC HV0 HB0
    have HC := hid (ps.pFirstsE _ w1 v X HV1.out HXL.out HXZ.out hck)
    rw [← hk] at HC
    go_wp2_with fail
    refine HC.out.mono ?_
    rintro e w2 ⟨u, rfl, hb⟩
    have HV2 := hid (HV1.out.below hb)
    have HB2 := hid (HB1.out.trans (hb.mono HB1.out.size))
    clear hb HC HV1 HB1
    have HC := hid (ps.pLessE _ w2 v X a b HV2.out HXL.out HXZ.out hck HA.out HBI.out)
    rw [← hk] at HC
    go_wp2_with fail
    refine HC.out.mono ?_
    rintro e w3 ⟨u, rfl, hb⟩
    have HV3 := hid (HV2.out.below hb)
    have HB3 := hid (HB2.out.trans (hb.mono HB2.out.size))
    clear hb HC HV2 HB2
    have HC := hid (ps.pSortE _ w3 v X HV3.out HXL.out HXZ.out hck)
    rw [← hk] at HC
    go_wp2_with fail
    refine HC.out.mono ?_
    rintro e w4 ⟨u, rfl, hb⟩
    have HV4 := hid (HV3.out.below hb)
    have HB4 := hid (HB3.out.trans (hb.mono HB3.out.size))
    clear hb HC HV3 HB3
    have HC := hid (ps.pCommonE _ w4 v X a b HV4.out HXL.out HXZ.out hck HA.out HBI.out)
    rw [← hk] at HC
    go_wp2_with fail
    refine HC.out.mono ?_
    rintro e w5 ⟨u, rfl, hb⟩
    have HV5 := hid (HV4.out.below hb)
    have HB5 := hid (HB4.out.trans (hb.mono HB4.out.size))
    clear hb HC HV4 HB4
    have HC := hid (ps.pPieceE _ w5 v X a HV5.out HXL.out HXZ.out hck HA.out)
    rw [← hk] at HC
    go_wp2_with fail
    refine HC.out.mono ?_
    rintro e w6 ⟨u, rfl, hb⟩
    have HV6 := hid (HV5.out.below hb)
    have HB6 := hid (HB5.out.trans (hb.mono HB5.out.size))
    clear hb HC HV5 HB5
    have HC := hid (ps.pCheck _ w6 _ X HV6.out HXL.out HXZ.out)
    rw [← hk] at HC
    go_wp2_with fail
    refine HC.out.mono ?_
    rintro e w7 ⟨rfl, hb⟩
    have HV7 := hid (HV6.out.below hb)
    have HB7 := hid (HB6.out.trans (hb.mono HB6.out.size))
    clear hb HC HV6 HB6
    have HRA := hid (raw_any _ w7 v X HV7.out (by have := HXL.out; omega))
    rw [HX6.out] at HRA
    go_wp2_with fail
    refine HRA.out.mono ?_
    rintro e w8 ⟨v8, rfl, hv8, rfl⟩
    have HC := hid (ps.pCommonsE _ _ w7 v v8 X X HV7.out hv8 HXL.out HXZ.out hck HXL.out HXZ.out)
    rw [← hk] at HC
    clear HRA hv8
    go_wp2_with fail
    refine HC.out.mono ?_
    rintro e w8 ⟨u, rfl, hb⟩
    have HV8 := hid (HV7.out.below hb)
    have HB8 := hid (HB7.out.trans (hb.mono HB7.out.size))
    have HKN := hid (known15_any ps w8)
    clear hb HC HV7 HB7
    go_wp2_with fail
    refine HKN.out.mono ?_
    rintro e w9 ⟨rfl, hb⟩
    have HV9 := hid (HV8.out.below hb)
    have HB9 := hid (HB8.out.trans (hb.mono HB8.out.size))
    have HRI := hid (ps.pRight _ _ w9 v v X X HV9.out HV9.out HXL.out HXZ.out HXL.out HXZ.out)
    rw [HD.out] at HRI
    clear hb HKN HV8 HB8
    go_wp2_with fail
    refine HRI.out.mono ?_
    rintro e w10 ⟨rfl, hb⟩
    have HB10 := hid (HB9.out.trans (hb.mono HB9.out.size))
    clear hb HRI
    go_wp2_with fail
    go_ret
    exact ⟨rfl, HB10.out⟩
end Go.Proofs.Ytclpoconppmapaa
