/- THE LAW OF RIGHT ORDERS (layer 15), walked over the program's contracts. -/
import Derived.Test.YtclpoconppmapaaSfL
namespace Go.Proofs.Ytclpoconppmapaa
open Go.RowKit Go.Inc
set_option maxRecDepth 20000 in
set_option maxHeartbeats 2000000 in
theorem suffixRight_walk (ps : PS) (W : World) (a : Option Addr) (c : Nat) (zs0 : List Int) (hz : ∀ z ∈ zs0, i64s z) (hs : Si (fun _ => True) W a zs0) (hlc : zs0.length ≤ c) (hcm : c ≤ maxLen) (hn : a = none → c = 0)
    (b : Option Addr) (d : Nat) (zs1 : List Int) (hz1 : ∀ z ∈ zs1, i64s z) (hs1 : Si (fun _ => True) W b zs1) (hlc1 : zs1.length ≤ d) (hcm1 : d ≤ maxLen) (hn1 : b = none → d = 0) :
    Calls Try.prog 7 #[.slice a zs0.length c, .slice b zs1.length d] W fun e w' => e = .returned (.bool true) ∧ Below W.heap.size W w' := by
  have HRW := hid (raw_any _ W _ zs0 ⟨a, c, rfl, hs, hlc, hcm, hn⟩ (by unfold maxLen at hcm; omega))
  have HRV := hid (raw_any _ W _ zs1 ⟨b, d, rfl, hs1, hlc1, hcm1, hn1⟩ (by unfold maxLen at hcm1; omega))
  have HXL : Hid ((zs0.take 60).length ≤ 65536) := hid (by rw [List.length_take]; omega)
  have HXZ : Hid (∀ z ∈ zs0.take 60, i64s z) := hid (fun z h => hz z (List.mem_of_mem_take h))
  have HYL : Hid ((zs1.take 60).length ≤ 65536) := hid (by rw [List.length_take]; omega)
  have HYZ : Hid (∀ z ∈ zs1.take 60, i64s z) := hid (fun z h => hz1 z (List.mem_of_mem_take h))
  obtain ⟨X, hX⟩ : ∃ X, X = zs0.take 60 := ⟨_, rfl⟩
  obtain ⟨Y, hY⟩ : ∃ Y, Y = zs1.take 60 := ⟨_, rfl⟩
  rw [← hX] at HRW HXL HXZ
  rw [← hY] at HRV HYL HYZ
  clear hz hs hlc hcm hn hX hz1 hs1 hlc1 hcm1 hn1 hY
  go_enter Try.func7, Try.ntmps7
  go_wp2_with fail
  refine HRW.out.mono ?_
  rintro e w1 ⟨v, rfl, hv, rfl⟩
  have HV := hid hv
  clear HRW hv
  go_wp2_with fail
  refine HRV.out.mono ?_
  rintro e w1 ⟨o, rfl, ho, rfl⟩
  have HO := hid ho
  clear HRV ho
  by_cases hck : ckT X = 0
  · have HCK := hid hck
    have HSR := hid (ps.pSort _ W v X HV.out HXL.out hck)
    obtain ⟨S, hS⟩ : ∃ S, S = zsN (srT X X.length) := ⟨_, rfl⟩
    have HSL : Hid ((S.length : Int) ≤ 65536) := hid (by rw [hS, zsN_len, srT_len]; have := HXL.out; omega)
    have HSZ : Hid (∀ z ∈ S, i64s z) := hid (fun z hz => by
      rw [hS] at hz
      obtain ⟨n, hn, rfl⟩ := List.mem_map.1 hz
      have := srT_mem.1 hn
      have := HXL.out
      unfold i64s; omega)
    have HS := hid hS
    rw [← hS] at HSR
    clear hck hS
    go_wp2_with fail
    refine HSR.out.mono ?_
    rintro e w2 ⟨l, rfl, hl, hb⟩
    have HL := hid hl
    have HV2 := hid (HV.out.below hb)
    have HO2 := hid (HO.out.below hb)
    have HB2 := hid hb
    have HKN := hid (known15_any ps w2)
    clear hl hb HSR HV HO
    go_wp2_with fail
    refine HKN.out.mono ?_
    rintro e w3 ⟨rfl, hb⟩
    have HL3 := hid (HL.out.below hb)
    have HV3 := hid (HV2.out.below hb)
    have HO3 := hid (HO2.out.below hb)
    have HB3 := hid (HB2.out.trans (hb.mono HB2.out.size))
    have HR1 := hid (ps.pRight _ _ w3 v o X Y HV3.out HO3.out HXL.out HXZ.out HYL.out HYZ.out)
    obtain ⟨q, hq⟩ : ∃ q : Bool, q = decide (S = Y) := ⟨_, rfl⟩
    have hq1 : decide (ckT X = 0 ∧ Y = zsN (srT X X.length)) = q := by
      rw [hq, ← HS.out]
      exact decide_eq_decide.2 ⟨fun h => h.2.symm, fun h => ⟨HCK.out, h.symm⟩⟩
    rw [hq1] at HR1
    have HQ := hid hq
    clear hb HKN HL HV2 HO2 HB2 hq1 hq
    go_wp2_with fail
    refine HR1.out.mono ?_
    rintro e w4 ⟨rfl, hb⟩
    have HL4 := hid (HL3.out.below hb)
    have HV4 := hid (HV3.out.below hb)
    have HO4 := hid (HO3.out.below hb)
    have HB4 := hid (HB3.out.trans (hb.mono HB3.out.size))
    have HSM := hid (same_so _ _ w4 l o _ _ HL4.out HO4.out HSL.out)
    rw [← HQ.out] at HSM
    clear hb HR1 HL3 HV3 HO3 HB3
    go_wp2_with fail
    refine HSM.out.mono ?_
    rintro e w5 ⟨rfl, hb⟩
    have HB5 := hid (HB4.out.trans (hb.mono HB4.out.size))
    have HR2 := hid (ps.pRight _ _ w5 v l X S (HV4.out.below hb) (HL4.out.below hb) HXL.out HXZ.out (by have := HSL.out; omega) HSZ.out)
    rw [decide_eq_true (⟨HCK.out, HS.out⟩ : ckT X = 0 ∧ S = zsN (srT X X.length))] at HR2
    have hqq : (q == q) = true := beq_self_eq_true q
    clear hb HSM HL4 HV4 HO4 HB4
    go_wp2_with fail
    refine HR2.out.mono ?_
    rintro e w6 ⟨rfl, hb⟩
    have HB6 := hid (HB5.out.trans (hb.mono HB5.out.size))
    clear hb HR2 HB5
    go_wp2_with fail
    go_ret
    exact ⟨rfl, HB6.out⟩
  · have HSR := hid (ps.pSortE _ W v X HV.out HXL.out HXZ.out hck)
    have HD : Hid (decide (ckT X = 0 ∧ Y = zsN (srT X X.length)) = false) := hid (decide_eq_false fun h => hck h.1)
    obtain ⟨k, hk⟩ : ∃ k, k = ckT X := ⟨_, rfl⟩
    rw [← hk] at HSR hck
    have hk0 : ((k : Int) == 0) = false := by rw [beq_eq_false_iff_ne]; omega
    have hk1 : ((k : Int) != 0) = true := by rw [bne_iff_ne]; omega
    clear hck hk
    go_wp2_with fail
    refine HSR.out.mono ?_
    rintro e w2 ⟨l, rfl, hb⟩
    have HV2 := hid (HV.out.below hb)
    have HO2 := hid (HO.out.below hb)
    have HB2 := hid hb
    have HKN := hid (known15_any ps w2)
    clear hb HSR HV HO
    go_wp2_with fail
    refine HKN.out.mono ?_
    rintro e w3 ⟨rfl, hb⟩
    have HB3 := hid (HB2.out.trans (hb.mono HB2.out.size))
    have HR1 := hid (ps.pRight _ _ w3 v o X Y (HV2.out.below hb) (HO2.out.below hb) HXL.out HXZ.out HYL.out HYZ.out)
    rw [HD.out] at HR1
    clear hb HKN HV2 HO2 HB2
    go_wp2_with fail
    refine HR1.out.mono ?_
    rintro e w4 ⟨rfl, hb⟩
    have HB4 := hid (HB3.out.trans (hb.mono HB3.out.size))
    clear hb HR1 HB3
    go_wp2_with fail
    go_ret
    exact ⟨rfl, HB4.out⟩
end Go.Proofs.Ytclpoconppmapaa
