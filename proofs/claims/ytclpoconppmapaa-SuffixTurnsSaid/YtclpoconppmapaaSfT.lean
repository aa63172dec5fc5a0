/- THE LAW OF TURNS (layer 15), walked over the program's contracts. -/
import Derived.Test.YtclpoconppmapaaSfL
namespace Go.Proofs.Ytclpoconppmapaa
open Go.RowKit Go.Inc
set_option maxRecDepth 20000 in
set_option maxHeartbeats 2000000 in
theorem suffixTurns_walk (ps : PS) (W : World) (a : Option Addr) (c : Nat) (zs0 : List Int) (hz : ∀ z ∈ zs0, i64s z) (hs : Si (fun _ => True) W a zs0) (hlc : zs0.length ≤ c) (hcm : c ≤ maxLen) (hn : a = none → c = 0) :
    Calls Try.prog 6 #[.slice a zs0.length c] W fun e w' => e = .returned (.bool true) ∧ Below W.heap.size W w' := by
  have HRW := hid (raw_any _ W _ zs0 ⟨a, c, rfl, hs, hlc, hcm, hn⟩ (by unfold maxLen at hcm; omega))
  have HXL : Hid ((zs0.take 60).length ≤ 65536) := hid (by rw [List.length_take]; omega)
  have HXZ : Hid (∀ z ∈ zs0.take 60, i64s z) := hid (fun z h => hz z (List.mem_of_mem_take h))
  obtain ⟨X, hX⟩ : ∃ X, X = zs0.take 60 := ⟨_, rfl⟩
  rw [← hX] at HRW HXL HXZ
  clear hz hs hlc hcm hn hX
  go_enter Try.func6, Try.ntmps6
  go_wp2_with fail
  refine HRW.out.mono ?_
  rintro e w1 ⟨v, rfl, hv, rfl⟩
  have HV := hid hv
  clear HRW hv
  by_cases hok : okT X
  · have HOK := hid hok
    have HT := hid (ps.pTurned _ W v X HV.out HXL.out HXZ.out hok)
    have htk : decide (okT X) = true := decide_eq_true hok
    obtain ⟨h1, h2⟩ := turn_twice hok
    have HO2 := hid h1
    have HT2 := hid h2
    have HTL : Hid ((zsN (tnT X)).length ≤ 65536) := hid (by rw [zsN_len, tnT_len]; exact HXL.out)
    have HTZ : Hid (∀ z ∈ zsN (tnT X), i64s z) := hid (fun z hz => by
      have := okT_in h1 hz
      have := HTL.out
      unfold i64s; omega)
    clear hok h1 h2
    go_wp2_with fail
    refine HT.out.mono ?_
    rintro e w2 ⟨t, rfl, ht, hb⟩
    have HV2 := hid (HV.out.below hb)
    have HB2 := hid hb
    have HTV := hid ht
    have HRT := hid (refTurned_so _ w2 v X HV2.out HXL.out)
    rw [htk] at HRT
    clear ht hb HT HV
    go_wp2_with fail
    refine HRT.out.mono ?_
    rintro e w3 ⟨q, rfl, hq, hb⟩
    have HQ := hid (hq HOK.out)
    have HV3 := hid (HV2.out.below hb)
    have HTV3 := hid (HTV.out.below hb)
    have HB3 := hid (HB2.out.trans (hb.mono HB2.out.size))
    have HTT := hid (ps.pTurned _ w3 t (zsN (tnT X)) HTV3.out HTL.out HTZ.out HO2.out)
    rw [HT2.out] at HTT
    clear hq hb HRT HV2 HTV HB2
    go_wp2_with fail
    refine HTT.out.mono ?_
    rintro e w4 ⟨u, rfl, hu, hb⟩
    have HU := hid hu
    have HQ4 := hid (HQ.out.below hb)
    have HV4 := hid (HV3.out.below hb)
    have HTV4 := hid (HTV3.out.below hb)
    have HB4 := hid (HB3.out.trans (hb.mono HB3.out.size))
    have HKN := hid (known15_any ps w4)
    clear hu hb HTT HQ HV3 HTV3 HB3
    go_wp2_with fail
    refine HKN.out.mono ?_
    rintro e w5 ⟨rfl, hb⟩
    have HU5 := hid (HU.out.below hb)
    have HQ5 := hid (HQ4.out.below hb)
    have HV5 := hid (HV4.out.below hb)
    have HTV5 := hid (HTV4.out.below hb)
    have HB5 := hid (HB4.out.trans (hb.mono HB4.out.size))
    have HS1 := hid (same_so _ _ w5 t q _ _ HTV5.out HQ5.out (by have := HTL.out; omega))
    rw [decide_eq_true rfl] at HS1
    clear hb HKN HU HQ4 HV4 HTV4 HB4
    go_wp2_with fail
    refine HS1.out.mono ?_
    rintro e w6 ⟨rfl, hb⟩
    have HB6 := hid (HB5.out.trans (hb.mono HB5.out.size))
    have HS2 := hid (same_so _ _ w6 u v _ _ (HU5.out.below hb) (HV5.out.below hb) (by have := HXL.out; omega))
    rw [decide_eq_true rfl] at HS2
    clear hb HS1 HU5 HQ5 HV5 HTV5 HB5
    go_wp2_with fail
    refine HS2.out.mono ?_
    rintro e w7 ⟨rfl, hb⟩
    have HB7 := hid (HB6.out.trans (hb.mono HB6.out.size))
    clear hb HS2 HB6
    go_wp2_with fail
    go_ret
    exact ⟨rfl, HB7.out⟩
  · have HT := hid (ps.pTurnedBad _ W v X HV.out HXL.out HXZ.out hok)
    have htk : decide (okT X) = false := decide_eq_false hok
    clear hok
    go_wp2_with fail
    refine HT.out.mono ?_
    rintro e w2 ⟨ta, tc, rfl, hb⟩
    have HV2 := hid (HV.out.below hb)
    have HB2 := hid hb
    have HRT := hid (refTurned_so _ w2 v X HV2.out HXL.out)
    rw [htk] at HRT
    clear hb HT HV
    go_wp2_with fail
    refine HRT.out.mono ?_
    rintro e w3 ⟨q, rfl, -, hb⟩
    have HB3 := hid (HB2.out.trans (hb.mono HB2.out.size))
    have HKN := hid (known15_any ps w3)
    clear hb HRT HV2 HB2
    go_wp2_with fail
    refine HKN.out.mono ?_
    rintro e w4 ⟨rfl, hb⟩
    have HB4 := hid (HB3.out.trans (hb.mono HB3.out.size))
    clear hb HKN HB3
    go_wp2_with fail
    go_ret
    exact ⟨rfl, HB4.out⟩
end Go.Proofs.Ytclpoconppmapaa
