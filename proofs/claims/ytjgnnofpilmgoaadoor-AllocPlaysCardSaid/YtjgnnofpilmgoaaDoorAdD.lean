/- CONTRACTS: the document's allocator: Give. -/
import Derived.Test.YtjgnnofpilmgoaaDoorAdC
namespace Go.Proofs.YtjgnnofpilmgoaaDoor
open Go.RowKit Go.Inc

set_option maxRecDepth 20000 in
set_option maxHeartbeats 4000000 in
theorem dGive_any (okz : Nat → Prop) (g : Nat) (ks : List Nat) (a : Option Addr) (cz : Nat) (zs : List Int) (w : World) (h : Dk w g ks) (hk : Ks ks) (hz : Si okz w a zs) (hok : ∀ i, okz i → i ≠ g) (hl : (zs.length : Int) ≤ 9223372036854775807) :
    Calls Tryd.prog 14 #[.slice (some ⟨g, 0, none⟩) ks.length ks.length, .slice a zs.length cz] w fun r w' => r = .returned (.int .i64 (giveE ks zs)) ∧ Dk w' g (gaveK ks zs) ∧ Mv (fun i => i = g) w w' := by
  have HD := hid h
  have HZ := hid hz
  have HOK := hid hok
  have HKR := hid hk.rest
  have HL0 : Hid (0 < ks.length) := hid (by have := hk.n2; omega)
  have HR := hid (dRight_any okz (some ⟨g, 0, none⟩) ks.length ks.length a cz zs w hz hl)
  have HTW : Hid (∀ x, Si okz x a zs → Calls Tryd.prog 35 #[.slice a zs.length cz] x fun r w' => r = .returned (.bool (!decide zs.Nodup)) ∧ Below x.heap.size x w') := hid fun x hx => dTwice_any okz a cz zs x hx hl
  obtain ⟨N, hN⟩ : ∃ N, N = ks.length := ⟨_, rfl⟩
  have HNN := hid hN
  have hN2 : (N : Int) ≤ 2048 := by have := hk.n2048; omega
  obtain ⟨n, hn⟩ : ∃ n, n = zs.length := ⟨_, rfl⟩
  have HN := hid hn
  rw [← hN] at HR ⊢
  rw [← hn] at HR HTW hl ⊢
  obtain ⟨ob, hob⟩ : ∃ ob, ob = outR N zs := ⟨_, rfl⟩
  have HOB := hid hob
  rw [← hob] at HR
  clear h hk hz hok hN hn hob
  go_enter Tryd.func14, Tryd.ntmps14
  go_wp2_with fail
  refine HR.out.mono ?_
  clear HR
  rintro e w1 ⟨rfl, hb⟩
  have HB1 := hid hb
  clear hb
  cases ob
  · have HIR : Hid (∀ z ∈ zs, 2 ≤ z ∧ z < (ks.length : Int)) := hid (outR_false.1 (by rw [← HNN.out]; exact HOB.out.symm))
    have HOF : Hid (outR ks.length zs = false) := hid (by rw [← HNN.out]; exact HOB.out.symm)
    go_wp2_with fail
    go_loopw [5] (fun i wr => ∃ k : Nat, k ≤ n ∧ i = .int .i64 (k : Int) ∧ (∀ z ∈ zs.take k, isG (kd ks z.toNat) = true) ∧ (k = 0 ∨ zs.Nodup) ∧ Below w.heap.size w wr) (fun i _ => n - (intOf i).toNat)
    case atStart => exact ⟨0, Nat.zero_le _, rfl, by simp, .inl rfl, HB1.out⟩
    case round =>
      obtain ⟨k, hk, rfl, hg, hnd, hb⟩ := hrel
      have HG := hid hg
      have HND := hid hnd
      have HB := hid hb
      clear hg hnd hb HB1
      obtain ⟨wj, hwj⟩ : ∃ wj, wj = wr := ⟨_, rfl⟩
      subst hwj
      by_cases hlt : (k : Int) < n
      · have HSI := hid (HZ.out.below HB.out)
        obtain ⟨b, o, rfl, hck⟩ := si_cell HSI.out (k := k) (by have := HN.out; omega)
        have HSN := hid (takeI_snoc (bs := zs) (k := k) (by have := HN.out; omega))
        have HM := hid (getD_mem (zs := zs) (k := k) (by have := HN.out; omega))
        obtain ⟨x, hx⟩ : ∃ x, x = zs.getD k 0 := ⟨_, rfl⟩
        rw [← hx] at hck HSN HM
        have hkn : (k < n) = True := eq_true (by omega)
        obtain ⟨q, rfl⟩ := Int.eq_ofNat_of_zero_le (show (0 : Int) ≤ x by have := HIR.out x HM.out; omega)
        have hqn : q < ks.length := by have := HIR.out _ HM.out; omega
        have hqn3 := hqn
        have hqn2 : 2 ≤ q := by have := HIR.out _ HM.out; omega
        have hcq := (HD.out.below HB.out).cell hqn
        have hqN : (q < N) = True := eq_true (by have := HNN.out; omega)
        have hqN2 : (q : Int) < (N : Int) := by have := HNN.out; omega
        obtain ⟨K, hK⟩ : ∃ K, K = kd ks q := ⟨_, rfl⟩
        rw [← hK] at hcq
        have HKK := hid hK
        clear hx hqn hK
        have hK4 := HKR.out q hqn2 hqn3
        rw [← HKK.out] at hK4
        have HK4 := hid hK4
        obtain rfl | rfl | rfl | rfl : K = 1 ∨ K = 2 ∨ K = 3 ∨ K = 4 := by omega
        all_goals clear hK4 hqn2 hqn3
        · have HO : Hid (giveE ks zs = 11) := hid (chkE_bad HOF.out HM.out (by rw [show ((q : Nat) : Int).toNat = q from rfl, ← HKK.out]; rfl))
          go_wp2_with fail
          go_ret
          have e3 : gaveK ks zs = ks := if_neg (by rw [HO.out]; decide)
          rw [e3]
          exact ⟨by rw [HO.out]; rfl, HD.out.below HB.out, Mv.of_below HB.out⟩
        · by_cases hnd : zs.Nodup
          · have HTWJ := hid (HTW.out wj HSI.out)
            rw [decide_eq_true hnd] at HTWJ
            have HNU := hid hnd
            clear hnd
            go_wp2_with fail
            refine HTWJ.out.mono ?_
            rintro e w2 ⟨rfl, hb⟩
            have HB2 := hid hb
            clear hb
            go_wp2_with fail
            go_roundw
            case rel =>
              refine ⟨k + 1, by omega, by go_num, ?_, .inr HNU.out, HB.out.trans (HB2.out.mono HB.out.size)⟩
              rw [HSN.out]
              intro z hz
              rcases mem_snoc.1 hz with h | h
              · exact HG.out z h
              · subst h
                rw [show ((q : Nat) : Int).toNat = q from rfl, ← HKK.out]; rfl
            case measure => simp [intOf]; omega
          · have HTWJ := hid (HTW.out wj HSI.out)
            rw [decide_eq_false hnd] at HTWJ
            have HO : Hid (giveE ks zs = 11) := hid (chkE_twice HOF.out hnd)
            clear hnd
            go_wp2_with fail
            refine HTWJ.out.mono ?_
            rintro e w2 ⟨rfl, hb⟩
            have HB2 := hid hb
            clear hb
            go_wp2_with fail
            go_ret
            have hbb := HB.out.trans (HB2.out.mono HB.out.size)
            have e3 : gaveK ks zs = ks := if_neg (by rw [HO.out]; decide)
            rw [e3]
            exact ⟨by rw [HO.out]; rfl, HD.out.below hbb, Mv.of_below hbb⟩
        · by_cases hnd : zs.Nodup
          · have HTWJ := hid (HTW.out wj HSI.out)
            rw [decide_eq_true hnd] at HTWJ
            have HNU := hid hnd
            clear hnd
            go_wp2_with fail
            refine HTWJ.out.mono ?_
            rintro e w2 ⟨rfl, hb⟩
            have HB2 := hid hb
            clear hb
            go_wp2_with fail
            go_roundw
            case rel =>
              refine ⟨k + 1, by omega, by go_num, ?_, .inr HNU.out, HB.out.trans (HB2.out.mono HB.out.size)⟩
              rw [HSN.out]
              intro z hz
              rcases mem_snoc.1 hz with h | h
              · exact HG.out z h
              · subst h
                rw [show ((q : Nat) : Int).toNat = q from rfl, ← HKK.out]; rfl
            case measure => simp [intOf]; omega
          · have HTWJ := hid (HTW.out wj HSI.out)
            rw [decide_eq_false hnd] at HTWJ
            have HO : Hid (giveE ks zs = 11) := hid (chkE_twice HOF.out hnd)
            clear hnd
            go_wp2_with fail
            refine HTWJ.out.mono ?_
            rintro e w2 ⟨rfl, hb⟩
            have HB2 := hid hb
            clear hb
            go_wp2_with fail
            go_ret
            have hbb := HB.out.trans (HB2.out.mono HB.out.size)
            have e3 : gaveK ks zs = ks := if_neg (by rw [HO.out]; decide)
            rw [e3]
            exact ⟨by rw [HO.out]; rfl, HD.out.below hbb, Mv.of_below hbb⟩
        · have HO : Hid (giveE ks zs = 11) := hid (chkE_bad HOF.out HM.out (by rw [show ((q : Nat) : Int).toNat = q from rfl, ← HKK.out]; rfl))
          go_wp2_with fail
          go_ret
          have e3 : gaveK ks zs = ks := if_neg (by rw [HO.out]; decide)
          rw [e3]
          exact ⟨by rw [HO.out]; rfl, HD.out.below HB.out, Mv.of_below HB.out⟩
      · have hkf : (k < n) = False := eq_false (by omega)
        have HKN : Hid (k = n) := hid (by omega)
        have HO : Hid (giveE ks zs = 0) := hid (by
          have h1 := HG.out
          rw [HKN.out, HN.out, List.take_length] at h1
          refine chkE_ok HOF.out h1 ?_
          rcases HND.out with h | h
          · have h0 : zs.length = 0 := by have := HN.out; have := HKN.out; omega
            rw [List.eq_nil_of_length_eq_zero h0]; simp
          · exact h)
        have HND2 : Hid zs.Nodup := hid (chkE_zero (by decide) HO.out).2.2
        clear hlt HTW
        go_wp2_with fail
        go_loopw [6] (fun i wr => ∃ k : Nat, k ≤ n ∧ i = .int .i64 (k : Int) ∧ Dk wr g (giveK ks (zs.take k)) ∧ Mv (fun i => i = g) w wr) (fun i _ => n - (intOf i).toNat)
        case atStart => exact ⟨0, Nat.zero_le _, rfl, by rw [List.take_zero, giveK_nil]; exact HD.out.below HB.out, Mv.of_below HB.out⟩
        case round =>
          clear HB
          obtain ⟨k, hk, rfl, hd, hm⟩ := hrel
          have HDR := hid hd
          have HMV := hid hm
          clear hd hm
          by_cases hlt : (k : Int) < n
          · obtain ⟨b, o, rfl, hck⟩ := si_cell (si_mv HZ.out HMV.out HOK.out) (k := k) (by have := HN.out; omega)
            have HSN := hid (takeI_snoc (bs := zs) (k := k) (by have := HN.out; omega))
            have HM := hid (getD_mem (zs := zs) (k := k) (by have := HN.out; omega))
            obtain ⟨x, hx⟩ : ∃ x, x = zs.getD k 0 := ⟨_, rfl⟩
            rw [← hx] at hck HSN HM
            have hkn : (k < n) = True := eq_true (by omega)
            obtain ⟨q, rfl⟩ := Int.eq_ofNat_of_zero_le (show (0 : Int) ≤ x by have := HIR.out x HM.out; omega)
            have hqn : q < ks.length := by have := HIR.out _ HM.out; omega
            have hcq := HDR.out.cell (i := q) (by rw [giveK_len]; exact hqn)
            have hfq := HDR.out.fz q
            have hqN : (q < N) = True := eq_true (by have := HNN.out; omega)
            have hqN2 : (q : Int) < (N : Int) := by have := HNN.out; omega
            have HPS := hid (giveK_snoc (ks := ks) (zs := zs.take k) hqn)
            have hnd1 : (zs.take (k + 1)).Nodup := HND2.out.sublist (List.take_sublist _ _)
            rw [HSN.out] at hnd1
            have hkq := kd_giveK_new (ks := ks) hqn (nodup_snoc.1 hnd1).2
            rw [hkq] at hcq
            obtain ⟨K, hK⟩ : ∃ K, K = kd ks q := ⟨_, rfl⟩
            rw [← hK] at hcq HPS
            clear hx hqn hK hnd1 hkq
            by_cases hk3 : K = 3
            · subst hk3
              go_wp2_with fail
              go_roundw
              case rel => exact ⟨k + 1, by omega, by go_num, by rw [HSN.out, HPS.out]; exact HDR.out.put q 1, mv_setCell HMV.out rfl _⟩
              case measure => simp [intOf]; omega
            · have hne : ((K : Int) == 3) = false := by rw [beq_eq_false_iff_ne]; omega
              have HPS4 : Hid (giveK ks (zs.take k ++ [(q : Int)]) = (giveK ks (zs.take k)).set q 4) := hid (by rw [HPS.out, show gK K = 4 from if_neg hk3])
              clear hk3 HPS
              go_wp2_with fail
              go_roundw
              case rel => exact ⟨k + 1, by omega, by go_num, by rw [HSN.out, HPS4.out]; exact HDR.out.put q 4, mv_setCell HMV.out rfl _⟩
              case measure => simp [intOf]; omega
          · have hkf : (k < n) = False := eq_false (by omega)
            have HKN : Hid (k = n) := hid (by omega)
            clear hlt
            go_wp2_with fail
            go_ret
            have e3 : gaveK ks zs = giveK ks zs := if_pos HO.out
            rw [e3]
            refine ⟨by rw [HO.out]; rfl, ?_, HMV.out⟩
            have hh := HDR.out
            rw [HKN.out, HN.out, List.take_length] at hh
            exact hh
  · have HO : Hid (giveE ks zs = 10) := hid (chkE_out (by rw [← HNN.out]; exact HOB.out.symm))
    go_wp2_with fail
    go_ret
    have e3 : gaveK ks zs = ks := if_neg (by rw [HO.out]; decide)
    rw [e3]
    exact ⟨by rw [HO.out]; rfl, HD.out.below HB1.out, Mv.of_below HB1.out⟩
end Go.Proofs.YtjgnnofpilmgoaaDoor
