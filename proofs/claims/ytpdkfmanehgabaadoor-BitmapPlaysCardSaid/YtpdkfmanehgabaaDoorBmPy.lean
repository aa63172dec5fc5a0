/- THE LAW BitmapPlays: the walk. -/
import Derived.Test.YtpdkfmanehgabaaDoorBmOpen
import Derived.Test.YtpdkfmanehgabaaDoorBmSz
namespace Go.Proofs.YtpdkfmanehgabaaDoor
open Go.RowKit Go.Inc

/-- Does an act put in? -/
def bacIn (t : Bac) : Bool := bits .and .i64 t.kind 1 == 0
/-- The set behind the first i acts. -/
def playTo (S : Nat) (ts : List Bac) : Nat → List Bool
  | 0 => List.replicate S false
  | i + 1 => (putTo (bacIn (ts.getD i ⟨0, []⟩)) (playTo S ts i) ((ts.getD i ⟨0, []⟩).L.take 20) ((ts.getD i ⟨0, []⟩).L.take 20).length).1
theorem playTo_len (S : Nat) (ts : List Bac) : ∀ i, (playTo S ts i).length = S
  | 0 => by simp [playTo]
  | i + 1 => by unfold playTo; rw [putTo_len, playTo_len S ts i]
set_option maxRecDepth 20000 in
set_option maxHeartbeats 4000000 in
theorem bitmapPlays_walk (size no : Int) (a : Option Addr) (c : Nat) (ts : List Bac) (W : World) (hts : BacS (fun _ => True) W a ts) (hlc : ts.length ≤ c) (hcm : c ≤ maxLen) (hT : Tab W)
    (hz1 : -9223372036854775808 ≤ size ∧ size ≤ 9223372036854775807) (hz0 : -9223372036854775808 ≤ no ∧ no ≤ 9223372036854775807) :
    Calls Tryd.prog 3 #[.int .i64 size, .slice a ts.length c, .int .i64 no] W fun e w' => e = .returned (.bool true) ∧ Below W.heap.size W w' := by
  have HTS := hid hts.old
  have HT := hid hT
  have hcm2 : (ts.length : Int) ≤ 9223372036854775807 := by unfold maxLen at hcm; omega
  obtain ⟨n, hn⟩ : ∃ n, n = ts.length := ⟨_, rfl⟩
  have HN := hid hn
  rw [← hn] at hcm2 hlc ⊢
  clear hts hT hn
  by_cases hbad : size < 1 ∨ 2048 < size
  · have HP := hid (fun v z => new_bad v size z hbad)
    rcases hbad with hb | hb
    · go_enter Tryd.func3, Tryd.ntmps3
      go_wp2_with fail
      refine (HP.out _ _).mono ?_
      rintro e w1 ⟨rfl, rfl⟩
      go_wp2_with fail
      refine (known_any _ HT.out).mono ?_
      rintro e w2 ⟨rfl, hb2⟩
      have HB2 := hid hb2
      clear hb2
      go_wp2_with fail
      go_ret
      exact ⟨rfl, HB2.out⟩
    · have hb1 : (size < 1) = False := eq_false (by omega)
      go_enter Tryd.func3, Tryd.ntmps3
      go_wp2_with fail
      refine (HP.out _ _).mono ?_
      rintro e w1 ⟨rfl, rfl⟩
      go_wp2_with fail
      refine (known_any _ HT.out).mono ?_
      rintro e w2 ⟨rfl, hb2⟩
      have HB2 := hid hb2
      clear hb2
      go_wp2_with fail
      go_ret
      exact ⟨rfl, HB2.out⟩
  · obtain ⟨Z, rfl⟩ := Int.eq_ofNat_of_zero_le (show 0 ≤ size by omega)
    have h1 : (1 : Int) ≤ Z := by omega
    have h2 : (Z : Int) ≤ 2048 := by omega
    have hs1 : ((Z : Int) < 1) = False := eq_false (by omega)
    have hs1b : (Z < 1) = False := eq_false (by omega)
    have hs2 : (2048 < Z) = False := eq_false (by omega)
    have HN0 := hid (new_empty Z W h1 h2)
    obtain ⟨S, hS⟩ : ∃ S, S = 1 + Z % 200 := ⟨_, rfl⟩
    have hSi : 1 + (Z : Int) % 200 = (S : Int) := by omega
    have hS1 : (1 : Int) ≤ S := by omega
    have hS2 : (S : Int) ≤ 200 := by omega
    have HN1 := hid (fun z => new_empty S z (by omega) (by omega))
    have HR1 := hid (fun z => refNew_any (fun _ => True) S none 0 [] z (Si.nil _ _ _) (by omega) (by omega) (by decide))
    clear hbad hS
    go_enter Tryd.func3, Tryd.ntmps3
    go_wp2_with fail
    refine HN0.out.mono ?_
    clear HN0
    rintro e w1 ⟨⟨v0, rfl, hv0⟩, hb1⟩
    have HB1 := hid hb1
    have HSZ := hid (size_any _ v0 _ w1 hv0.bm)
    rw [List.length_replicate] at HSZ
    have hZZ : ((Z : Int) != Z) = false := by simp
    clear hv0 hb1
    go_wp2_with fail
    refine HSZ.out.mono ?_
    clear HSZ
    rintro e w2 ⟨rfl, rfl⟩
    go_wp2_with fail
    refine (HN1.out _).mono ?_
    clear HN1
    rintro e w2 ⟨⟨vs, rfl, hvs⟩, hb2⟩
    have HB2 := hid (HB1.out.trans (hb2.mono HB1.out.size))
    obtain ⟨b, g, cs, V0, rfl, hbb, hgg, hat, hbits⟩ := hvs
    rw [List.length_replicate] at hat
    have HAT2 := hid hat
    have HBI := hid hbits
    have HBG : Hid (W.heap.size ≤ b ∧ W.heap.size ≤ g) := hid ⟨Nat.le_trans HB1.out.size hbb, Nat.le_trans HB1.out.size hgg⟩
    clear hb2 HB1 hat hbits hbb hgg
    go_wp2_with fail
    refine (HR1.out w2).mono ?_
    clear HR1
    rintro e w3 ⟨⟨vm, rfl, hm⟩, hb3⟩
    have HB3 := hid (HB2.out.trans (hb3.mono HB2.out.size))
    have HAT3 := hid (HAT2.out.below hb3)
    obtain ⟨gm, cm, rfl, hgm⟩ : ∃ gm cm, vm = .slice (some ⟨gm, 0, none⟩) S cm ∧ w2.heap.size ≤ gm := by
      rcases hm.2 with ⟨_, h0⟩ | ⟨gm, cm, cur, h, hb, _⟩
      · omega
      · exact ⟨gm, cm, h, hb⟩
    have HGM : Hid (gm ≠ b ∧ gm ≠ g ∧ W.heap.size ≤ gm) := hid ⟨by have := HAT2.out.blt; omega, by have := HAT2.out.glt; omega, Nat.le_trans HB2.out.size hgm⟩
    have HM3 : Hid (w3.ownsRow W.heap.size 4 1 (.slice (some ⟨gm, 0, none⟩) S cm) S (bvals (playTo S ts 0))) := hid (own_weaken hm HB2.out.size)
    clear hm hb3 HB2 HAT2 hgm
    go_wp2_with fail
    go_loopw [10] (fun i wr => ∃ (i' : Nat) (V : List Nat), i' ≤ n ∧ i' ≤ 20 ∧ i = .int .i64 (i' : Int) ∧ BmAt wr b g cs S V ∧ (∀ j, wbit V j = inB (playTo S ts i') j) ∧ wr.ownsRow W.heap.size 4 1 (.slice (some ⟨gm, 0, none⟩) S cm) S (bvals (playTo S ts i')) ∧ Below W.heap.size W wr) (fun i _ => 20 - (intOf i).toNat)
    case atStart => exact ⟨0, V0, Nat.zero_le _, Nat.zero_le _, rfl, HAT3.out, HBI.out, HM3.out, HB3.out⟩
    case round =>
      obtain ⟨i, V, hi, hi20, rfl, hat, hbi, hm, hb⟩ := hrel
      have HAT := hid hat
      have HBT := hid hbi
      have HM := hid hm
      have HB := hid hb
      clear hat hbi hm hb HAT3 HBI HM3 HB3
      by_cases hin : (i : Int) < n
      · have hin2 : (i < n) = True := eq_true (by omega)
        by_cases hi2 : (i : Int) < 20
        · have hi22 : (i < 20) = True := eq_true (by omega)
          obtain ⟨t, ht⟩ : ∃ t, ts[i]? = some t := ⟨_, List.getElem?_eq_getElem (by have := HN.out; omega)⟩
          have HPL : Hid (playTo S ts (i + 1) = (putTo (bacIn t) (playTo S ts i) (t.L.take 20) (t.L.take 20).length).1) := hid (by
            conv => lhs; unfold playTo
            rw [List.getD_eq_getElem?_getD, ht]; rfl)
          obtain ⟨ba, oa, aL, cL, rfl, hok, hk1, hk2, hsi, hlL, hcL, _⟩ := HTS.out.below HB.out i t ht
          obtain ⟨xh, hxh⟩ : ∃ xh, xh = t.L.take 20 := ⟨_, rfl⟩
          have hmin : min (t.L.length : Int) 20 = (xh.length : Int) := by rw [hxh, List.length_take]; omega
          have HX : Hid (Si (fun b => b < W.heap.size) wr aL xh) := hid (by rw [hxh]; exact hsi.front 20)
          have hx20 : (xh.length : Int) ≤ 20 := by omega
          have hxc : (xh.length : Int) ≤ cL := by omega
          have hcL2 : (cL : Int) ≤ 9223372036854775807 := by unfold maxLen at hcL; omega
          rw [← hxh] at HPL
          obtain ⟨nL, hnL⟩ : ∃ nL, nL = t.L.length := ⟨_, rfl⟩
          rw [← hnL] at hk2 hmin
          obtain ⟨kd, hkd⟩ : ∃ kd, kd = t.kind := ⟨_, rfl⟩
          obtain ⟨bv, hbv⟩ : ∃ bv, bv = bacIn t := ⟨_, rfl⟩
          have hbe : ((bits .and .i64 kd 1 : Int) == 0) = bv := by rw [hbv, hkd]; rfl
          rw [← hkd] at hk1
          rw [← hbv] at HPL
          obtain ⟨mk, hmk⟩ : ∃ mk, mk = playTo S ts i := ⟨_, rfl⟩
          have HMK : Hid (mk.length = S) := hid (by rw [hmk, playTo_len])
          rw [← hmk] at HM HPL HBT
          obtain ⟨nx, hnx⟩ : ∃ nx, nx = xh.length := ⟨_, rfl⟩
          have HNX := hid hnx
          rw [← hnx] at hmin hx20 hxc HPL
          clear hin ht hxh hnL hkd hbv hmk hsi hlL hcL hok hnx
          go_wp2_with fail
          go_quiet (fail)
          have HBQ : Hid (Below wr.heap.size wr (wr.drewN nq)) := hid (below_drewN wr nq)
          have hk1' := (HBQ.out.cell (cell_lt hk1)).trans hk1
          have HAT1 := hid (HAT.out.below HBQ.out)
          have HM1 : Hid ((wr.drewN nq).ownsRow W.heap.size 4 1 (.slice (some ⟨gm, 0, none⟩) S cm) S (bvals mk)) := hid (owns_mv (F := fun _ => False) HM.out (Mv.of_below HBQ.out) (fun _ _ => id))
          have HX1 := hid (HX.out.below HBQ.out)
          have HBW : Hid (Below W.heap.size W (wr.drewN nq)) := hid (HB.out.trans (HBQ.out.mono HB.out.size))
          generalize wr.drewN nq = wq at *
          clear hk1 hk2 HAT HM HX HB HBQ
          go_wp2_with fail
          go_loopw [13, 14] (fun nn kk wi => ∃ k : Nat, k ≤ nx ∧ kk = .int .i64 (k : Int) ∧ nn = .int .i64 ((putTo bv mk xh k).2 : Int) ∧ wi.ownsRow W.heap.size 4 1 (.slice (some ⟨gm, 0, none⟩) S cm) S (bvals (putTo bv mk xh k).1) ∧ Mv (fun i => i = gm) wq wi) (fun _ kk _ => nx - (intOf kk).toNat)
          case atStart => exact ⟨0, Nat.zero_le _, rfl, rfl, HM1.out, Mv.refl _ _⟩
          case round =>
            obtain ⟨wi, hwi⟩ : ∃ wi, wi = wr := ⟨_, rfl⟩
            subst hwi
            obtain ⟨k, hk, rfl, rfl, hm, hmv⟩ := hrel
            have HMI := hid hm
            have HMV := hid hmv
            clear hm hmv HM1
            have hcnt := putTo_cnt bv mk xh k
            obtain ⟨cnt, hc0⟩ : ∃ cnt, cnt = (putTo bv mk xh k).2 := ⟨_, rfl⟩
            obtain ⟨mi, hmi⟩ : ∃ mi, mi = (putTo bv mk xh k).1 := ⟨_, rfl⟩
            have HC0 := hid hc0
            have HMI0 := hid hmi
            have HLK : Hid (mi.length = S) := hid (by rw [hmi, putTo_len, HMK.out])
            rw [← hc0] at hcnt ⊢
            rw [← hmi] at HMI
            clear hc0 hmi
            by_cases hlt : (k : Int) < nx
            · obtain ⟨b0, o0, rfl, hc⟩ : ∃ b0 o0, aL = some ⟨b0, o0, none⟩ ∧ wi.cell? ⟨b0, o0 + k, none⟩ = some (.int .i64 (xh.getD k 0)) := by
                rcases si_mv HX1.out HMV.out (fun i hi e => by have := HGM.out.2.2; omega) with h | ⟨b0, o0, h, _, hc⟩
                · have := HNX.out; rw [h] at this; simp at this; omega
                · exact ⟨b0, o0, h, hc k (by have := HNX.out; omega)⟩
              obtain ⟨z, hz⟩ : ∃ z, z = xh.getD k 0 := ⟨_, rfl⟩
              have HSTEP : Hid (putTo bv mk xh (k + 1) = if 0 ≤ z ∧ z < S ∧ hasB mi z ≠ bv then (mi.set z.toNat bv, cnt + 1) else (mi, cnt)) := hid (by
                have e : putTo bv mk xh k = (mi, cnt) := by rw [HMI0.out, HC0.out]
                rw [← HLK.out, hz]
                conv => lhs; unfold putTo
                rw [e]; rfl)
              rw [← hz] at hc
              have hkn : (k < nx) = True := eq_true (by omega)
              clear hz
              by_cases hz0 : 0 ≤ z
              · by_cases hzS : z < S
                · obtain ⟨x, rfl⟩ := Int.eq_ofNat_of_zero_le hz0
                  have hxS : x < S := by omega
                  have hcell := HMI.out.cells (g := gm) rfl x (.bool (inB mi x)) (bvals_get (by rw [HLK.out]; exact hxS))
                  rw [Addr.add_lit] at hcell
                  simp only [Nat.zero_add] at hcell
                  have hfz : wi.frozen? ⟨gm, x, none⟩ = false := HMI.out.frozenAt x
                  by_cases hne : inB mi x = bv
                  · have HT1 : Hid (putTo bv mk xh (k + 1) = (mi, cnt)) := hid (by rw [HSTEP.out, if_neg (fun h => h.2.2 (by rw [hasB_nat]; exact hne))])
                    have hxs : (x < S) = True := eq_true hxS
                    rw [hne] at hcell
                    have hbb : (bv != bv) = false := by simp
                    clear hne HSTEP
                    go_wp2_with fail
                    go_roundw
                    case rel => exact ⟨k + 1, by omega, by go_num, by rw [HT1.out], by rw [HT1.out]; exact HMI.out, HMV.out⟩
                    case measure => simp [intOf]; omega
                  · have HT1 : Hid (putTo bv mk xh (k + 1) = (mi.set x bv, cnt + 1)) := hid (by rw [HSTEP.out, if_pos ⟨hz0, hzS, by rw [hasB_nat]; exact hne⟩]; rfl)
                    have hst := hid (HMI.out.stored x (.bool bv))
                    have HMV2 : Hid (Mv (fun i => i = gm) wq (wi.setCell ⟨gm, x, none⟩ (.bool bv))) := hid (mv_setCell HMV.out rfl _)
                    have hxs : (x < S) = True := eq_true hxS
                    obtain ⟨old, hold⟩ : ∃ old, old = inB mi x := ⟨_, rfl⟩
                    rw [← hold] at hcell hne
                    clear HSTEP HMI HMV
                    cases bv
                    · obtain rfl : old = true := by cases old; exact absurd rfl hne; rfl
                      clear hne hold
                      go_wp2_with fail
                      go_roundw
                      case rel => exact ⟨k + 1, by omega, by go_num, by rw [HT1.out]; go_num, by rw [HT1.out, ← bvals_set]; exact hst.out.1, HMV2.out⟩
                      case measure => simp [intOf]; omega
                    · obtain rfl : old = false := by cases old; rfl; exact absurd rfl hne
                      clear hne hold
                      go_wp2_with fail
                      go_roundw
                      case rel => exact ⟨k + 1, by omega, by go_num, by rw [HT1.out]; go_num, by rw [HT1.out, ← bvals_set]; exact hst.out.1, HMV2.out⟩
                      case measure => simp [intOf]; omega
                · have HT1 : Hid (putTo bv mk xh (k + 1) = (mi, cnt)) := hid (by rw [HSTEP.out, if_neg (fun h => hzS h.2.1)])
                  have hzs : decide (z < (S : Int)) = false := decide_eq_false hzS
                  clear HSTEP
                  go_wp2_with fail
                  go_roundw
                  case rel => exact ⟨k + 1, by omega, by go_num, by rw [HT1.out], by rw [HT1.out]; exact HMI.out, HMV.out⟩
                  case measure => simp [intOf]; omega
              · have HT1 : Hid (putTo bv mk xh (k + 1) = (mi, cnt)) := hid (by rw [HSTEP.out, if_neg (fun h => hz0 h.1)])
                have hzs : decide (0 ≤ z) = false := decide_eq_false hz0
                clear HSTEP
                go_wp2_with fail
                go_roundw
                case rel => exact ⟨k + 1, by omega, by go_num, by rw [HT1.out], by rw [HT1.out]; exact HMI.out, HMV.out⟩
                case measure => simp [intOf]; omega
            · have hkf : (k < nx) = False := eq_false (by omega)
              have HKN : Hid (k = nx) := hid (by omega)
              have HATI : Hid (BmAt wi b g cs mk.length V) := hid (by rw [HMK.out]; exact HAT1.out.mv HMV.out (fun e => HGM.out.1 e.symm) (fun e => HGM.out.2.1 e.symm))
              have HXI : Hid (Si (fun b => b < W.heap.size) wi aL xh) := hid (si_mv HX1.out HMV.out (fun i hi e => by have := HGM.out.2.2; omega))
              have HBI2 : Hid (Below W.heap.size W wi) := hid (HBW.out.trans (HMV.out.below HBW.out.size fun i hi => by have := HGM.out.2.2; omega))
              have hcc : ((cnt : Int) != cnt) = false := by simp
              clear hlt HX1 HAT1 HBW
              cases bv
              · have HADD : Hid (Calls Tryd.prog 12 #[.pointer (some ⟨b, 0, none⟩), .slice aL nx cL] wi fun e w' => e = .returned (.int .i64 (cnt : Int)) ∧ (∃ W', BmAt w' b g cs mk.length W' ∧ ∀ i, wbit W' i = inB mi i) ∧ Mv (fun i => i = g) wi w') := hid (by
                  have h := drop_any (fun b => b < W.heap.size) b g cs mk V aL cL xh wi HATI.out HBT.out HXI.out (fun i hi e => by have := HBG.out.2; omega) (by have := HNX.out; omega)
                  have e : putTo false mk xh xh.length = (mi, cnt) := by rw [← HNX.out, ← HKN.out, HMI0.out, HC0.out]
                  rw [e, ← HNX.out] at h
                  exact h)
                go_wp2_with fail
                refine HADD.out.mono ?_
                clear HADD
                rintro e w9 ⟨rfl, ⟨V', hV, hVb⟩, hmv9⟩
                have HV9 := hid (And.intro hV hVb)
                have HM9 : Hid (w9.ownsRow W.heap.size 4 1 (.slice (some ⟨gm, 0, none⟩) S cm) S (bvals mi)) := hid (owns_mv HMI.out hmv9 (fun i hi e => by cases hi; exact HGM.out.2.1 e))
                have HB9 : Hid (Below W.heap.size W w9) := hid (HBI2.out.trans (hmv9.below HBI2.out.size fun i hi => by have := HBG.out.2; omega))
                clear hV hVb hmv9 HMI HMV HATI HXI HBI2
                go_wp2_with fail
                go_roundw
                case rel => exact ⟨i + 1, V', of_eq_true hin2, by omega, by go_num, by rw [← HMK.out]; exact HV9.out.1, by rw [HPL.out, ← HKN.out, ← HMI0.out]; exact HV9.out.2, by rw [HPL.out, ← HKN.out, ← HMI0.out]; exact HM9.out, HB9.out⟩
                case measure => simp [intOf]; omega
              · have HADD : Hid (Calls Tryd.prog 11 #[.pointer (some ⟨b, 0, none⟩), .slice aL nx cL] wi fun e w' => e = .returned (.int .i64 (cnt : Int)) ∧ (∃ W', BmAt w' b g cs mk.length W' ∧ ∀ i, wbit W' i = inB mi i) ∧ Mv (fun i => i = g) wi w') := hid (by
                  have h := add_any (fun b => b < W.heap.size) b g cs mk V aL cL xh wi HATI.out HBT.out HXI.out (fun i hi e => by have := HBG.out.2; omega) (by have := HNX.out; omega)
                  have e : putTo true mk xh xh.length = (mi, cnt) := by rw [← HNX.out, ← HKN.out, HMI0.out, HC0.out]
                  rw [e, ← HNX.out] at h
                  exact h)
                go_wp2_with fail
                refine HADD.out.mono ?_
                clear HADD
                rintro e w9 ⟨rfl, ⟨V', hV, hVb⟩, hmv9⟩
                have HV9 := hid (And.intro hV hVb)
                have HM9 : Hid (w9.ownsRow W.heap.size 4 1 (.slice (some ⟨gm, 0, none⟩) S cm) S (bvals mi)) := hid (owns_mv HMI.out hmv9 (fun i hi e => by cases hi; exact HGM.out.2.1 e))
                have HB9 : Hid (Below W.heap.size W w9) := hid (HBI2.out.trans (hmv9.below HBI2.out.size fun i hi => by have := HBG.out.2; omega))
                clear hV hVb hmv9 HMI HMV HATI HXI HBI2
                go_wp2_with fail
                go_roundw
                case rel => exact ⟨i + 1, V', of_eq_true hin2, by omega, by go_num, by rw [← HMK.out]; exact HV9.out.1, by rw [HPL.out, ← HKN.out, ← HMI0.out]; exact HV9.out.2, by rw [HPL.out, ← HKN.out, ← HMI0.out]; exact HM9.out, HB9.out⟩
                case measure => simp [intOf]; omega
        · have hi22 : (i < 20) = False := eq_false (by omega)
          have hi2i : decide ((i : Int) < 20) = false := decide_eq_false hi2
          obtain ⟨mk, hmk⟩ : ∃ mk, mk = playTo S ts i := ⟨_, rfl⟩
          have HMK : Hid (mk.length = S) := hid (by rw [hmk, playTo_len])
          rw [← hmk] at HM HBT
          have HBL : Hid (Bl (fun b => W.heap.size ≤ b) wr (some ⟨gm, 0, none⟩) mk) := hid (by
            obtain ⟨aw, cw, hvw, -, -, -, -, hbl⟩ := Bl.owned HM.out
            obtain ⟨haw, -, -⟩ := Value.slice.inj hvw
            rw [haw]; exact hbl)
          have HBM : Hid (Bm (fun _ => True) wr (.pointer (some ⟨b, 0, none⟩)) mk) := hid (.inr ⟨b, g, cs, V, rfl, trivial, trivial, by rw [HMK.out]; exact HAT.out, HBT.out⟩)
          have HTE : Hid (∀ z x (ok : Nat → Prop), Two2 W wr z → Bm ok z x mk → Calls Tryd.prog 13 #[x, .slice (some ⟨gm, 0, none⟩) S cm, .int .i64 no] z fun e w' => e = .returned (.bool true) ∧ Below z.heap.size z w') := hid fun z x ok hz hx => by
            have h := tells_any ok _ x mk (some ⟨gm, 0, none⟩) cm no z hx (HBL.out.below hz.2) (HT.out.below hz.1) (by rw [HMK.out]; omega) hz0.1 hz0.2
            rw [HMK.out] at h
            exact h
          have HK0 : Hid (Two2 W wr wr) := hid ⟨HB.out, Below.refl _ _⟩
          clear hmk HM HAT HBL
          go_wp2_with fail
          refine (known_any wr (HT.out.below HK0.out.1)).mono ?_
          rintro e w6 ⟨rfl, hb⟩
          have HK1 := hid (HK0.out.on hb)
          clear hb HK0
          go_wp2_with fail
          refine (HTE.out _ _ _ HK1.out (HBM.out.below HK1.out.2)).mono ?_
          rintro e w7 ⟨rfl, hb⟩
          have HK2 := hid (HK1.out.on hb)
          clear hb HK1
          go_wp2_with fail
          refine (copy_any (fun _ => True) _ mk w7 (HBM.out.below HK2.out.2)).mono ?_
          rintro e w8 ⟨⟨x, rfl, hx⟩, hb⟩
          have HX := hid (copy_post_some (by rw [HMK.out]; omega) hx)
          have HK3 := hid (HK2.out.on hb)
          clear hb HK2 hx
          go_wp2_with fail
          refine (HTE.out _ _ _ HK3.out HX.out.bm).mono ?_
          rintro e w9 ⟨rfl, hb⟩
          have HK4 := hid (HK3.out.on hb)
          clear hb HK3
          go_wp2_with fail
          go_ret
          exact ⟨rfl, HK4.out.1⟩
      · have hin2 : (i < n) = False := eq_false (by omega)
        clear hin
        obtain ⟨mk, hmk⟩ : ∃ mk, mk = playTo S ts i := ⟨_, rfl⟩
        have HMK : Hid (mk.length = S) := hid (by rw [hmk, playTo_len])
        rw [← hmk] at HM HBT
        have HBL : Hid (Bl (fun b => W.heap.size ≤ b) wr (some ⟨gm, 0, none⟩) mk) := hid (by
          obtain ⟨aw, cw, hvw, -, -, -, -, hbl⟩ := Bl.owned HM.out
          obtain ⟨haw, -, -⟩ := Value.slice.inj hvw
          rw [haw]; exact hbl)
        have HBM : Hid (Bm (fun _ => True) wr (.pointer (some ⟨b, 0, none⟩)) mk) := hid (.inr ⟨b, g, cs, V, rfl, trivial, trivial, by rw [HMK.out]; exact HAT.out, HBT.out⟩)
        have HTE : Hid (∀ z x (ok : Nat → Prop), Two2 W wr z → Bm ok z x mk → Calls Tryd.prog 13 #[x, .slice (some ⟨gm, 0, none⟩) S cm, .int .i64 no] z fun e w' => e = .returned (.bool true) ∧ Below z.heap.size z w') := hid fun z x ok hz hx => by
          have h := tells_any ok _ x mk (some ⟨gm, 0, none⟩) cm no z hx (HBL.out.below hz.2) (HT.out.below hz.1) (by rw [HMK.out]; omega) hz0.1 hz0.2
          rw [HMK.out] at h
          exact h
        have HK0 : Hid (Two2 W wr wr) := hid ⟨HB.out, Below.refl _ _⟩
        clear hmk HM HAT HBL
        go_wp2_with fail
        refine (known_any wr (HT.out.below HK0.out.1)).mono ?_
        rintro e w6 ⟨rfl, hb⟩
        have HK1 := hid (HK0.out.on hb)
        clear hb HK0
        go_wp2_with fail
        refine (HTE.out _ _ _ HK1.out (HBM.out.below HK1.out.2)).mono ?_
        rintro e w7 ⟨rfl, hb⟩
        have HK2 := hid (HK1.out.on hb)
        clear hb HK1
        go_wp2_with fail
        refine (copy_any (fun _ => True) _ mk w7 (HBM.out.below HK2.out.2)).mono ?_
        rintro e w8 ⟨⟨x, rfl, hx⟩, hb⟩
        have HX := hid (copy_post_some (by rw [HMK.out]; omega) hx)
        have HK3 := hid (HK2.out.on hb)
        clear hb HK2 hx
        go_wp2_with fail
        refine (HTE.out _ _ _ HK3.out HX.out.bm).mono ?_
        rintro e w9 ⟨rfl, hb⟩
        have HK4 := hid (HK3.out.on hb)
        clear hb HK3
        go_wp2_with fail
        go_ret
        exact ⟨rfl, HK4.out.1⟩
end Go.Proofs.YtpdkfmanehgabaaDoor
