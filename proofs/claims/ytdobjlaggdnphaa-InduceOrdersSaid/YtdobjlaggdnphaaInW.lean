/- THE LAW OF ORDERS (layer 16), walked over the program's contracts. -/
import Derived.Test.YtdobjlaggdnphaaInTu
import Derived.Test.YtdobjlaggdnphaaInS
namespace Go.Inc
open Go.RowKit
theorem okT_by {x : List Int} {l : List Nat} (h : ByP x l) (hl : l.length = x.length) : okT (zsN l) := fun n hn => by
  rw [zsN_len, hl] at hn
  exact zsN_mem.2 ((h.all n).2 hn)
theorem names_cmp {x : List Int} (h : InT x) {l : List Nat} (hl : ByP x l) {i j : Nat} (hi : i < (fsT x x.length).length) (hj : j < (fsT x x.length).length) :
    cmpP (pceT x ((fsT x x.length).getD i 0)) (pceT x ((fsT x x.length).getD j 0)) < 0 ↔ (nmT x l).getD i 0 < (nmT x l).getD j 0 := by
  rw [nmT_get hi, nmT_get hj, names_lt h hl (getD_inN hi) (getD_inN hj)]
  exact (pce_iff h (inF_mem.1 (getD_inN hi)).2.1 (inF_mem.1 (getD_inN hj)).2.1).2
end Go.Inc
namespace Go.Proofs.Ytdobjlaggdnphaa
open Go.RowKit Go.Inc
set_option maxRecDepth 20000 in
set_option maxHeartbeats 4000000 in
theorem induceOrders_walk (ps : PI16) (W : World) (a : Option Addr) (c : Nat) (zs0 : List Int) (s0 : Int) (hs : Si (fun _ => True) W a zs0) (hlc : zs0.length ≤ c) (hcm : c ≤ maxLen) (hn : a = none → c = 0)
    (b : Option Addr) (d : Nat) (zs2 : List Int) (hs2 : Si (fun _ => True) W b zs2) (hlc2 : zs2.length ≤ d) (hcm2 : d ≤ maxLen) (hn2 : b = none → d = 0) :
    Calls Try.prog 4 #[.slice a zs0.length c, .int .i64 s0, .slice b zs2.length d] W fun e w' => e = .returned (.bool true) ∧ Below W.heap.size W w' := by
  have HTX := hid (text15_any _ W (.slice a zs0.length c) zs0 s0 ⟨a, c, rfl, hs, hlc, hcm, hn⟩)
  obtain ⟨vb, hvb⟩ : ∃ vb, vb = Value.slice b zs2.length d := ⟨_, rfl⟩
  have HY0 : Hid (So (fun _ => True) W vb zs2) := hid ⟨b, d, hvb, hs2, hlc2, hcm2, hn2⟩
  rw [← hvb]
  clear hs hlc hcm hn hs2 hlc2 hcm2 hn2 hvb
  go_enter Try.func4, Try.ntmps4
  go_wp2_with fail
  refine HTX.out.mono ?_
  rintro e w1 ⟨vx, X, rfl, hx, hck, hxl, hb⟩
  have hxl2 : X.length ≤ 65536 := by omega
  have HXL := hid hxl2
  have HCK := hid hck
  have HI := hid (InT.of hck)
  have hml := fs_half (x := X)
  obtain ⟨F, hF⟩ : ∃ F, F = fsT X X.length := ⟨_, rfl⟩
  have HF := hid hF
  obtain ⟨m, hm⟩ : ∃ m, m = F.length := ⟨_, rfl⟩
  have HM := hid hm
  rw [← hF, ← hm] at hml
  have hmb : (m : Int) ≤ 60 := by omega
  have HV1 := hid hx
  have HY1 := hid (HY0.out.below hb)
  have HB1 := hid hb
  have HC := hid (refFirsts_so _ w1 vx X hx hxl2 HI.out.right)
  rw [← hF] at HC
  clear hx hck hxl hxl2 hb HTX HY0 hml hF hm
  go_wp2_with fail
  refine HC.out.mono ?_
  rintro e w2 ⟨u2, rfl, h2, hb⟩
  have HF2 := hid h2
  have HV2 := hid (HV1.out.below hb)
  have HB2 := hid (HB1.out.trans (hb.mono HB1.out.size))
  have HC := hid (turn16_any _ _ w2 u2 vb F zs2 h2 (HY1.out.below hb) (by have h1 := HM.out; omega))
  obtain ⟨a2, c2, rfl, -⟩ := h2
  rw [show (zsN F).length = m by rw [zsN_len, ← HM.out]] at HF2 HC ⊢
  clear hb HV1 HB1 HY1
  go_wp2_with fail
  refine HC.out.mono ?_
  rintro e w3 ⟨u3, gs, rfl, hp, h3, hb⟩
  have hfs : isFs X gs := isFs_perm (by rw [← HF.out]; exact hp)
  have HFS := hid hfs
  have HG3 := hid h3
  have HF3 := hid (HF2.out.below hb)
  have HV3 := hid (HV2.out.below hb)
  have HB3 := hid (HB2.out.trans (hb.mono HB2.out.size))
  obtain ⟨hby, hll⟩ := ind_byP HI.out hfs
  obtain ⟨l, hle⟩ : ∃ l, l = indT X gs := ⟨_, rfl⟩
  have HC := hid (ps.pInduce _ _ w3 vx u3 X gs HV3.out h3 HXL.out HCK.out hfs)
  rw [← hle] at hby hll HC
  have HLE := hid hle
  have HBY := hid hby
  have HLL := hid hll
  have HOK := hid (okT_by hby hll)
  clear hb h3 hp hfs hby hll hle HF2 HV2 HB2
  go_wp2_with fail
  refine HC.out.mono ?_
  rintro e w4 ⟨u4, rfl, h4, hb⟩
  have HO4 := hid h4
  have HG4 := hid (HG3.out.below hb)
  have HF4 := hid (HF3.out.below hb)
  have HV4 := hid (HV3.out.below hb)
  have HB4 := hid (HB3.out.trans (hb.mono HB3.out.size))
  have HC := hid (refInduce_so _ _ w4 vx u3 X gs HV4.out HG4.out HXL.out HCK.out HFS.out)
  rw [← HLE.out] at HC
  clear hb h4 HG3 HF3 HV3 HB3
  go_wp2_with fail
  refine HC.out.mono ?_
  rintro e w5 ⟨u5, rfl, h5, hb⟩
  have HO5 := hid (HO4.out.below hb)
  have HF5 := hid (HF4.out.below hb)
  have HV5 := hid (HV4.out.below hb)
  have HB5 := hid (HB4.out.trans (hb.mono HB4.out.size))
  have HC := hid (same_so _ _ w5 u4 u5 _ _ HO5.out h5 (by rw [zsN_len, HLL.out]; have := HXL.out; omega))
  rw [decide_eq_true rfl] at HC
  clear hb h5 HO4 HG4 HF4 HV4 HB4
  go_wp2_with fail
  refine HC.out.mono ?_
  rintro e w6 ⟨rfl, hb⟩
  have HO6 := hid (HO5.out.below hb)
  have HF6 := hid (HF5.out.below hb)
  have HV6 := hid (HV5.out.below hb)
  have HB6 := hid (HB5.out.trans (hb.mono HB5.out.size))
  have HC := hid (ps.pNames _ _ w6 vx u4 X l HV6.out HO6.out HXL.out HCK.out HOK.out HLL.out)
  obtain ⟨N, hN⟩ : ∃ N, N = ncT X l := ⟨_, rfl⟩
  obtain ⟨M, hM⟩ : ∃ M, M = nmT X l := ⟨_, rfl⟩
  have HNE := hid hN
  have HME := hid hM
  have HML : Hid ((zsN M).length = m) := hid (by rw [zsN_len, hM, nmT_len, HM.out, HF.out])
  rw [← hN, ← hM] at HC
  clear hb hN hM HO5 HF5 HV5 HB5
  go_wp2_with fail
  refine HC.out.mono ?_
  rintro e w7 ⟨u7, rfl, h7, hb⟩
  have HN7 := hid h7
  obtain ⟨a7, c7, rfl, -⟩ := h7
  have HO7 := hid (HO6.out.below hb)
  have HF7 := hid (HF6.out.below hb)
  have HV7 := hid (HV6.out.below hb)
  have HB7 := hid (HB6.out.trans (hb.mono HB6.out.size))
  have HC := hid (refNames_so _ _ w7 vx u4 X l HV7.out HO7.out HXL.out HCK.out HBY.out HLL.out)
  rw [← HNE.out, ← HME.out] at HC
  rw [HML.out] at HN7 ⊢
  have hNN : ((N : Int) != (N : Int)) = false := bne_self_eq_false _
  clear hb HO6 HF6 HV6 HB6
  go_wp2_with fail
  refine HC.out.mono ?_
  rintro e w8 ⟨u8, rfl, h8, hb⟩
  have HN8 := hid (HN7.out.below hb)
  have HF8 := hid (HF7.out.below hb)
  have HV8 := hid (HV7.out.below hb)
  have HB8 := hid (HB7.out.trans (hb.mono HB7.out.size))
  have HC := hid (same_so _ _ w8 _ u8 _ _ HN8.out h8 (by rw [HML.out]; omega))
  rw [decide_eq_true rfl] at HC
  clear hb h8 HO7 HF7 HV7 HB7 HN7
  go_wp2_with fail
  refine HC.out.mono ?_
  rintro e w9 ⟨rfl, hb⟩
  have HN9 := hid (HN8.out.below hb)
  have HF9 := hid (HF8.out.below hb)
  have HV9 := hid (HV8.out.below hb)
  have HB9 := hid (HB8.out.trans (hb.mono HB8.out.size))
  clear hb HC hNN HF8 HV8 HB8 HN8
  go_wp2_with fail
  go_loopw [17, 18, 19] (fun i _ _ wr => ∃ t : Nat, t ≤ m ∧ i = .int .i64 (t : Int) ∧ Below w9.heap.size w9 wr) (fun i _ _ _ => m - (intOf i).toNat)
  case atStart => exact ⟨0, Nat.zero_le _, rfl, Below.refl _ _⟩
  case round =>
    obtain ⟨t, ht, rfl, hb⟩ := hrel
    have HBR := hid hb
    clear hb
    by_cases hlt : t < m
    · have hti : (t < m) = True := eq_true hlt
      have HLT := hid hlt
      have htb : (t : Int) < (m : Int) := by omega
      clear hlt
      go_wp2_with fail
      go_loopw [18, 19] (fun i _ wq => ∃ k : Nat, k ≤ m ∧ i = .int .i64 (k : Int) ∧ Below w9.heap.size w9 wq) (fun i _ _ => m - (intOf i).toNat)
      case atStart => exact ⟨0, Nat.zero_le _, rfl, HBR.out⟩
      case round =>
        clear HBR
        obtain ⟨k, hk, rfl, hb⟩ := hrel
        generalize wr = wq at *
        have HBR := hid hb
        clear hb
        by_cases hkm : k < m
        · have hki : (k < m) = True := eq_true hkm
          have HKM := hid hkm
          have hkb : (k : Int) < (m : Int) := by omega
          have htF : t < (fsT X X.length).length := by rw [← HF.out, ← HM.out]; exact HLT.out
          have hkF : k < (fsT X X.length).length := by rw [← HF.out, ← HM.out]; exact hkm
          have hcm := names_cmp HI.out HBY.out htF hkF
          have hp1 := pce_codes HCK.out htF
          have hp2 := pce_codes HCK.out hkF
          have HVq := hid (HV9.out.below HBR.out)
          have hFq := HF9.out.below HBR.out
          rw [HF.out] at hFq
          have HC := hid (refPiece_so _ _ wq vx _ X t HVq.out hFq HXL.out HI.out htF)
          have HC2 : Hid (∀ y, Below wq.heap.size wq y → Calls Try.prog 22 #[vx, .slice a2 m c2, .int .i64 (k : Int)] y fun e w' => ∃ u, e = .returned u ∧ So _ w' u (pceT X ((fsT X X.length).getD k 0)) ∧ Below y.heap.size y w') := hid fun y hy => refPiece_so _ _ y vx _ X k (HVq.out.below hy) (hFq.below hy) HXL.out HI.out hkF
          obtain ⟨P1, hP1⟩ : ∃ P1, P1 = pceT X ((fsT X X.length).getD t 0) := ⟨_, rfl⟩
          obtain ⟨P2, hP2⟩ : ∃ P2, P2 = pceT X ((fsT X X.length).getD k 0) := ⟨_, rfl⟩
          rw [← hP1] at HC hcm hp1
          rw [← hP2] at HC2 hcm hp2
          have HP1 := hid hp1
          have HP2 := hid hp2
          rw [← HME.out] at hcm
          have hMl : M.length = m := by rw [← zsN_len M]; exact HML.out
          obtain ⟨b7, o7, rfl, hc7⟩ : ∃ b7 o7, a7 = some ⟨b7, o7, none⟩ ∧ ∀ y, Below wq.heap.size wq y → ∀ i, i < m → y.cell? ⟨b7, o7 + i, none⟩ = some (.int .i64 ((M.getD i 0 : Nat) : Int)) := by
            obtain ⟨a', c', e', hs', -⟩ := HN9.out.below HBR.out
            injection e' with e1 e2 e3
            subst e1
            rcases hs' with h | ⟨b, o, h, _, hc⟩
            · have h1 := HML.out
              rw [h] at h1; simp at h1; omega
            · refine ⟨b, o, h, fun y hy i hi => ?_⟩
              have h1 := hc i (by rw [HML.out]; exact hi)
              rw [zsN_get] at h1
              rw [World.cell?_of_block (hy.block b (cell_lt h1))]; exact h1
          obtain ⟨p, hpp⟩ : ∃ p, p = M.getD t 0 := ⟨_, rfl⟩
          obtain ⟨q, hqq⟩ : ∃ q, q = M.getD k 0 := ⟨_, rfl⟩
          have HCE : Hid (∀ y, Below wq.heap.size wq y → y.cell? ⟨b7, o7 + t, none⟩ = some (.int .i64 (p : Int)) ∧ y.cell? ⟨b7, o7 + k, none⟩ = some (.int .i64 (q : Int))) := hid fun y hy => ⟨by rw [hpp]; exact hc7 y hy t HLT.out, by rw [hqq]; exact hc7 y hy k hkm⟩
          rw [← hpp, ← hqq] at hcm
          have HCM := hid hcm
          clear hkm htF hkF hcm hp1 hp2 hFq hP1 hP2 hMl hc7 hpp hqq
          go_wp2_with fail
          refine HC.out.mono ?_
          rintro e y1 ⟨s1, rfl, g1, hb1⟩
          have HG1 := hid g1
          have HY1 := hid hb1
          clear HC g1
          clear hb1
          go_wp2_with fail
          refine (HC2.out y1 HY1.out).mono ?_
          rintro e y2 ⟨s2, rfl, g2, hb2⟩
          have HC3 := hid (refCompare_so _ _ y2 s1 s2 P1 P2 (HG1.out.below hb2) g2 HP1.out.1 HP2.out.1 (by have h1 := HP1.out.2; have h2 := HXL.out; omega) (by have h1 := HP2.out.2; have h2 := HXL.out; omega))
          have HY2 := hid (HY1.out.trans (hb2.mono HY1.out.size))
          clear hb2 g2 HC2 HG1 HY1
          obtain ⟨C, hC⟩ : ∃ C, C = cmpP P1 P2 := ⟨_, rfl⟩
          rw [← hC] at HC3 HCM
          clear hC
          go_wp2_with fail
          refine HC3.out.mono ?_
          rintro e y3 ⟨rfl, hb3⟩
          have HY3 := hid (HY2.out.trans (hb3.mono HY2.out.size))
          obtain ⟨hx1, hx2⟩ := HCE.out y3 HY3.out
          have HB3' := hid (HBR.out.trans (HY3.out.mono HBR.out.size))
          clear hb3 HC3 HY2 HY3 HCE HBR
          obtain ⟨Q, hQ⟩ : ∃ Q, Q = decide (C < 0) := ⟨_, rfl⟩
          have hQ1 : decide (C < 0) = Q := hQ.symm
          have hQ2 : decide ((p : Int) < (q : Int)) = Q := by
            rw [hQ, decide_eq_decide, HCM.out]; omega
          have hQ3 : decide (p < q) = Q := by
            rw [hQ, decide_eq_decide, HCM.out]
          have hQQ : (Q != Q) = false := bne_self_eq_false _
          clear hQ HCM
          go_wp2_with fail
          go_region
          go_wp2_with fail
          go_roundw
          case rel => exact ⟨k + 1, HKM.out, by have h1 := HKM.out; go_num, HB3'.out.drew⟩
          case measure => simp [intOf]; have := HKM.out; omega
        · have hki : (k < m) = False := eq_false hkm
          clear hkm
          go_wp2_with fail
          go_roundw
          case rel => exact ⟨t + 1, HLT.out, by have h1 := HLT.out; go_num, HBR.out⟩
          case measure => simp [intOf]; have := HLT.out; omega
    · have hti : (t < m) = False := eq_false hlt
      have HNr := hid (HN9.out.below HBR.out)
      have HFr := hid (HF9.out.below HBR.out)
      have HVr := hid (HV9.out.below HBR.out)
      have HBr := hid (HB9.out.trans (HBR.out.mono HB9.out.size))
      have HC := hid (ps.pReduced _ wr vx X HVr.out HXL.out HCK.out)
      clear hlt HBR HN9 HF9 HV9 HB9
      have HRD : Hid (rdT X = zsN M) := hid (by unfold rdT; rw [HME.out, nmT_one HI.out (ind_byP HI.out (isFs_own X)).1 HBY.out])
      rw [HRD.out] at HC
      go_wp2_with fail
      refine HC.out.mono ?_
      rintro e y1 ⟨s1, rfl, g1, hb⟩
      have HS1 := hid g1
      have HN1 := hid (HNr.out.below hb)
      have HV1 := hid (HVr.out.below hb)
      have HBa := hid (HBr.out.trans (hb.mono HBr.out.size))
      have hF1 := HFr.out.below hb
      have HC := hid (refInduce_so _ _ y1 vx _ X F HV1.out hF1 HXL.out HCK.out (by rw [HF.out]; exact isFs_own X))
      obtain ⟨l2, hl2⟩ : ∃ l2, l2 = indT X F := ⟨_, rfl⟩
      have HL2 := hid hl2
      rw [← hl2] at HC
      clear hb g1 hl2 hF1 HNr HVr HBr HFr
      go_wp2_with fail
      refine HC.out.mono ?_
      rintro e y2 ⟨s2, rfl, g2, hb⟩
      have HS2 := hid (HS1.out.below hb)
      have HN2 := hid (HN1.out.below hb)
      have HV2 := hid (HV1.out.below hb)
      have HBb := hid (HBa.out.trans (hb.mono HBa.out.size))
      have hb2 := ind_byP HI.out (isFs_own X)
      rw [← HF.out, ← HL2.out] at hb2
      have HC := hid (refNames_so _ _ y2 vx s2 X l2 HV2.out g2 HXL.out HCK.out hb2.1 hb2.2)
      rw [nmT_one HI.out hb2.1 HBY.out, ← HME.out] at HC
      obtain ⟨N2, hN2⟩ : ∃ N2, N2 = ncT X l2 := ⟨_, rfl⟩
      rw [← hN2] at HC
      clear hb g2 hb2 hN2 HS1 HN1 HV1 HBa
      go_wp2_with fail
      refine HC.out.mono ?_
      rintro e y3 ⟨s3, rfl, g3, hb⟩
      have HT3 := hid g3
      have HS3 := hid (HS2.out.below hb)
      have HN3 := hid (HN2.out.below hb)
      have HBc := hid (HBb.out.trans (hb.mono HBb.out.size))
      have HC := hid (known16_any ps y3)
      clear hb g3 HS2 HN2 HV2 HBb
      go_wp2_with fail
      refine HC.out.mono ?_
      rintro e y4 ⟨rfl, hb⟩
      have HT4 := hid (HT3.out.below hb)
      have HS4 := hid (HS3.out.below hb)
      have HN4 := hid (HN3.out.below hb)
      have HBd := hid (HBc.out.trans (hb.mono HBc.out.size))
      have HC := hid (same_so _ _ y4 s1 s3 _ _ HS4.out HT4.out (by rw [HML.out]; omega))
      rw [decide_eq_true rfl] at HC
      clear hb HT3 HS3 HN3 HBc
      go_wp2_with fail
      refine HC.out.mono ?_
      rintro e y5 ⟨rfl, hb⟩
      have HBe := hid (HBd.out.trans (hb.mono HBd.out.size))
      have HC := hid (same_so _ _ y5 s1 _ _ _ (HS4.out.below hb) (HN4.out.below hb) (by rw [HML.out]; omega))
      rw [decide_eq_true rfl] at HC
      clear hb HT4 HS4 HN4 HBd
      go_wp2_with fail
      refine HC.out.mono ?_
      rintro e y6 ⟨rfl, hb⟩
      have HBf := hid (HBe.out.trans (hb.mono HBe.out.size))
      clear hb HC HBe
      go_wp2_with fail
      go_ret
      exact ⟨rfl, HBf.out⟩
end Go.Proofs.Ytdobjlaggdnphaa
