/- THE LAW OF CHECKS (layer 16), walked over the program's contracts. (written by gen_inu.py) -/
import Derived.Test.YtdobjlaggdnphaaInL
import Derived.Test.YtdobjlaggdnphaaInS
namespace Go.Inc
open Go.RowKit
/-- An error's number: none, or what is of no right form. -/
def erB (b : Bool) : Int := if b then 0 else 3
end Go.Inc
namespace Go.Proofs.Ytdobjlaggdnphaa
open Go.RowKit Go.Inc
theorem errno16_any (x : World) (b : Bool) :
    Calls Try.prog 29 #[.bool b] x fun e w' => e = .returned (.int .i64 (erB b)) ∧ x = w' := by
  go_enter Try.func29, Try.ntmps29
  cases b
  · go_wp2_with fail
    go_ret
    exact ⟨rfl, rfl⟩
  · go_wp2_with fail
    go_ret
    exact ⟨rfl, rfl⟩
theorem induce_either (ps : PI16) (ok ok' : Nat → Prop) (w : World) (v v' : Value) (zs ls : List Int) (h : So ok w v zs) (h' : So ok' w v' ls) (hl : zs.length ≤ 65536) (hck : ckT zs = 0) (hl' : ls.length ≤ 65536) (hz : ∀ z ∈ ls, i64s z) :
    Calls Try.prog 16 #[v, v'] w fun e w' => ∃ u, e = .returned (.tuple #[u, .int .i64 (erB (decide (isFsI zs ls)))]) ∧ Below w.heap.size w w' := by
  by_cases hf : isFsI zs ls
  · obtain ⟨fs, rfl, hf2⟩ := id hf
    refine (ps.pInduce _ _ w v v' zs fs h h' hl hck hf2).mono ?_
    rintro e w' ⟨u, rfl, -, hb⟩
    exact ⟨u, by rw [decide_eq_true hf]; rfl, hb⟩
  · refine (ps.pInduceF _ _ w v v' zs ls h h' hl hck hl' hz hf).mono ?_
    rintro e w' ⟨u, rfl, hb⟩
    exact ⟨u, by rw [decide_eq_false hf]; rfl, hb⟩
theorem names_either (ps : PI16) (ok ok' : Nat → Prop) (w : World) (v v' : Value) (zs ls : List Int) (h : So ok w v zs) (h' : So ok' w v' ls) (hl : zs.length ≤ 65536) (hck : ckT zs = 0) (hl' : ls.length ≤ 65536) (hz : ∀ z ∈ ls, i64s z) :
    Calls Try.prog 19 #[v, v'] w fun e w' => ∃ u m, e = .returned (.tuple #[u, m, .int .i64 (erB (decide (okT ls ∧ ls.length = zs.length)))]) ∧ Below w.heap.size w w' := by
  by_cases hf : okT ls ∧ ls.length = zs.length
  · obtain ⟨l, rfl⟩ := okT_nat hf.1
    refine (ps.pNames _ _ w v v' zs l h h' hl hck hf.1 (by rw [← zsN_len l]; exact hf.2)).mono ?_
    rintro e w' ⟨u, rfl, -, hb⟩
    exact ⟨u, _, by rw [decide_eq_true hf]; rfl, hb⟩
  · refine (ps.pNamesF _ _ w v v' zs ls h h' hl hck hl' hz hf).mono ?_
    rintro e w' ⟨u, m, rfl, hb⟩
    exact ⟨u, m, by rw [decide_eq_false hf]; rfl, hb⟩
theorem back_either (ps : PI16) (ok ok' : Nat → Prop) (w : World) (v v' : Value) (zs ls : List Int) (h : So ok w v zs) (h' : So ok' w v' ls) (hl : zs.length ≤ 65536) (hck : ckT zs = 0) (hl' : ls.length ≤ 65536) (hz : ∀ z ∈ ls, i64s z) :
    Calls Try.prog 26 #[v, v'] w fun e w' => ∃ u, e = .returned (.tuple #[u, .int .i64 (erB (decide (okT ls ∧ ls.length = (fsT zs zs.length).length)))]) ∧ Below w.heap.size w w' := by
  by_cases hf : okT ls ∧ ls.length = (fsT zs zs.length).length
  · obtain ⟨l, rfl⟩ := okT_nat hf.1
    refine (ps.pBack _ _ w v v' zs l h h' hl hck hf.1 (by rw [← zsN_len l]; exact hf.2)).mono ?_
    rintro e w' ⟨u, rfl, -, hb⟩
    exact ⟨u, by rw [decide_eq_true hf]; rfl, hb⟩
  · refine (ps.pBackF _ _ w v v' zs ls h h' hl hck hl' hz hf).mono ?_
    rintro e w' ⟨u, rfl, hb⟩
    exact ⟨u, by rw [decide_eq_false hf]; rfl, hb⟩
set_option maxRecDepth 20000 in
set_option maxHeartbeats 4000000 in
theorem induceChecks_walk (ps : PI16) (W : World) (p : Option Addr) (c : Nat) (zs0 : List Int) (hz : ∀ z ∈ zs0, i64s z) (hs : Si (fun _ => True) W p zs0) (hlc : zs0.length ≤ c) (hcm : c ≤ maxLen) (hn : p = none → c = 0)
    (q : Option Addr) (d : Nat) (zs1 : List Int) (hz1 : ∀ z ∈ zs1, i64s z) (hs1 : Si (fun _ => True) W q zs1) (hlc1 : zs1.length ≤ d) (hcm1 : d ≤ maxLen) (hn1 : q = none → d = 0) :
    Calls Try.prog 7 #[.slice p zs0.length c, .slice q zs1.length d] W fun e w' => e = .returned (.bool true) ∧ Below W.heap.size W w' := by
  have HXL : Hid ((zs0.take 60).length ≤ 65536) := hid (by rw [List.length_take]; omega)
  have HXZ : Hid (∀ z ∈ zs0.take 60, i64s z) := hid (fun z h => hz z (List.mem_of_mem_take h))
  have HLL : Hid ((zs1.take 60).length ≤ 60) := hid (by rw [List.length_take]; omega)
  have HLZ : Hid (∀ z ∈ zs1.take 60, i64s z) := hid (fun z h => hz1 z (List.mem_of_mem_take h))
  have HLX : Hid ((zs0.take 60).length = min zs0.length 60) := hid (by rw [List.length_take, Nat.min_comm])
  have HLY : Hid ((zs1.take 60).length = min zs1.length 60) := hid (by rw [List.length_take, Nat.min_comm])
  have HS := hid (hs.front 60)
  have HS1 := hid (hs1.front 60)
  have HN := hid hn
  have HN1 := hid hn1
  obtain ⟨X, hX⟩ : ∃ X, X = zs0.take 60 := ⟨_, rfl⟩
  obtain ⟨L, hL⟩ : ∃ L, L = zs1.take 60 := ⟨_, rfl⟩
  rw [← hX] at HXL HXZ HS HLX
  rw [← hL] at HLL HLZ HS1 HLY
  obtain ⟨n, hnn⟩ : ∃ n, n = zs0.length := ⟨_, rfl⟩
  obtain ⟨n1, hnn1⟩ : ∃ n1, n1 = zs1.length := ⟨_, rfl⟩
  rw [← hnn] at HLX hlc ⊢
  rw [← hnn1] at HLY hlc1 ⊢
  obtain ⟨k, hk⟩ : ∃ k, k = min n 60 := ⟨_, rfl⟩
  obtain ⟨k1, hk1⟩ : ∃ k1, k1 = min n1 60 := ⟨_, rfl⟩
  rw [← hk] at HLX
  rw [← hk1] at HLY
  have hmin : min (n : Int) 60 = (k : Int) := by omega
  have hmin1 : min (n1 : Int) 60 = (k1 : Int) := by omega
  have hcm' : c ≤ 9223372036854775807 := by unfold maxLen at hcm; omega
  have hcm1' : d ≤ 9223372036854775807 := by unfold maxLen at hcm1; omega
  have hkc : (k : Int) ≤ (c : Int) := by omega
  have hkc1 : (k1 : Int) ≤ (d : Int) := by omega
  have hkn : k ≤ c := by omega
  have hkn1 : k1 ≤ d := by omega
  have hkb : (k : Int) ≤ 60 := by omega
  have hkb1 : (k1 : Int) ≤ 60 := by omega
  have HM := hid hcm
  have HM1 := hid hcm1
  clear hs hs1 hn hn1 hcm hcm1 hnn hnn1 hk hk1 hX hL hz hz1
  go_enter Try.func7, Try.ntmps7
  go_upto_region 1 with fail
  go_cut [0, 1] from 26 to 35 (fun v v' wc => So (fun _ => True) wc v X ∧ So (fun _ => True) wc v' L ∧ Below W.heap.size W wc)
  case first =>
    have HF : Hid (So (fun _ => True) W (.slice p k c) X ∧ So (fun _ => True) W (.slice q k1 d) L) := hid
      ⟨⟨p, c, by rw [HLX.out], HS.out, by rw [HLX.out]; exact hkn, HM.out, HN.out⟩, ⟨q, d, by rw [HLY.out], HS1.out, by rw [HLY.out]; exact hkn1, HM1.out, HN1.out⟩⟩
    have HB0 := hid (Below.refl W.heap.size W).drew
    cases p with
    | none =>
      obtain rfl : c = 0 := HN.out rfl
      obtain rfl : k = 0 := by omega
      cases q with
      | none =>
        obtain rfl : d = 0 := HN1.out rfl
        obtain rfl : k1 = 0 := by omega
        go_region
        go_wp2_with fail
        go_meet
        exact ⟨HF.out.1.below HB0.out, HF.out.2.below HB0.out, HB0.out⟩
      | some b =>
        go_region
        go_wp2_with fail
        go_meet
        exact ⟨HF.out.1.below HB0.out, HF.out.2.below HB0.out, HB0.out⟩
    | some a =>
      cases q with
      | none =>
        obtain rfl : d = 0 := HN1.out rfl
        obtain rfl : k1 = 0 := by omega
        go_region
        go_wp2_with fail
        go_meet
        exact ⟨HF.out.1.below HB0.out, HF.out.2.below HB0.out, HB0.out⟩
      | some b =>
        go_region
        go_wp2_with fail
        go_meet
        exact ⟨HF.out.1.below HB0.out, HF.out.2.below HB0.out, HB0.out⟩
  case rest =>
    clear hmin hmin1 hcm' hcm1' hkc hkc1 hkn hkn1 hlc hlc1 HM HM1 HS HS1 HN HN1
    obtain ⟨hv, ho, hb⟩ := hcut
    generalize u0 = v at *
    generalize u1 = v' at *
    generalize wc = w1 at *
    have HV1 := hid hv
    have HO1 := hid ho
    have HB1 := hid hb
    have HL6 : Hid (L.length ≤ 65536) := hid (by have := HLL.out; omega)
    have HC := hid (refCheck_so _ w1 v X hv HXL.out)
    clear hv ho hb
    by_cases hck : ckT X = 0
    · rw [hck] at HC
      go_wp2_with fail
      refine HC.out.mono ?_
      rintro e w' ⟨rfl, rfl⟩
      clear HC
      have HR := hid (InT.of hck).right
      obtain ⟨F, hF⟩ : ∃ F, F = fsT X X.length := ⟨_, rfl⟩
      have HF := hid hF
      obtain ⟨m, hm⟩ : ∃ m, m = F.length := ⟨_, rfl⟩
      have HM := hid hm
      obtain ⟨gB, hgB⟩ : ∃ b, b = decide (isFsI X L) := ⟨_, rfl⟩
      obtain ⟨hB, hhB⟩ : ∃ b, b = decide (okT L ∧ L.length = X.length) := ⟨_, rfl⟩
      obtain ⟨jB, hjB⟩ : ∃ b, b = decide (okT L ∧ L.length = (fsT X X.length).length) := ⟨_, rfl⟩
      obtain ⟨zg, hzg⟩ : ∃ z, z = erB gB := ⟨_, rfl⟩
      obtain ⟨zh, hzh⟩ : ∃ z, z = erB hB := ⟨_, rfl⟩
      obtain ⟨zj, hzj⟩ : ∃ z, z = erB jB := ⟨_, rfl⟩
      have HGB := hid hgB
      have HHB := hid hhB
      have HJB := hid hjB
      have HZG := hid hzg
      have HZH := hid hzh
      have HZJ := hid hzj
      have hmb : (m : Int) ≤ 65536 := by
        have h1 := fs_half (x := X)
        have h2 := HXL.out
        rw [← hF, ← hm] at h1; omega
      clear hF hm hgB hhB hjB hzg hzh hzj
      have HC := hid (ps.pHeads _ w1 v X HV1.out HXL.out hck)
      go_wp2_with fail
      refine HC.out.mono ?_
      rintro e w2 ⟨u, rfl, -, hb⟩
      have HV2 := hid (HV1.out.below hb)
      have HO2 := hid (HO1.out.below hb)
      have HB2 := hid (HB1.out.trans (hb.mono HB1.out.size))
      clear hb HC HV1 HB1 HO1
      have HC := hid (ps.pTails _ w2 v X HV2.out HXL.out hck)
      go_wp2_with fail
      refine HC.out.mono ?_
      rintro e w3 ⟨u, rfl, -, hb⟩
      have HV3 := hid (HV2.out.below hb)
      have HO3 := hid (HO2.out.below hb)
      have HB3 := hid (HB2.out.trans (hb.mono HB2.out.size))
      clear hb HC HV2 HB2 HO2
      have HC := hid (induce_either ps _ _ w3 v v' X L HV3.out HO3.out HXL.out hck HL6.out HLZ.out)
      rw [← HGB.out, ← HZG.out] at HC
      go_wp2_with fail
      refine HC.out.mono ?_
      rintro e w4 ⟨u, rfl, hb⟩
      have HV4 := hid (HV3.out.below hb)
      have HO4 := hid (HO3.out.below hb)
      have HB4 := hid (HB3.out.trans (hb.mono HB3.out.size))
      clear hb HC HV3 HB3 HO3
      have HC := hid (names_either ps _ _ w4 v v' X L HV4.out HO4.out HXL.out hck HL6.out HLZ.out)
      rw [← HHB.out, ← HZH.out] at HC
      go_wp2_with fail
      refine HC.out.mono ?_
      rintro e w5 ⟨u, m', rfl, hb⟩
      have HV5 := hid (HV4.out.below hb)
      have HO5 := hid (HO4.out.below hb)
      have HB5 := hid (HB4.out.trans (hb.mono HB4.out.size))
      clear hb HC HV4 HB4 HO4
      have HC := hid (ps.pReduced _ w5 v X HV5.out HXL.out hck)
      go_wp2_with fail
      refine HC.out.mono ?_
      rintro e w6 ⟨u, rfl, -, hb⟩
      have HV6 := hid (HV5.out.below hb)
      have HO6 := hid (HO5.out.below hb)
      have HB6 := hid (HB5.out.trans (hb.mono HB5.out.size))
      clear hb HC HV5 HB5 HO5
      have HC := hid (back_either ps _ _ w6 v v' X L HV6.out HO6.out HXL.out hck HL6.out HLZ.out)
      rw [← HJB.out, ← HZJ.out] at HC
      go_wp2_with fail
      refine HC.out.mono ?_
      rintro e w7 ⟨u, rfl, hb⟩
      have HV7 := hid (HV6.out.below hb)
      have HO7 := hid (HO6.out.below hb)
      have HB7 := hid (HB6.out.trans (hb.mono HB6.out.size))
      clear hb HC HV6 HB6 HO6
      have HFR := hid (refFirsts_so _ w7 v X HV7.out HXL.out HR.out)
      rw [← HF.out] at HFR
      go_wp2_with fail
      refine HFR.out.mono ?_
      rintro e w8 ⟨u8, rfl, h8, hb⟩
      obtain ⟨a8, c8, rfl, hs8, -⟩ := h8
      have hfl : (zsN F).length = m := by rw [zsN_len, ← HM.out]
      rw [hfl]
      have HU8 := hid hs8
      have HV8 := hid (HV7.out.below hb)
      have HO8 := hid (HO7.out.below hb)
      have HB8 := hid (HB7.out.trans (hb.mono HB7.out.size))
      clear hs8 hb hfl HFR HV7 HO7 HB7 hck
      obtain ⟨b0, d0, rfl, hs9, -⟩ := HO8.out
      have HS9 := hid hs9
      obtain ⟨va, vc, rfl, -⟩ := HV8.out
      obtain ⟨n, hn⟩ : ∃ n, n = X.length := ⟨_, rfl⟩
      obtain ⟨r, hr⟩ : ∃ r, r = L.length := ⟨_, rfl⟩
      have HNX := hid hn
      have HRL := hid hr
      rw [← hn] at HV8
      rw [← hr] at HO8
      rw [← hn, ← hr]
      have hrb : (r : Int) ≤ 60 := by have := HLL.out; omega
      have hnb : (n : Int) ≤ 65536 := by have := HXL.out; omega
      obtain ⟨A0, hA0⟩ : ∃ b, b = decide (alT X L 0) := ⟨_, rfl⟩
      have hA1 : decide ((r : Int) = (m : Int)) = A0 := by
        rw [hA0, decide_eq_decide, alT_zero, ← HF.out, ← HM.out, ← HRL.out]; omega
      have hA2 : ((r : Int) == (m : Int)) = A0 := by rw [← hA1]; rfl
      have HA0 := hid hA0
      have HA12 := hid (And.intro hA1 hA2)
      clear hs9 hn hr hA0
      go_wp2_with fail
      go_loopw [20, 21, 22, 23] (fun a i _ _ wr => ∃ t : Nat, t ≤ m ∧ i = .int .i64 (t : Int) ∧ a = .bool (decide (alT X L t)) ∧ Below w8.heap.size w8 wr) (fun _ i _ _ _ => m - (intOf i).toNat)
      case atStart => exact ⟨0, Nat.zero_le _, rfl, by rw [HA0.out], Below.refl _ _⟩
      case round =>
        clear hA1 hA2
        obtain ⟨t, ht, rfl, rfl, hb⟩ := hrel
        have HBR := hid hb
        clear hb
        by_cases hlt : t < m
        · have hti : (t < m) = True := eq_true hlt
          have HLT := hid hlt
          have htb : (t : Int) < (m : Int) := by omega
          obtain ⟨f, hf⟩ : ∃ f, f = F.getD t 0 := ⟨_, rfl⟩
          have HFE := hid hf
          obtain ⟨A, hA⟩ : ∃ A, A = decide (alT X L t) := ⟨_, rfl⟩
          have HAE := hid hA
          rw [← hA]
          clear hlt hf hA
          go_wp2_with fail
          go_loopw [22, 23] (fun x i wq => ∃ k : Nat, k ≤ r ∧ i = .int .i64 (k : Int) ∧ x = .int .i64 ((cnL L (f : Int) k : Nat) : Int) ∧ Below w8.heap.size w8 wq) (fun _ i _ => r - (intOf i).toNat)
          case atStart => exact ⟨0, Nat.zero_le _, rfl, by rw [cnL_zero]; rfl, HBR.out⟩
          case round =>
            clear HBR
            obtain ⟨k, hk, rfl, rfl, hb⟩ := hrel
            have HBR := hid hb
            clear hb
            generalize wr = wq at *
            obtain ⟨g, hg⟩ : ∃ g, g = cnL L (f : Int) k := ⟨_, rfl⟩
            have HG := hid hg
            have hgb : (g : Int) ≤ 60 := by have := cnL_le L (f : Int) k; omega
            rw [← hg]
            clear hg
            by_cases hkr : k < r
            · have hki : (k < r) = True := eq_true hkr
              have HKR := hid hkr
              have hkb2 : (k : Int) < (r : Int) := by omega
              have hkL : k < L.length := by rw [← HRL.out]; exact hkr
              obtain ⟨b8, o8, rfl, hc8⟩ : ∃ b8 o8, a8 = some ⟨b8, o8, none⟩ ∧ wq.cell? ⟨b8, o8 + t, none⟩ = some (.int .i64 (f : Int)) := by
                rcases HU8.out.below HBR.out with h | ⟨b, o, h, _, hc⟩
                · have h1 := zsN_len F
                  rw [h, ← HM.out] at h1; simp at h1; have := HLT.out; omega
                · exact ⟨b, o, h, by rw [hc t (by rw [zsN_len, ← HM.out]; exact HLT.out), zsN_get, ← HFE.out]⟩
              obtain ⟨z, hz⟩ : ∃ z, z = L.getD k 0 := ⟨_, rfl⟩
              obtain ⟨b9, o9, rfl, hc9⟩ : ∃ b9 o9, b0 = some ⟨b9, o9, none⟩ ∧ wq.cell? ⟨b9, o9 + k, none⟩ = some (.int .i64 z) := by
                rcases HS9.out.below HBR.out with h | ⟨b, o, h, _, hc⟩
                · rw [h] at hkL; simp at hkL
                · exact ⟨b, o, h, by rw [hc k hkL, hz]⟩
              have HCU := hid (cnL_succ (L := L) (z := (f : Int)) hkL)
              rw [← hz, ← HG.out] at HCU
              by_cases hzf : z = (f : Int)
              · have e1 : (z == (f : Int)) = true := by rw [hzf]; exact beq_self_eq_true _
                have e2 : decide (z = (f : Int)) = true := decide_eq_true hzf
                have HCV : Hid (cnL L (f : Int) (k + 1) = g + 1) := hid (by rw [HCU.out, if_pos hzf])
                clear hkr hkL hz HCU hzf
                go_wp2_with fail
                go_region
                go_wp2_with fail
                go_roundw
                case rel => exact ⟨k + 1, HKR.out, by have h1 := HKR.out; go_num, by rw [HCV.out]; go_num, HBR.out.drew⟩
                case measure => simp [intOf]; have := HKR.out; omega
              · have e1 : (z == (f : Int)) = false := by rw [beq_eq_false_iff_ne]; exact hzf
                have e2 : decide (z = (f : Int)) = false := decide_eq_false hzf
                have HCV : Hid (cnL L (f : Int) (k + 1) = g) := hid (by rw [HCU.out, if_neg hzf])
                clear hkr hkL hz HCU hzf
                go_wp2_with fail
                go_region
                go_wp2_with fail
                go_roundw
                case rel => exact ⟨k + 1, HKR.out, by have h1 := HKR.out; go_num, by rw [HCV.out], HBR.out.drew⟩
                case measure => simp [intOf]; have := HKR.out; omega
            · have hki : (k < r) = False := eq_false hkr
              have HGC : Hid (g = L.count (f : Int)) := hid (by rw [HG.out, show k = L.length by rw [← HRL.out]; omega, cnL_all])
              have hnx := alT_succ X L t
              rw [← HF.out, ← HFE.out, ← HGC.out] at hnx
              have HNT := hid hnx
              obtain ⟨B, hB2⟩ : ∃ B, B = decide (alT X L (t + 1)) := ⟨_, rfl⟩
              have HBE := hid hB2
              clear hkr hnx hB2 HG
              cases A with
              | false =>
                have HBF : Hid (B = false) := hid (by rw [HBE.out]; exact decide_eq_false fun h => (of_decide_eq_false HAE.out.symm) (HNT.out.1 h).1)
                go_wp2_with fail
                go_roundw
                case rel => exact ⟨t + 1, HLT.out, by have h1 := HLT.out; go_num, by rw [← HBE.out, HBF.out], HBR.out⟩
                case measure => simp [intOf]; have := HLT.out; omega
              | true =>
                have hAt : alT X L t := of_decide_eq_true HAE.out.symm
                have hB1 : decide ((g : Int) = 1) = B := by
                  rw [HBE.out, decide_eq_decide, HNT.out]
                  exact ⟨fun h => ⟨hAt, by omega⟩, fun h => by have := h.2; omega⟩
                have hB2 : ((g : Int) == 1) = B := by rw [← hB1]; rfl
                clear hAt
                go_wp2_with fail
                go_roundw
                case rel => exact ⟨t + 1, HLT.out, by have h1 := HLT.out; go_num, by rw [← HBE.out], HBR.out⟩
                case measure => simp [intOf]; have := HLT.out; omega
        · have hti : (t < m) = False := eq_false hlt
          have hAg : decide (alT X L t) = gB := by
            rw [show t = (fsT X X.length).length by rw [← HF.out, ← HM.out]; omega, HGB.out, decide_eq_decide]; exact alT_all X L
          rw [hAg]
          have HOr := hid (HO8.out.below HBR.out)
          rw [HRL.out] at HOr
          have HTN := hid (refTurned_so _ wr _ L HOr.out HL6.out)
          rw [← HRL.out] at HTN HOr
          have HB9 := hid (HB8.out.trans (HBR.out.mono HB8.out.size))
          clear hlt hAg HOr
          obtain ⟨oB, hoB⟩ : ∃ b, b = decide (okT L) := ⟨_, rfl⟩
          have HOB := hid hoB
          rw [← hoB] at HTN
          clear hoB
          go_wp2_with fail
          refine HTN.out.mono ?_
          rintro e w9 ⟨u9, rfl, -, hb⟩
          have HBa := hid (HB9.out.trans (hb.mono HB9.out.size))
          have HKN := hid (known16_any ps w9)
          clear hb HTN HB9
          have eg : (zg == zg) = true := beq_self_eq_true _
          have eh : (zh == zh) = true := beq_self_eq_true _
          have ej : (zj == zj) = true := beq_self_eq_true _
          have dg : decide (zg = zg) = true := decide_eq_true rfl
          have dh : decide (zh = zh) = true := decide_eq_true rfl
          have dj : decide (zj = zj) = true := decide_eq_true rfl
          have HEG : Hid (∀ y, Calls Try.prog 29 #[.bool gB] y fun e w' => e = .returned (.int .i64 zg) ∧ y = w') := hid fun y => by rw [HZG.out]; exact errno16_any y gB
          have HEH : Hid (∀ y, Calls Try.prog 29 #[.bool hB] y fun e w' => e = .returned (.int .i64 zh) ∧ y = w') := hid fun y => by rw [HZH.out]; exact errno16_any y hB
          have HEJ : Hid (∀ y, Calls Try.prog 29 #[.bool jB] y fun e w' => e = .returned (.int .i64 zj) ∧ y = w') := hid fun y => by rw [HZJ.out]; exact errno16_any y jB
          cases oB with
          | false =>
            have hok : ¬ okT L := of_decide_eq_false HOB.out.symm
            have hh : hB = false := by rw [HHB.out]; exact decide_eq_false fun h => hok h.1
            have hj : jB = false := by rw [HJB.out]; exact decide_eq_false fun h => hok h.1
            rw [hh] at HEH
            rw [hj] at HEJ
            clear hok hh hj
            go_wp2_with fail
            refine HKN.out.mono ?_
            rintro e wk ⟨rfl, hb⟩
            have HBb := hid (HBa.out.trans (hb.mono HBa.out.size))
            clear hb HKN HBa
            go_wp2_with fail
            refine (HEG.out _).mono ?_
            rintro e w' ⟨rfl, rfl⟩
            go_wp2_with fail
            refine (HEH.out _).mono ?_
            rintro e w' ⟨rfl, rfl⟩
            go_wp2_with fail
            refine (HEJ.out _).mono ?_
            rintro e w' ⟨rfl, rfl⟩
            go_wp2_with fail
            go_ret
            exact ⟨rfl, HBb.out⟩
          | true =>
            have hok : okT L := of_decide_eq_true HOB.out.symm
            have hh : decide ((r : Int) = (n : Int)) = hB := by
              rw [HHB.out, decide_eq_decide, ← HRL.out, ← HNX.out]; exact ⟨fun h => ⟨hok, by omega⟩, fun h => by have := h.2; omega⟩
            have hh2 : ((r : Int) == (n : Int)) = hB := by rw [← hh]; rfl
            have hj : decide ((r : Int) = (m : Int)) = jB := by
              rw [HJB.out, decide_eq_decide, ← HF.out, ← HM.out, ← HRL.out]; exact ⟨fun h => ⟨hok, by omega⟩, fun h => by have := h.2; omega⟩
            have hj2 : ((r : Int) == (m : Int)) = jB := by rw [← hj]; rfl
            clear hok
            go_wp2_with fail
            refine HKN.out.mono ?_
            rintro e wk ⟨rfl, hb⟩
            have HBb := hid (HBa.out.trans (hb.mono HBa.out.size))
            clear hb HKN HBa
            go_wp2_with fail
            refine (HEG.out _).mono ?_
            rintro e w' ⟨rfl, rfl⟩
            go_wp2_with fail
            refine (HEH.out _).mono ?_
            rintro e w' ⟨rfl, rfl⟩
            go_wp2_with fail
            refine (HEJ.out _).mono ?_
            rintro e w' ⟨rfl, rfl⟩
            go_wp2_with fail
            go_ret
            exact ⟨rfl, HBb.out⟩
    · obtain ⟨k, hk⟩ : ∃ k, k = ckT X := ⟨_, rfl⟩
      rw [← hk] at HC
      have hk0 : ((k : Int) != 0) = true := by rw [bne_iff_ne]; omega
      have hk1 : ((k : Int) != (k : Int)) = false := bne_self_eq_false _
      have hk2 : ((k : Int) == (k : Int)) = true := beq_self_eq_true _
      have HK := hid hk
      clear hk
      go_wp2_with fail
      refine HC.out.mono ?_
      rintro e w' ⟨rfl, rfl⟩
      clear HC
      have HC := hid (ps.pHeadsE _ w1 v X HV1.out HXL.out HXZ.out hck)
      rw [← HK.out] at HC
      go_wp2_with fail
      refine HC.out.mono ?_
      rintro e w2 ⟨u, rfl, hb⟩
      have HV2 := hid (HV1.out.below hb)
      have HO2 := hid (HO1.out.below hb)
      have HB2 := hid (HB1.out.trans (hb.mono HB1.out.size))
      clear hb HC HV1 HB1 HO1
      have HC := hid (ps.pTailsE _ w2 v X HV2.out HXL.out HXZ.out hck)
      rw [← HK.out] at HC
      go_wp2_with fail
      refine HC.out.mono ?_
      rintro e w3 ⟨u, rfl, hb⟩
      have HV3 := hid (HV2.out.below hb)
      have HO3 := hid (HO2.out.below hb)
      have HB3 := hid (HB2.out.trans (hb.mono HB2.out.size))
      clear hb HC HV2 HB2 HO2
      have HC := hid (ps.pInduceE _ _ w3 v v' X L HV3.out HO3.out HXL.out HXZ.out hck HL6.out HLZ.out)
      rw [← HK.out] at HC
      go_wp2_with fail
      refine HC.out.mono ?_
      rintro e w4 ⟨u, rfl, hb⟩
      have HV4 := hid (HV3.out.below hb)
      have HO4 := hid (HO3.out.below hb)
      have HB4 := hid (HB3.out.trans (hb.mono HB3.out.size))
      clear hb HC HV3 HB3 HO3
      have HC := hid (ps.pNamesE _ _ w4 v v' X L HV4.out HO4.out HXL.out HXZ.out hck HL6.out HLZ.out)
      rw [← HK.out] at HC
      go_wp2_with fail
      refine HC.out.mono ?_
      rintro e w5 ⟨u, m', rfl, hb⟩
      have HV5 := hid (HV4.out.below hb)
      have HO5 := hid (HO4.out.below hb)
      have HB5 := hid (HB4.out.trans (hb.mono HB4.out.size))
      clear hb HC HV4 HB4 HO4
      have HC := hid (ps.pReducedE _ w5 v X HV5.out HXL.out HXZ.out hck)
      rw [← HK.out] at HC
      go_wp2_with fail
      refine HC.out.mono ?_
      rintro e w6 ⟨u, rfl, hb⟩
      have HV6 := hid (HV5.out.below hb)
      have HO6 := hid (HO5.out.below hb)
      have HB6 := hid (HB5.out.trans (hb.mono HB5.out.size))
      clear hb HC HV5 HB5 HO5
      have HC := hid (ps.pBackE _ _ w6 v v' X L HV6.out HO6.out HXL.out HXZ.out hck HL6.out HLZ.out)
      rw [← HK.out] at HC
      go_wp2_with fail
      refine HC.out.mono ?_
      rintro e w7 ⟨u, rfl, hb⟩
      have HV7 := hid (HV6.out.below hb)
      have HO7 := hid (HO6.out.below hb)
      have HB7 := hid (HB6.out.trans (hb.mono HB6.out.size))
      clear hb HC HV6 HB6 HO6
      have HKN := hid (known16_any ps w7)
      go_wp2_with fail
      refine HKN.out.mono ?_
      rintro e w8 ⟨rfl, hb⟩
      have HB8 := hid (HB7.out.trans (hb.mono HB7.out.size))
      clear hb HKN
      go_wp2_with fail
      go_ret
      exact ⟨rfl, HB8.out⟩
end Go.Proofs.Ytdobjlaggdnphaa
