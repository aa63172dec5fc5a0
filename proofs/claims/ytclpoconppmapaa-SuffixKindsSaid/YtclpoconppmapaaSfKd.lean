/- THE LAW OF KINDS (layer 15), walked over the program's contracts. (written by gen_sfkd.py) -/
import Derived.Test.YtclpoconppmapaaSfL
namespace Go.Inc
open Go.RowKit
theorem fsT_in {x : List Int} : ∀ {n j : Nat}, j ∈ fsT x n → j < n
  | 0, _, h => by cases h
  | n + 1, j, h => by
    rw [fsT_succ] at h
    split at h
    · rcases List.mem_append.1 h with h | h
      · have := fsT_in h; omega
      · have := List.mem_singleton.1 h; omega
    · have := fsT_in h; omega
theorem fsT_rise {x : List Int} : ∀ n, (fsT x n).Pairwise fun a b => a < b
  | 0 => List.Pairwise.nil
  | n + 1 => by
    rw [fsT_succ]
    split
    · rw [List.pairwise_append]
      refine ⟨fsT_rise n, List.pairwise_singleton _ _, fun a ha b hb => ?_⟩
      rw [List.mem_singleton.1 hb]
      exact fsT_in ha
    · exact fsT_rise n
theorem getN_mem {l : List Nat} {i : Nat} (h : i < l.length) : l.getD i 0 ∈ l := by
  rw [List.getD_eq_getElem?_getD, List.getElem?_eq_getElem h]; exact List.getElem_mem _
theorem rise_at {l : List Nat} (h : l.Pairwise fun a b => a < b) {i : Nat} (hi : i < l.length) {a : Nat} (ha : l.getD i 0 = a) : l.idxOf a = i := by
  rw [List.getD_eq_getElem?_getD, List.getElem?_eq_getElem hi] at ha
  have ha' : l[i] = a := ha
  rw [← ha']
  exact (show l.Nodup from h.imp fun hab e => by omega).idxOf_getElem i hi
theorem rise_next {l : List Nat} (h : l.Pairwise fun a b => a < b) {i : Nat} (hi : i + 1 < l.length) : l.getD i 0 < l.getD (i + 1) 0 := by
  rw [List.getD_eq_getElem?_getD, List.getElem?_eq_getElem (by omega), List.getD_eq_getElem?_getD, List.getElem?_eq_getElem hi]
  exact (List.pairwise_iff_getElem.1 h) i (i + 1) (by omega) hi (by omega)
/-- A part of a slice. -/
theorem So.part {ok : Nat → Prop} {w : World} {b o n c : Nat} {zs : List Int} (h : So ok w (.slice (some ⟨b, o, none⟩) n c) zs) {lo hi : Nat} (h1 : lo ≤ hi) (h2 : hi ≤ zs.length) : So ok w (.slice (some ⟨b, o + lo, none⟩) (hi - lo) (c - lo)) ((zs.drop lo).take (hi - lo)) := by
  obtain ⟨a, c', hv, hs, hc, hm, -⟩ := h
  rw [Value.slice.injEq] at hv
  obtain ⟨rfl, rfl, rfl⟩ := hv
  have hlen : ((zs.drop lo).take (hi - lo)).length = hi - lo := by rw [List.length_take, List.length_drop]; omega
  refine ⟨_, _, by rw [hlen], ?_, by rw [hlen]; omega, by omega, fun h => by cases h⟩
  rcases hs with h | ⟨b', o', hb, hk, hc'⟩
  · exact .inl (by rw [h]; simp)
  · cases hb
    refine .inr ⟨_, _, rfl, hk, fun i hi' => ?_⟩
    rw [hlen] at hi'
    rw [Nat.add_assoc, hc' (lo + i) (by omega), List.getD_eq_getElem?_getD, List.getD_eq_getElem?_getD, List.getElem?_take, if_pos hi', List.getElem?_drop]
end Go.Inc
namespace Go.Proofs.Ytclpoconppmapaa
open Go.RowKit Go.Inc
set_option maxRecDepth 20000 in
set_option maxHeartbeats 4000000 in
theorem suffixKinds_walk (ps : PS) (W : World) (p : Option Addr) (c : Nat) (zs0 : List Int) (sg a : Int) (hs : Si (fun _ => True) W p zs0) (hlc : zs0.length ≤ c) (hcm : c ≤ maxLen) (hn : p = none → c = 0) :
    Calls Try.prog 4 #[.slice p zs0.length c, .int .i64 sg, .int .i64 a] W fun e w' => e = .returned (.bool true) ∧ Below W.heap.size W w' := by
  have HTX := hid (text15_any _ W _ zs0 sg ⟨p, c, rfl, hs, hlc, hcm, hn⟩)
  clear hs hlc hcm hn
  go_enter Try.func4, Try.ntmps4
  go_wp2_with fail
  refine HTX.out.mono ?_
  rintro e w1 ⟨v, X, rfl, hv, hck, hxl, hb⟩
  have HB1 := hid hb
  have HXL : Hid (X.length ≤ 65536) := hid (by omega)
  have HR := hid (ckT_zero hck).2.2
  obtain ⟨n, hnn⟩ : ∃ n, n = X.length := ⟨_, rfl⟩
  have HN := hid hnn
  have hnb : (n : Int) ≤ 121 := by omega
  have hn0 : 0 < n := by rw [hnn]; exact HR.out.1
  obtain ⟨va, vc, rfl, hsi, hcn, hcm, hvn⟩ := hv
  obtain ⟨pb, po, rfl⟩ : ∃ pb po, va = some ⟨pb, po, none⟩ := by
    rcases hsi with h | ⟨b, o, h, -⟩
    · rw [h] at hnn; simp at hnn; omega
    · exact ⟨b, o, h⟩
  have hcb : (vc : Int) ≤ 9223372036854775807 := by unfold maxLen at hcm; omega
  have hncv : n ≤ vc := by omega
  have HV1 : Hid (So (fun _ => True) w1 (.slice (some ⟨pb, po, none⟩) n vc) X) := hid ⟨_, vc, by rw [hnn], hsi.mono fun _ _ _ => trivial, hcn, hcm, hvn⟩
  rw [← hnn]
  clear HTX hnn hsi hcn hcm hvn hb
  have HC := hid (ps.pKinds _ w1 _ X HV1.out HXL.out hck)
  rw [← HN.out] at HC
  go_wp2_with fail
  refine HC.out.mono ?_
  rintro e w2 ⟨uk, ck, rfl, hk, hb⟩
  have HK2 := hid hk
  have HV2 := hid (HV1.out.below hb)
  have HB2 := hid (HB1.out.trans (hb.mono HB1.out.size))
  clear hb hk HC HV1 HB1
  have HC := hid (refKinds_so _ w2 _ X HV2.out HXL.out HR.out)
  rw [← HN.out] at HC
  go_wp2_with fail
  refine HC.out.mono ?_
  rintro e w3 ⟨ur, cr, rfl, hk, hb⟩
  have HQ3 := hid hk
  have HK3 := hid (HK2.out.below hb)
  have HV3 := hid (HV2.out.below hb)
  have HB3 := hid (HB2.out.trans (hb.mono HB2.out.size))
  clear hb hk HC HV2 HB2 HK2
  have HC := hid (ps.pFirsts _ w3 _ X HV3.out HXL.out hck)
  go_wp2_with fail
  refine HC.out.mono ?_
  rintro e w4 ⟨us, rfl, hs4, hb⟩
  have HS4 := hid hs4
  have HK4 := hid (HK3.out.below hb)
  have HQ4 := hid (HQ3.out.below hb)
  have HV4 := hid (HV3.out.below hb)
  have HB4 := hid (HB3.out.trans (hb.mono HB3.out.size))
  clear hb hs4 HC HV3 HB3 HK3 HQ3
  have HC := hid (refFirsts_so _ w4 _ X HV4.out HXL.out HR.out)
  go_wp2_with fail
  refine HC.out.mono ?_
  rintro e w5 ⟨uf, rfl, hs5, hb⟩
  obtain ⟨F, hF⟩ : ∃ F, F = fsT X n := ⟨_, rfl⟩
  rw [← HN.out, ← hF] at hs5
  obtain ⟨L, hL⟩ : ∃ L, L = F.length := ⟨_, rfl⟩
  have HL := hid hL
  have HLn : Hid (L ≤ n) := hid (by rw [hL, hF]; exact fsT_len _ _)
  have hLb : (L : Int) ≤ 121 := by have := HLn.out; omega
  have HRI : Hid (F.Pairwise fun a b => a < b) := hid (by rw [hF]; exact fsT_rise _)
  have HIN : Hid (∀ j, j < L → F.getD j 0 < n) := hid (fun j hj => by
    have hm : F.getD j 0 ∈ fsT X n := by rw [← hF]; exact getN_mem (by omega)
    exact fsT_in hm)
  obtain ⟨fa, fc, rfl, hfs, -, -, -⟩ := id hs5
  have hzl : (zsN F).length = L := by rw [zsN_len, hL]
  rw [hzl] at hs5 ⊢
  have HFS := hid hfs
  have HF5 := hid hs5
  have HFE := hid hF
  have HS5 := hid (HS4.out.below hb)
  have HK5 := hid (HK4.out.below hb)
  have HQ5 := hid (HQ4.out.below hb)
  have HV5 := hid (HV4.out.below hb)
  have HB5 := hid (HB4.out.trans (hb.mono HB4.out.size))
  clear hb hs5 hfs hF hL hzl HC HV4 HB4 HK4 HQ4 HS4
  have HC := hid (same_so _ _ w5 us _ _ _ HS5.out HF5.out (by rw [← HN.out, ← HFE.out, zsN_len, ← HL.out]; omega))
  rw [← HN.out, ← HFE.out, decide_eq_true rfl] at HC
  go_wp2_with fail
  refine HC.out.mono ?_
  rintro e w6 ⟨rfl, hb⟩
  have HF6 := hid (HFS.out.below hb)
  have HK6 := hid (HK5.out.below hb)
  have HQ6 := hid (HQ5.out.below hb)
  have HV6 := hid (HV5.out.below hb)
  have HB6 := hid (HB5.out.trans (hb.mono HB5.out.size))
  clear hb HC HV5 HB5 HK5 HQ5 HS5 HF5 HFS
  obtain ⟨kb, ko, rfl, hkc⟩ : ∃ kb ko, uk = some ⟨kb, ko, none⟩ ∧ ∀ y, Below w6.heap.size w6 y → ∀ i, i < n → y.cell? ⟨kb, ko + i, none⟩ = some (.bool (kdT X i)) := by
    rcases HK6.out with h | ⟨b, o, h, -, hc⟩
    · have := congrArg List.length h; rw [kdTo_len] at this; simp at this; omega
    · refine ⟨b, o, h, fun y hy i hi => ?_⟩
      have h1 := hc i (by rw [kdTo_len]; exact hi)
      rw [kdTo_get hi] at h1
      rw [World.cell?_of_block (hy.block b (cell_lt h1))]; exact h1
  obtain ⟨qb, qo, rfl, hqc⟩ : ∃ qb qo, ur = some ⟨qb, qo, none⟩ ∧ ∀ y, Below w6.heap.size w6 y → ∀ i, i < n → y.cell? ⟨qb, qo + i, none⟩ = some (.bool (kdT X i)) := by
    rcases HQ6.out with h | ⟨b, o, h, -, hc⟩
    · have := congrArg List.length h; rw [kdTo_len] at this; simp at this; omega
    · refine ⟨b, o, h, fun y hy i hi => ?_⟩
      have h1 := hc i (by rw [kdTo_len]; exact hi)
      rw [kdTo_get hi] at h1
      rw [World.cell?_of_block (hy.block b (cell_lt h1))]; exact h1
  have HKC := hid hkc
  have HQC := hid hqc
  have hnn1 : ((n : Int) != (n : Int)) = false := bne_self_eq_false _
  clear hkc hqc HK6 HQ6
  go_wp2_with fail
  go_loopw [14] (fun i wr => ∃ t : Nat, t ≤ n ∧ i = .int .i64 (t : Int) ∧ Below w6.heap.size w6 wr) (fun i _ => n - (intOf i).toNat)
  case atStart => exact ⟨0, Nat.zero_le _, rfl, Below.refl _ _⟩
  case round =>
    obtain ⟨t, ht, rfl, hb⟩ := hrel
    have HBW := hid hb
    have htb : (t : Int) ≤ 121 := by omega
    by_cases htn : t < n
    · have hti : (t < n) = True := eq_true htn
      have HTN := hid htn
      have hc1 := HKC.out _ hb t htn
      have hc2 := HQC.out _ hb t htn
      obtain ⟨q, hq⟩ : ∃ q, q = kdT X t := ⟨_, rfl⟩
      rw [← hq] at hc1 hc2
      have hqq : (q != q) = false := bne_self_eq_false q
      clear htn hb hq
      go_wp2_with fail
      go_region
      go_wp2_with fail
      go_roundw
      case rel => exact ⟨t + 1, HTN.out, by go_num, HBW.out.drew⟩
      case measure => simp [intOf]; have := HTN.out; omega
    · have hti : (t < n) = False := eq_false htn
      have HV7 := hid (HV6.out.below hb)
      have HF7 := hid (HF6.out.below hb)
      have HB7 := hid (HB6.out.trans (hb.mono HB6.out.size))
      obtain ⟨r, hr, hrn⟩ := u64_rem a (m := (n : Int)) (by omega)
      have hnw : IntKind.u64.wrap (n : Int) = (n : Int) := by rw [IntKind.wrap_u64]; omega
      have hnz : ((n : Int) = 0) = False := eq_false (by omega)
      have hri : IntKind.i64.wrap (r : Int) = (r : Int) := by rw [IntKind.wrap_i64]; omega
      have hrl : r < n := by omega
      have HRN := hid hrl
      clear htn hb HV6 HF6 HB6 HBW HKC HQC hrl
      by_cases hm : r ∈ F
      · have HM := hid hm
        have HC := hid (ps.pPiece _ wr _ X r HV7.out HXL.out hck (by rw [← HN.out, ← HFE.out]; exact hm))
        clear hm
        go_wp2_with fail
        refine HC.out.mono ?_
        rintro e w8 ⟨up, rfl, hp, hb⟩
        have HP8 := hid hp
        have HV8 := hid (HV7.out.below hb)
        have HF8 := hid (HF7.out.below hb)
        have HB8 := hid (HB7.out.trans (hb.mono HB7.out.size))
        clear hp hb HC HV7 HF7 HB7
        go_wp2_with fail
        go_loop [17] (fun i => ∃ t : Nat, t ≤ L ∧ i = .int .i64 (t : Int) ∧ ∀ j, j < t → F.getD j 0 ≠ r) (fun i => L - (intOf i).toNat)
        case atStart => exact ⟨0, Nat.zero_le _, rfl, fun j h => by omega⟩
        case round =>
          obtain ⟨t, ht, rfl, hj⟩ := hrel
          have HJ := hid hj
          clear hj
          by_cases htl : t < L
          · have htli : (t < L) = True := eq_true htl
            have HTL := hid htl
            have htb2 : (t : Int) ≤ 121 := by omega
            obtain ⟨fb, fo, rfl, hfc⟩ : ∃ fb fo, fa = some ⟨fb, fo, none⟩ ∧ ∀ i, i < L → w8.cell? ⟨fb, fo + i, none⟩ = some (.int .i64 ((F.getD i 0 : Nat) : Int)) := by
              rcases HF8.out with h | ⟨b, o, h, -, hc⟩
              · have := congrArg List.length h; rw [zsN_len, ← HL.out] at this; simp at this; omega
              · refine ⟨b, o, h, fun i hi => ?_⟩
                have h1 := hc i (by rw [zsN_len, ← HL.out]; exact hi)
                rw [zsN_get] at h1; exact h1
            have hc1 := hfc t htl
            have HFC := hid hfc
            clear hfc htl
            by_cases he : F.getD t 0 = r
            · have HIX := hid (rise_at HRI.out (by rw [← HL.out]; exact HTL.out) he)
              rw [he] at hc1
              have hrr : ((r : Int) != (r : Int)) = false := bne_self_eq_false _
              by_cases hl1 : t + 1 < L
              · have hl1t : ((t : Int) + 1 < (L : Int)) = True := eq_true (by omega)
                have hc2 := HFC.out (t + 1) hl1
                obtain ⟨g, hg⟩ : ∃ g, g = F.getD (t + 1) 0 := ⟨_, rfl⟩
                have hgn : g < n := by rw [hg]; exact HIN.out _ hl1
                have hrg : r < g := by rw [hg, ← he]; exact rise_next HRI.out (by rw [← HL.out]; exact hl1)
                have HPC : Hid (pcT X r = (X.drop r).take (g + 1 - r)) := hid (by unfold pcT; rw [← HN.out, ← HFE.out, HIX.out, ← HL.out, if_pos hl1, ← hg])
                rw [← hg] at hc2
                obtain ⟨h, hh⟩ : ∃ h, h = g + 1 := ⟨_, rfl⟩
                have hgh : (g : Int) + 1 = (h : Int) := by omega
                rw [← hh] at HPC
                have hhn : h ≤ n := by omega
                have hrh : r ≤ h := by omega
                have HRP : Hid (So (fun _ => True) w8 (.slice (some ⟨pb, po + r, none⟩) (h - r) (vc - r)) (pcT X r)) := hid (by rw [HPC.out]; exact HV8.out.part hrh (by rw [← HN.out]; exact hhn))
                clear he hl1 hg hh hgn hrg
                have HKN := hid (known15_any ps w8)
                have hrc : (vc = r) = False := eq_false (by have := HRN.out; omega)
                have hrn2 : (r : Int) ≤ 121 := by have := HRN.out; omega
                go_wp2_with fail
                refine HKN.out.mono ?_
                rintro e w9 ⟨rfl, hb⟩
                have HB9 := hid (HB8.out.trans (hb.mono HB8.out.size))
                have HC := hid (same_so _ _ w9 up _ _ _ (HP8.out.below hb) (HRP.out.below hb) (by rw [HPC.out, List.length_take, List.length_drop]; omega))
                rw [decide_eq_true rfl] at HC
                clear hb HKN
                go_wp2_with fail
                refine HC.out.mono ?_
                rintro e w10 ⟨rfl, hb⟩
                have HB10 := hid (HB9.out.trans (hb.mono HB9.out.size))
                clear hb HC
                go_wp2_with fail
                go_ret
                exact ⟨rfl, HB10.out⟩
              · have hl1t : ((t : Int) + 1 < (L : Int)) = False := eq_false (by omega)
                have HPC : Hid (pcT X r = (X.drop r).take (n - r)) := hid (by unfold pcT; rw [← HN.out, ← HFE.out, HIX.out, ← HL.out, if_neg hl1])
                have HRP : Hid (So (fun _ => True) w8 (.slice (some ⟨pb, po + r, none⟩) (n - r) (vc - r)) (pcT X r)) := hid (by rw [HPC.out]; exact HV8.out.part (Nat.le_of_lt HRN.out) (by rw [← HN.out]; exact Nat.le_refl _))
                clear he hl1
                have HKN := hid (known15_any ps w8)
                have hrc : (vc = r) = False := eq_false (by have := HRN.out; omega)
                have hrn2 : (r : Int) ≤ 121 := by have := HRN.out; omega
                go_wp2_with fail
                refine HKN.out.mono ?_
                rintro e w9 ⟨rfl, hb⟩
                have HB9 := hid (HB8.out.trans (hb.mono HB8.out.size))
                have HC := hid (same_so _ _ w9 up _ _ _ (HP8.out.below hb) (HRP.out.below hb) (by rw [HPC.out, List.length_take, List.length_drop]; omega))
                rw [decide_eq_true rfl] at HC
                clear hb HKN
                go_wp2_with fail
                refine HC.out.mono ?_
                rintro e w10 ⟨rfl, hb⟩
                have HB10 := hid (HB9.out.trans (hb.mono HB9.out.size))
                clear hb HC
                go_wp2_with fail
                go_ret
                exact ⟨rfl, HB10.out⟩
            · have hrr : (((F.getD t 0 : Nat) : Int) != (r : Int)) = true := by rw [bne_iff_ne]; omega
              have HE := hid he
              obtain ⟨g, hg⟩ : ∃ g, g = F.getD t 0 := ⟨_, rfl⟩
              rw [← hg] at hc1 hrr
              clear he hg
              go_wp2_with fail
              go_round
              case rel => exact ⟨t + 1, HTL.out, by go_num, fun j hj => (by
                by_cases e : j = t
                · rw [e]; exact HE.out
                · exact HJ.out j (by omega))⟩
              case measure => simp [intOf]; have := HTL.out; omega
          · exfalso
            obtain ⟨i, hi, hir⟩ := List.mem_iff_getElem.1 HM.out
            refine HJ.out i (by rw [← HL.out] at hi; omega) ?_
            rw [List.getD_eq_getElem?_getD, List.getElem?_eq_getElem hi]
            exact hir
      · have HNM : Hid (∀ j, j < L → F.getD j 0 ≠ r) := hid (fun j hj e => hm (by rw [← e]; exact getN_mem (by rw [← HL.out]; exact hj)))
        have HC := hid (ps.pPieceN _ wr _ X r HV7.out HXL.out hck (by rw [← HN.out]; exact HRN.out) (by rw [← HN.out, ← HFE.out]; exact hm))
        clear hm
        go_wp2_with fail
        refine HC.out.mono ?_
        rintro e w8 ⟨up, rfl, hb⟩
        have HF8 := hid (HF7.out.below hb)
        have HB8 := hid (HB7.out.trans (hb.mono HB7.out.size))
        have HKN := hid (known15_any ps w8)
        clear hb HC HV7 HF7 HB7
        go_wp2_with fail
        go_loop [17] (fun i => ∃ t : Nat, t ≤ L ∧ i = .int .i64 (t : Int)) (fun i => L - (intOf i).toNat)
        case atStart => exact ⟨0, Nat.zero_le _, rfl⟩
        case round =>
          obtain ⟨t, ht, rfl⟩ := hrel
          by_cases htl : t < L
          · have htli : (t < L) = True := eq_true htl
            have HTL := hid htl
            have htb2 : (t : Int) ≤ 121 := by omega
            obtain ⟨fb, fo, rfl, hc1⟩ : ∃ fb fo, fa = some ⟨fb, fo, none⟩ ∧ w8.cell? ⟨fb, fo + t, none⟩ = some (.int .i64 ((F.getD t 0 : Nat) : Int)) := by
              rcases HF8.out with h | ⟨b, o, h, -, hc⟩
              · have := congrArg List.length h; rw [zsN_len, ← HL.out] at this; simp at this; omega
              · refine ⟨b, o, h, ?_⟩
                have h1 := hc t (by rw [zsN_len, ← HL.out]; exact htl)
                rw [zsN_get] at h1; exact h1
            have hrr : (((F.getD t 0 : Nat) : Int) != (r : Int)) = true := by rw [bne_iff_ne]; have := HNM.out t htl; omega
            obtain ⟨g, hg⟩ : ∃ g, g = F.getD t 0 := ⟨_, rfl⟩
            rw [← hg] at hc1 hrr
            clear htl hg
            go_wp2_with fail
            go_round
            case rel => exact ⟨t + 1, HTL.out, by go_num⟩
            case measure => simp [intOf]; have := HTL.out; omega
          · have htli : (t < L) = False := eq_false htl
            clear htl
            go_wp2_with fail
            refine HKN.out.mono ?_
            rintro e w9 ⟨rfl, hb⟩
            have HB9 := hid (HB8.out.trans (hb.mono HB8.out.size))
            clear hb
            go_wp2_with fail
            go_ret
            exact ⟨rfl, HB9.out⟩
end Go.Proofs.Ytclpoconppmapaa
