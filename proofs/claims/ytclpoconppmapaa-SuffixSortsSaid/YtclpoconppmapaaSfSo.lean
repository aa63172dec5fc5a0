/- THE LAW OF SORTS (layer 15), walked over the program's contracts. (written by gen_sfso.py) -/
import Derived.Test.YtclpoconppmapaaSfKd
import Derived.Test.YtclpoconppmapaaGrow
namespace Go.Inc
open Go.RowKit
def EqA (v : Value) : World → Value → Prop := fun _ u => u = v
theorem So.openN {ok : Nat → Prop} {w : World} {v : Value} {l : List Nat} {n : Nat} (h : So ok w v (zsN l)) (hl : l.length = n) (h0 : 0 < n) :
    ∃ b o c, v = .slice (some ⟨b, o, none⟩) n c ∧ ∀ y, Below w.heap.size w y → ∀ i, i < n → y.cell? ⟨b, o + i, none⟩ = some (.int .i64 ((l.getD i 0 : Nat) : Int)) := by
  obtain ⟨a, c, rfl, hs, -⟩ := h
  rw [zsN_len, hl]
  rcases hs with h | ⟨b, o, rfl, -, hc⟩
  · have := congrArg List.length h; rw [zsN_len, hl] at this; simp at this; omega
  · refine ⟨b, o, c, rfl, fun y hy i hi => ?_⟩
    have h1 := hc i (by rw [zsN_len, hl]; exact hi)
    rw [zsN_get] at h1
    rw [World.cell?_of_block (hy.block b (cell_lt h1))]; exact h1
def swT (S : List Nat) (a b : Nat) : List Nat := (S.set a (S.getD b 0)).set b (S.getD a 0)
theorem swT_len (S : List Nat) (a b : Nat) : (swT S a b).length = S.length := by simp [swT]
theorem swT_get {S : List Nat} {a b i : Nat} (ha : a < S.length) (hb : b < S.length) : (swT S a b).getD i 0 = if b = i then S.getD a 0 else if a = i then S.getD b 0 else S.getD i 0 := by
  unfold swT
  rw [List.getD_eq_getElem?_getD (l := (S.set a (S.getD b 0)).set b (S.getD a 0)), List.getElem?_set]
  by_cases e1 : b = i
  · rw [if_pos e1, if_pos e1]
    simp [hb]
  · rw [if_neg e1, if_neg e1, List.getElem?_set]
    by_cases e2 : a = i
    · rw [if_pos e2, if_pos e2]
      simp [ha]
    · rw [if_neg e2, if_neg e2]
      exact (List.getD_eq_getElem?_getD ..).symm
theorem swT_same (S : List Nat) {a : Nat} (ha : a < S.length) : swT S a a = S := by
  unfold swT
  rw [List.set_set]
  apply List.ext_getElem?
  intro i
  rw [List.getElem?_set]
  by_cases e : a = i
  · subst e
    rw [if_pos rfl]
    simp [ha]
  · rw [if_neg e]
theorem swT_other {S : List Nat} (hn : S.Nodup) {a b : Nat} (ha : a < S.length) (hb : b < S.length) (hab : a ≠ b) : zsN (swT S a b) ≠ zsN S := by
  intro e
  have h1 := congrArg (fun l => List.getD l a 0) e
  simp only [zsN_get] at h1
  rw [swT_get ha hb, if_neg (fun h => hab h.symm), if_pos rfl] at h1
  have h2 : S.getD b 0 = S.getD a 0 := by omega
  rw [List.getD_eq_getElem?_getD, List.getElem?_eq_getElem hb, List.getD_eq_getElem?_getD, List.getElem?_eq_getElem ha] at h2
  have h3 : S[b] = S[a] := h2
  have h4 := hn.idxOf_getElem a ha
  have h5 := hn.idxOf_getElem b hb
  rw [h3, h4] at h5
  exact hab h5
theorem cmsT_len (x : List Int) (l : List Nat) : (cmsT x l).length = l.length := by simp [cmsT]
theorem cmsT_get {x : List Int} {l : List Nat} {i : Nat} (h : i < l.length) : (cmsT x l).getD i 0 = if i = 0 then 0 else cmT x (l.getD (i - 1) 0) (l.getD i 0) := by
  unfold cmsT
  rw [List.getD_eq_getElem?_getD, List.getElem?_map, List.getElem?_range h]; rfl
end Go.Inc
namespace Go.Proofs.Ytclpoconppmapaa
open Go.RowKit Go.Inc
set_option maxRecDepth 20000 in
set_option maxHeartbeats 2000000 in
theorem suffixSorts_walk (ps : PS) (W : World) (p : Option Addr) (c : Nat) (zs0 : List Int) (sg a0 b0 : Int) (hs : Si (fun _ => True) W p zs0) (hlc : zs0.length ≤ c) (hcm : c ≤ maxLen) (hn : p = none → c = 0) :
    Calls Try.prog 5 #[.slice p zs0.length c, .int .i64 sg, .int .i64 a0, .int .i64 b0] W fun e w' => e = .returned (.bool true) ∧ Below W.heap.size W w' := by
  have HTX := hid (text15_any _ W _ zs0 sg ⟨p, c, rfl, hs, hlc, hcm, hn⟩)
  clear hs hlc hcm hn
  go_enter Try.func5, Try.ntmps5
  go_wp2_with fail
  refine HTX.out.mono ?_
  rintro e w1 ⟨v, X, rfl, hv, hck, hxl, hb⟩
  have HB1 := hid hb
  have HXL : Hid (X.length ≤ 65536) := hid (by omega)
  have HXZ : Hid (∀ z ∈ X, i64s z) := hid (fun z hz => by have := (ckT_zero hck).2.1 z hz; unfold i64s; omega)
  have HR := hid (ckT_zero hck).2.2
  have HCK := hid hck
  obtain ⟨n, hnn⟩ : ∃ n, n = X.length := ⟨_, rfl⟩
  have HN := hid hnn
  have hnb : (n : Int) ≤ 121 := by omega
  have hn0 : 0 < n := by rw [hnn]; exact HR.out.1
  obtain ⟨S, hS⟩ : ∃ S, S = srT X n := ⟨_, rfl⟩
  have HS := hid hS
  have HSL : Hid (S.length = n) := hid (by rw [hS, srT_len])
  have HSM : Hid (∀ i, i < n → S.getD i 0 < n) := hid (fun i hi => by
    have hm : S.getD i 0 ∈ srT X n := by rw [← hS]; exact getN_mem (by rw [HSL.out]; exact hi)
    exact srT_mem.1 hm)
  have HS0 : Hid (S.getD 0 0 = n - 1) := hid (by rw [hS, hnn]; exact srT_head hck)
  obtain ⟨va, vc, rfl, hsi, hcn, hcm, hvn⟩ := hv
  have HV1 : Hid (So (fun _ => True) w1 (.slice va n vc) X) := hid ⟨_, vc, by rw [hnn], hsi.mono fun _ _ _ => trivial, hcn, hcm, hvn⟩
  rw [← hnn]
  clear HTX hnn hsi hcn hcm hvn hb hS hck hxl
  have HC := hid (ps.pSort _ w1 _ X HV1.out HXL.out HCK.out)
  rw [← HN.out, ← HS.out] at HC
  go_wp2_with fail
  refine HC.out.mono ?_
  rintro e w2 ⟨uo, rfl, ho, hb⟩
  obtain ⟨ob, oo, oc, rfl, hoc⟩ := ho.openN HSL.out hn0
  have HO2 := hid ho
  have HOC := hid hoc
  have HV2 := hid (HV1.out.below hb)
  have HB2 := hid (HB1.out.trans (hb.mono HB1.out.size))
  clear hb ho hoc HC HV1 HB1
  have HC := hid (refSort_so _ w2 _ X HV2.out HXL.out HR.out)
  rw [← HN.out, ← HS.out] at HC
  go_wp2_with fail
  refine HC.out.mono ?_
  rintro e w3 ⟨uq, rfl, hq, hb⟩
  obtain ⟨qb, qo, qc, rfl, hqc⟩ := hq.openN HSL.out hn0
  have HQ3 := hid hq
  have HQC := hid hqc
  have HO3 := hid (HO2.out.below hb)
  have HOC3 := hid (fun y (hy : Below w3.heap.size w3 y) => HOC.out y (hb.trans (hy.mono hb.size)))
  have HV3 := hid (HV2.out.below hb)
  have HB3 := hid (HB2.out.trans (hb.mono HB2.out.size))
  clear hb hq hqc HC HV2 HB2 HO2 HOC
  have HC := hid (ps.pCommons _ _ w3 _ _ X HV3.out (by rw [← HN.out, ← HS.out]; exact HQ3.out) HXL.out HCK.out)
  rw [← HN.out, ← HS.out] at HC
  go_wp2_with fail
  refine HC.out.mono ?_
  rintro e w4 ⟨um, rfl, hm, hb⟩
  obtain ⟨mb, mo, mc, rfl, hmc⟩ := hm.openN ((cmsT_len X S).trans HSL.out) hn0
  have HMC := hid hmc
  have HQ4 := hid (HQ3.out.below hb)
  have HQC4 := hid (fun y (hy : Below w4.heap.size w4 y) => HQC.out y (hb.trans (hy.mono hb.size)))
  have HO4 := hid (HO3.out.below hb)
  have HOC4 := hid (fun y (hy : Below w4.heap.size w4 y) => HOC3.out y (hb.trans (hy.mono hb.size)))
  have HV4 := hid (HV3.out.below hb)
  have HB4 := hid (HB3.out.trans (hb.mono HB3.out.size))
  clear hb hm hmc HC HV3 HB3 HO3 HOC3 HQ3 HQC
  have HC := hid (same_so _ _ w4 _ _ _ _ HO4.out HQ4.out (by rw [zsN_len, HSL.out]; omega))
  rw [decide_eq_true rfl] at HC
  go_wp2_with fail
  refine HC.out.mono ?_
  rintro e w5 ⟨rfl, hb⟩
  have HBQ := hid hb
  have HQ5 := hid (HQ4.out.below hb)
  have HV5 := hid (HV4.out.below hb)
  have HB5 := hid (HB4.out.trans (hb.mono HB4.out.size))
  have ho0 := HOC4.out w5 hb 0 hn0
  rw [HS0.out] at ho0
  have ho1 : w5.cell? ⟨ob, oo, none⟩ = some (.int .i64 ((n - 1 : Nat) : Int)) := ho0
  have hon : (((n - 1 : Nat) : Int) != (n : Int) - 1) = false := by rw [show ((n - 1 : Nat) : Int) = (n : Int) - 1 from by omega]; exact bne_self_eq_false _
  have hnn1 : ((n : Int) != (n : Int)) = false := bne_self_eq_false _
  have HRC := hid (ps.pRight _ _ w5 _ _ X (zsN S) HV5.out HQ5.out HXL.out HXZ.out (by rw [zsN_len, HSL.out]; omega) (fun z hz => by
    obtain ⟨k, hk, rfl⟩ := List.mem_map.1 hz
    have : k < n := by rw [HS.out] at hk; exact srT_mem.1 hk
    unfold i64s; omega))
  rw [decide_eq_true (⟨HCK.out, by rw [← HN.out, ← HS.out]⟩ : ckT X = 0 ∧ zsN S = zsN (srT X X.length))] at HRC
  clear hb ho0 HC HV4 HB4 HQ4
  obtain ⟨n1, hn1⟩ : ∃ n1 : Nat, n1 = n - 1 := ⟨_, rfl⟩
  rw [← hn1] at ho1 hon
  clear hn1
  go_wp2_with fail
  refine HRC.out.mono ?_
  rintro e w6 ⟨rfl, hb⟩
  have hm0 := HMC.out w6 (HBQ.out.trans (hb.mono HBQ.out.size)) 0 hn0
  rw [cmsT_get (by rw [HSL.out]; exact hn0), if_pos rfl] at hm0
  have hm1 : w6.cell? ⟨mb, mo, none⟩ = some (.int .i64 0) := hm0
  have HB46 := hid (HBQ.out.trans (hb.mono HBQ.out.size))
  have HQ6 := hid (HQ5.out.below hb)
  have HV6 := hid (HV5.out.below hb)
  have HB6 := hid (HB5.out.trans (hb.mono HB5.out.size))
  clear hb hm0 HRC HBQ HQ5 HV5 HB5 ho1 hon
  go_wp2_with fail
  clear hm1
  go_loopw [15] (fun i wr => ∃ t : Nat, 1 ≤ t ∧ t ≤ n ∧ i = .int .i64 (t : Int) ∧ Below w6.heap.size w6 wr) (fun i _ => n - (intOf i).toNat)
  case atStart => exact ⟨1, Nat.le_refl _, hn0, rfl, Below.refl _ _⟩
  case round =>
    obtain ⟨t, ht1, htn, rfl, hb⟩ := hrel
    have htb : (t : Int) ≤ 121 := by omega
    by_cases hlt : t < n
    · have hti : (t < n) = True := eq_true hlt
      have HTN := hid hlt
      obtain ⟨u, hu⟩ : ∃ u, u = t - 1 := ⟨_, rfl⟩
      have htu : (t : Int) - 1 = (u : Int) := by omega
      have hun : u < n := by omega
      have hui : (u < n) = True := eq_true hun
      obtain ⟨A, hA⟩ : ∃ A, A = S.getD u 0 := ⟨_, rfl⟩
      obtain ⟨B, hBB⟩ : ∃ B, B = S.getD t 0 := ⟨_, rfl⟩
      obtain ⟨K, hK⟩ : ∃ K, K = cmT X A B := ⟨_, rfl⟩
      have HCE : Hid (∀ y, Below wr.heap.size wr y → y.cell? ⟨mb, mo + t, none⟩ = some (.int .i64 (K : Int)) ∧ y.cell? ⟨qb, qo + u, none⟩ = some (.int .i64 (A : Int)) ∧ y.cell? ⟨qb, qo + t, none⟩ = some (.int .i64 (B : Int))) := hid (fun y hy => by
        have h4 := HB46.out.trans ((hb.trans (hy.mono hb.size)).mono HB46.out.size)
        have h1 := HMC.out y h4 t hlt
        rw [cmsT_get (by rw [HSL.out]; exact hlt), if_neg (by omega), ← hu, ← hA, ← hBB, ← hK] at h1
        have h2 := HQC4.out y h4 u hun
        have h3 := HQC4.out y h4 t hlt
        rw [← hA] at h2
        rw [← hBB] at h3
        exact ⟨h1, h2, h3⟩)
      have HCM : Hid (∀ y, Below wr.heap.size wr y → Calls Try.prog 25 #[.slice va n vc, .int .i64 (A : Int), .int .i64 (B : Int)] y fun e w' => e = .returned (.int .i64 (K : Int)) ∧ Below y.heap.size y w') := hid (fun y hy => by
        have h := refCommon_so _ y _ X A B (HV6.out.below (hb.trans (hy.mono hb.size))) HXL.out (by rw [← HN.out, hA]; exact HSM.out u hun) (by rw [← HN.out, hBB]; exact HSM.out t hlt)
        rw [← hK] at h; exact h)
      have hKK : ((K : Int) != (K : Int)) = false := bne_self_eq_false _
      have HBW := hid hb
      have hwu : IntKind.i64.wrap (u : Int) = (u : Int) := by rw [IntKind.wrap_i64]; omega
      clear hlt hun hb hA hBB hK hu
      go_wp2_with fail
      refine wp_region_grows 16 [EqA (.slice (some ⟨mb, mo, none⟩) n mc), EqA (.int .i64 (t : Int)), EqA (.pointer (some ⟨mb, mo + t, none⟩)), EqA (.int .i64 (K : Int)), EqA (.slice va n vc), EqA (.slice (some ⟨qb, qo, none⟩) n qc), EqA (.int .i64 (t : Int)), EqA (.int .i64 (u : Int)), EqA (.pointer (some ⟨qb, qo + u, none⟩)), EqA (.int .i64 (A : Int)), EqA (.slice (some ⟨qb, qo, none⟩) n qc), EqA (.int .i64 (t : Int)), EqA (.pointer (some ⟨qb, qo + t, none⟩)), EqA (.int .i64 (B : Int)), EqA (.int .i64 (K : Int)), EqA (.bool false)] (by kernel_rfl) (by decide) (by kernel_rfl) ?_ ?_ ?_
      · repeat' (first | exact List.forall_mem_nil _ | refine List.forall_mem_cons.2 ⟨?_, ?_⟩)
        all_goals
          intro w w' v hw h
          exact h
      · simp only [AllLt]
        refine ⟨⟨⟨⟨⟨⟨⟨⟨⟨⟨⟨⟨⟨⟨⟨⟨trivial, ?_⟩, ?_⟩, ?_⟩, ?_⟩, ?_⟩, ?_⟩, ?_⟩, ?_⟩, ?_⟩, ?_⟩, ?_⟩, ?_⟩, ?_⟩, ?_⟩, ?_⟩, ?_⟩
        all_goals
          intro o' ho
          simp at ho
          subst ho
          intro ρ w5 hR hL hS hG
          obtain ⟨hl1, hl2, -⟩ := hL
        · refine plainG rfl ?_
          intro bA K0 Q' hK
          have e13 := hS 13 (by kernel_rfl)
          change ρ (.tmp 13) = _ at e13
          simp only [execOp]
          go_simp
          exact hK _ _ rfl (Grew.refl _)
        · refine plainG rfl ?_
          intro bA K0 Q' hK
          have e15 := hS 15 (by kernel_rfl)
          change ρ (.tmp 15) = _ at e15
          simp only [execOp]
          go_simp
          exact hK _ _ rfl (Grew.refl _)
        · refine plainG rfl ?_
          intro bA K0 Q' hK
          have e85 := hG 0 85 (by decide) (by kernel_rfl) (by kernel_rfl)
          change ρ (.tmp 85) = _ at e85
          have e86 := hG 1 86 (by decide) (by kernel_rfl) (by kernel_rfl)
          change ρ (.tmp 86) = _ at e86
          simp only [execOp]
          go_simp
          exact hK _ _ rfl (Grew.refl _)
        · refine plainG rfl ?_
          intro bA K0 Q' hK
          have e87 := hG 2 87 (by decide) (by kernel_rfl) (by kernel_rfl)
          change ρ (.tmp 87) = _ at e87
          obtain ⟨y1, y2, y3⟩ := HCE.out w5 ⟨hR.os, hR.tape, hR.output, hR.size, hR.block⟩
          simp only [execOp]
          go_simp
          exact hK _ _ rfl (Grew.refl _)
        · refine plainG rfl ?_
          intro bA K0 Q' hK
          have e9 := hS 9 (by kernel_rfl)
          change ρ (.tmp 9) = _ at e9
          simp only [execOp]
          go_simp
          exact hK _ _ rfl (Grew.refl _)
        · refine plainG rfl ?_
          intro bA K0 Q' hK
          have e12 := hS 12 (by kernel_rfl)
          change ρ (.tmp 12) = _ at e12
          simp only [execOp]
          go_simp
          exact hK _ _ rfl (Grew.refl _)
        · refine plainG rfl ?_
          intro bA K0 Q' hK
          have e15 := hS 15 (by kernel_rfl)
          change ρ (.tmp 15) = _ at e15
          simp only [execOp]
          go_simp
          exact hK _ _ rfl (Grew.refl _)
        · refine plainG rfl ?_
          intro bA K0 Q' hK
          have e91 := hG 6 91 (by decide) (by kernel_rfl) (by kernel_rfl)
          change ρ (.tmp 91) = _ at e91
          simp only [execOp]
          go_simp
          exact hK _ _ rfl (Grew.refl _)
        · refine plainG rfl ?_
          intro bA K0 Q' hK
          have e90 := hG 5 90 (by decide) (by kernel_rfl) (by kernel_rfl)
          change ρ (.tmp 90) = _ at e90
          have e92 := hG 7 92 (by decide) (by kernel_rfl) (by kernel_rfl)
          change ρ (.tmp 92) = _ at e92
          simp only [execOp]
          go_simp
          exact hK _ _ rfl (Grew.refl _)
        · refine plainG rfl ?_
          intro bA K0 Q' hK
          have e93 := hG 8 93 (by decide) (by kernel_rfl) (by kernel_rfl)
          change ρ (.tmp 93) = _ at e93
          obtain ⟨y1, y2, y3⟩ := HCE.out w5 ⟨hR.os, hR.tape, hR.output, hR.size, hR.block⟩
          simp only [execOp]
          go_simp
          exact hK _ _ rfl (Grew.refl _)
        · refine plainG rfl ?_
          intro bA K0 Q' hK
          have e12 := hS 12 (by kernel_rfl)
          change ρ (.tmp 12) = _ at e12
          simp only [execOp]
          go_simp
          exact hK _ _ rfl (Grew.refl _)
        · refine plainG rfl ?_
          intro bA K0 Q' hK
          have e15 := hS 15 (by kernel_rfl)
          change ρ (.tmp 15) = _ at e15
          simp only [execOp]
          go_simp
          exact hK _ _ rfl (Grew.refl _)
        · refine plainG rfl ?_
          intro bA K0 Q' hK
          have e95 := hG 10 95 (by decide) (by kernel_rfl) (by kernel_rfl)
          change ρ (.tmp 95) = _ at e95
          have e96 := hG 11 96 (by decide) (by kernel_rfl) (by kernel_rfl)
          change ρ (.tmp 96) = _ at e96
          simp only [execOp]
          go_simp
          exact hK _ _ rfl (Grew.refl _)
        · refine plainG rfl ?_
          intro bA K0 Q' hK
          have e97 := hG 12 97 (by decide) (by kernel_rfl) (by kernel_rfl)
          change ρ (.tmp 97) = _ at e97
          obtain ⟨y1, y2, y3⟩ := HCE.out w5 ⟨hR.os, hR.tape, hR.output, hR.size, hR.block⟩
          simp only [execOp]
          go_simp
          exact hK _ _ rfl (Grew.refl _)
        · refine plainG rfl ?_
          intro bA K0 Q' hK
          have e89 := hG 4 89 (by decide) (by kernel_rfl) (by kernel_rfl)
          change ρ (.tmp 89) = _ at e89
          have e94 := hG 9 94 (by decide) (by kernel_rfl) (by kernel_rfl)
          change ρ (.tmp 94) = _ at e94
          have e98 := hG 13 98 (by decide) (by kernel_rfl) (by kernel_rfl)
          change ρ (.tmp 98) = _ at e98
          simp only [execOp]
          go_simp
          refine (HCM.out w5 ⟨hR.os, hR.tape, hR.output, hR.size, hR.block⟩).mono ?_
          rintro r9 w9 ⟨rfl, hb9⟩
          exact hK _ _ rfl hb9
        · refine plainG rfl ?_
          intro bA K0 Q' hK
          have e88 := hG 3 88 (by decide) (by kernel_rfl) (by kernel_rfl)
          change ρ (.tmp 88) = _ at e88
          have e99 := hG 14 99 (by decide) (by kernel_rfl) (by kernel_rfl)
          change ρ (.tmp 99) = _ at e99
          simp only [execOp]
          go_simp
          exact hK _ _ rfl (Grew.refl _)
      · intro vv w2 hR hG
        have h15 : vv 15 = .bool false := hG.2
        have hb2 : Below wr.heap.size wr w2 := ⟨hR.os, hR.tape, hR.output, hR.size, hR.block⟩
        have HB8 := hid (HBW.out.trans (hb2.mono HBW.out.size))
        clear hG hR hb2 HCE HCM
        simp [stG, stU, dstAt, Act.put, h15]
        clear h15
        go_wp2_with fail
        go_roundw
        case rel => exact ⟨t + 1, by omega, HTN.out, by go_num, HB8.out⟩
        case measure => simp [intOf]; have := HTN.out; omega
    · have hti : (t < n) = False := eq_false hlt
      have HV7 := hid (HV6.out.below hb)
      have HQ7 := hid (HQ6.out.below hb)
      have HB7 := hid (HB6.out.trans (hb.mono HB6.out.size))
      clear hlt hb HV6 HQ6 HB6 HB46 HMC HQC4 HOC4
      obtain ⟨r1, hr1, hrn1⟩ := u64_rem a0 (m := (n : Int)) (by omega)
      obtain ⟨r2, hr2, hrn2⟩ := u64_rem b0 (m := (n : Int)) (by omega)
      have hnw : IntKind.u64.wrap (n : Int) = (n : Int) := by rw [IntKind.wrap_u64]; omega
      have hnz : ((n : Int) = 0) = False := eq_false (by omega)
      have hri1 : IntKind.i64.wrap (r1 : Int) = (r1 : Int) := by rw [IntKind.wrap_i64]; omega
      have hri2 : IntKind.i64.wrap (r2 : Int) = (r2 : Int) := by rw [IntKind.wrap_i64]; omega
      have h1n : r1 < n := by omega
      have h2n : r2 < n := by omega
      have hR1 := hid h1n
      have hR2 := hid h2n
      have hbd : Below wr.heap.size wr wr.drew := (Below.refl _ _).drew
      have HV8 := hid (HV7.out.below hbd)
      have HQ8 := hid (HQ7.out.below hbd)
      have HB8 := hid (HB7.out.trans (hbd.mono HB7.out.size))
      obtain ⟨q, hq⟩ : ∃ q, q = lsT X r1 r2 := ⟨_, rfl⟩
      obtain ⟨K, hK⟩ : ∃ K, K = cmT X r1 r2 := ⟨_, rfl⟩
      have HQE := hid hq
      have HKE := hid hK
      have HC := hid (ps.pLess _ wr.drew _ X r1 r2 HV8.out HXL.out HCK.out (by rw [← HN.out]; exact h1n) (by rw [← HN.out]; exact h2n))
      rw [← hq] at HC
      clear h1n h2n hbd HV7 HQ7 HB7 hq hK
      go_wp2_with fail
      go_region
      go_wp2_with fail
      refine HC.out.mono ?_
      rintro e w9 ⟨rfl, hb⟩
      have HQ9 := hid (HQ8.out.below hb)
      have HV9 := hid (HV8.out.below hb)
      have HB9 := hid (HB8.out.trans (hb.mono HB8.out.size))
      clear hb HC HV8 HQ8 HB8
      have HC := hid (ps.pCommon _ w9 _ X r1 r2 HV9.out HXL.out HCK.out (by rw [← HN.out]; exact hR1.out) (by rw [← HN.out]; exact hR2.out))
      rw [← HKE.out] at HC
      go_wp2_with fail
      refine HC.out.mono ?_
      rintro e w10 ⟨rfl, hb⟩
      have HQ10 := hid (HQ9.out.below hb)
      have HV10 := hid (HV9.out.below hb)
      have HB10 := hid (HB9.out.trans (hb.mono HB9.out.size))
      clear hb HC HV9 HQ9 HB9
      have HCS : Hid (∀ y, Below w10.heap.size w10 y → ∀ ad, some (⟨qb, qo, none⟩ : Addr) = some ad → ∀ j u, (nvals S)[j]? = some u → y.cell? (ad.add j) = some u) := hid (fun y hy => by
        obtain ⟨qa, qd, hqv, hsq, -⟩ := HQ10.out.below hy
        rw [Value.slice.injEq] at hqv
        obtain ⟨rfl, -, -⟩ := hqv
        exact Si.cells_at (k := 0) hsq (fun j hj => ⟨by omega, by rw [Nat.zero_add]⟩))
      have HNL : Hid ((nvals S).length = n) := hid (by simp [nvals]; exact HSL.out)
      go_wp2_with (refine wpList_append_any rfl (.tmp 129) (.tmp 130) 22 rfl w10.heap.size 3 (.int .i64 0) 8 Try.underlying22 infoIntS rfl _ _ _ rfl (own_lit w10 3 (Nat.le_refl _)) _ n _ (nvals S) rfl HNL.out (by intro h; cases h) (HCS.out _ ((Below.refl _ _).alloc (Nat.le_refl _) _)) (nvals_oneS _) (by unfold maxLen; omega) (by omega) (by simp) ?_)
      intro v11 w11 hv11 hg11 _
      try rw [Nat.zero_add] at hv11
      try rw [List.nil_append] at hv11
      have hb11 := below_owned (w0 := w10) ((Below.refl w10.heap.size w10).alloc (Nat.le_refl _) _) (own_lit w10 3 (Nat.le_refl _)) (Nat.le_refl _) hg11
      rcases hv11.2 with ⟨-, h0⟩ | ⟨g, cap, cur, rfl, hbg, hg, hnc, hcmx, hcs, htake⟩
      · omega
      · have hcur : ∀ i, i < n → cur[i]? = some (.int .i64 ((S.getD i 0 : Nat) : Int)) := fun i hi => by
          have h1 := hv11.cells (g := g) rfl i (.int .i64 ((S.getD i 0 : Nat) : Int)) (by
            rw [nvals, List.getElem?_map, List.getElem?_eq_getElem (by rw [HSL.out]; exact hi), List.getD_eq_getElem?_getD, List.getElem?_eq_getElem (by rw [HSL.out]; exact hi)]; rfl)
          rw [Addr.add_lit, cell_of_row _ _ _ _ _ _ hg, Nat.zero_add] at h1
          exact h1
        have hcsz : n ≤ cur.size := by
          have := hcur (n - 1) (by omega)
          have := (Array.getElem?_eq_some_iff.1 this).1
          omega
        obtain ⟨A, hA⟩ : ∃ A, A = S.getD r1 0 := ⟨_, rfl⟩
        obtain ⟨B, hB⟩ : ∃ B, B = S.getD r2 0 := ⟨_, rfl⟩
        have hca : w11.cell? ⟨g, r1, none⟩ = some (.int .i64 (A : Int)) := by rw [cell_of_row _ _ _ _ _ _ hg, hcur r1 hR1.out, hA]
        have hcb2 : w11.cell? ⟨g, r2, none⟩ = some (.int .i64 (B : Int)) := by rw [cell_of_row _ _ _ _ _ _ hg, hcur r2 hR2.out, hB]
        obtain ⟨w12, hw12⟩ : ∃ w12, w12 = ((w11.setCell ⟨g, r1, none⟩ (.int .i64 (B : Int))).setCell ⟨g, r2, none⟩ (.int .i64 (A : Int))).drew := ⟨_, rfl⟩
        have HT12 : Hid (So (fun _ => True) w12 (.slice (some ⟨g, 0, none⟩) n cap) (zsN (swT S r1 r2))) := hid ⟨_, cap, by rw [zsN_len, swT_len, HSL.out], .inr ⟨g, 0, rfl, trivial, fun i hi => by
          rw [zsN_len, swT_len, HSL.out] at hi
          rw [Nat.zero_add, zsN_get, swT_get (by rw [HSL.out]; exact hR1.out) (by rw [HSL.out]; exact hR2.out), hw12]
          have e1 := heap_setCell_same (w11.setCell ⟨g, r1, none⟩ (.int .i64 (B : Int))) g r2 _ _ (.int .i64 (A : Int)) (heap_setCell_same w11 g r1 _ _ (.int .i64 (B : Int)) hg)
          show ((w11.setCell ⟨g, r1, none⟩ (.int .i64 (B : Int))).setCell ⟨g, r2, none⟩ (.int .i64 (A : Int))).cell? _ = _
          rw [cell_of_row _ _ _ _ _ _ e1, Array.getElem?_setIfInBounds]
          by_cases e2 : r2 = i
          · rw [if_pos e2, if_pos (by rw [Array.size_setIfInBounds]; omega), if_pos e2, ← hA]
          · rw [if_neg e2, if_neg e2, Array.getElem?_setIfInBounds]
            by_cases e3 : r1 = i
            · rw [if_pos e3, if_pos (by omega), if_pos e3, ← hB]
            · rw [if_neg e3, if_neg e3]; exact hcur i hi⟩, by rw [zsN_len, swT_len, HSL.out]; exact hnc, hcmx, fun h => by cases h⟩
        have hb12 : Below w10.heap.size w10 w12 := by
          rw [hw12]
          exact (below_grown hb11 (grown_setCell (grown_setCell (grown_refl w11 (some g)) (p := ⟨g, r1, none⟩) (.inl rfl) _) (p := ⟨g, r2, none⟩) (.inl rfl) _) hbg hb11.size).drew
        have hf1 : w11.frozen? ⟨g, r1, none⟩ = false := frozen_of_row w11 g r1 _ _ hg
        have hf2 : w11.frozen? ⟨g, r2, none⟩ = false := frozen_of_row w11 g r2 _ _ hg
        have hf3 : (w11.setCell ⟨g, r1, none⟩ (.int .i64 (B : Int))).frozen? ⟨g, r2, none⟩ = false := frozen_of_row _ g r2 _ _ (heap_setCell_same w11 g r1 _ _ (.int .i64 (B : Int)) hg)
        have hcd : (w11.setCell ⟨g, r1, none⟩ (.int .i64 (B : Int))).cell? ⟨g, r2, none⟩ = some (.int .i64 (B : Int)) := by
          rw [cell_of_row _ _ _ _ _ _ (heap_setCell_same w11 g r1 _ _ (.int .i64 (B : Int)) hg), Array.getElem?_setIfInBounds]
          by_cases e : r1 = r2
          · rw [if_pos e, if_pos (by have := hR1.out; omega)]
          · rw [if_neg e, hcur r2 hR2.out, hB]
        have HV12 := hid (HV10.out.below hb12)
        have HB12 := hid (HB10.out.trans (hb12.mono HB10.out.size))
        have HW12 := hid hw12
        have h1t : (r1 < n) = True := eq_true hR1.out
        have h2t : (r2 < n) = True := eq_true hR2.out
        have hqq : (q == q) = true := beq_self_eq_true q
        have hKK : ((K : Int) == (K : Int)) = true := beq_self_eq_true _
        have HSN : Hid (S.Nodup) := hid (by rw [HS.out]; exact nodup_rise (srT_sorted (by rw [HN.out]; exact Nat.le_refl _)))
        have HTL : Hid ((zsN (swT S r1 r2)).length ≤ 65536) := hid (by rw [zsN_len, swT_len, HSL.out]; omega)
        have HTZ : Hid (∀ z ∈ zsN (swT S r1 r2), i64s z) := hid (fun z hz => by
          obtain ⟨k, hk, rfl⟩ := List.mem_map.1 hz
          obtain ⟨i, hi, rfl⟩ := List.mem_iff_getElem.1 hk
          have hi2 : i < n := by rw [swT_len, HSL.out] at hi; exact hi
          have h3 := swT_get (S := S) (a := r1) (b := r2) (i := i) (by rw [HSL.out]; exact hR1.out) (by rw [HSL.out]; exact hR2.out)
          rw [List.getD_eq_getElem?_getD, List.getElem?_eq_getElem hi] at h3
          have h4 := HSM.out r1 hR1.out
          have h5 := HSM.out r2 hR2.out
          have h6 := HSM.out i hi2
          have h7 : (swT S r1 r2)[i] < n := by
            show (some (swT S r1 r2)[i]).getD 0 < n
            rw [h3]; split
            · exact h4
            · split
              · exact h5
              · exact h6
          unfold i64s; omega)
        clear hv11 hg11 hb11 hg hbg hnc hcmx hcs htake hcur hcsz hA hB hw12 hb12 HV10 HQ10 HB10 HCS HNL
        by_cases hab : r1 = r2
        · have hrr : ((r1 : Int) == (r2 : Int)) = true := by rw [beq_iff_eq]; omega
          have HE := hid hab
          have HSW : Hid (swT S r1 r2 = S) := hid (by rw [← hab]; exact swT_same S (by rw [HSL.out]; exact hR1.out))
          have HC : Hid (Calls Try.prog 17 #[.slice va n vc, .slice (some ⟨g, 0, none⟩) n cap] w12 fun e w' => ∃ u, e = .returned (.tuple #[u, .int .i64 0]) ∧ Below w12.heap.size w12 w') := hid (by
            refine (ps.pCommons _ _ w12 _ _ X HV12.out (by rw [← HN.out, ← HS.out, ← HSW.out]; exact HT12.out) HXL.out HCK.out).mono ?_
            rintro e w' ⟨u, rfl, -, hb⟩
            exact ⟨u, rfl, hb⟩)
          have HRG : Hid (decide (ckT X = 0 ∧ zsN (swT S r1 r2) = zsN (srT X X.length)) = true) := hid (decide_eq_true ⟨HCK.out, by rw [HSW.out, ← HN.out, ← HS.out]⟩)
          clear hab
          go_wp2_with fail
          go_region
          all_goals
            try go_wp2_with fail
            try rw [← HW12.out]
            refine HC.out.mono ?_
            rintro e w13 ⟨u, rfl, hb⟩
            have HT13 := hid (HT12.out.below hb)
            have HV13 := hid (HV12.out.below hb)
            have HB13 := hid (HB12.out.trans (hb.mono HB12.out.size))
            have HKN := hid (known15_any ps w13)
            clear hb HC HV12 HB12 HT12 HW12 hf1 hf2 hf3 hca hcb2 hcd
            go_wp2_with fail
            refine HKN.out.mono ?_
            rintro e w14 ⟨rfl, hb⟩
            have HT14 := hid (HT13.out.below hb)
            have HV14 := hid (HV13.out.below hb)
            have HB14 := hid (HB13.out.trans (hb.mono HB13.out.size))
            have HLE := hid (refLess_so _ w14 _ X r1 r2 HV14.out HXL.out HR.out (by rw [← HN.out]; exact hR1.out) (by rw [← HN.out]; exact hR2.out))
            rw [← HQE.out] at HLE
            clear hb HKN HV13 HB13 HT13
            go_wp2_with fail
            refine HLE.out.mono ?_
            rintro e w15 ⟨rfl, hb⟩
            have HT15 := hid (HT14.out.below hb)
            have HV15 := hid (HV14.out.below hb)
            have HB15 := hid (HB14.out.trans (hb.mono HB14.out.size))
            have HCO := hid (refCommon_so _ w15 _ X r1 r2 HV15.out HXL.out (by rw [← HN.out]; exact hR1.out) (by rw [← HN.out]; exact hR2.out))
            rw [← HKE.out] at HCO
            clear hb HLE HV14 HB14 HT14
            go_wp2_with fail
            refine HCO.out.mono ?_
            rintro e w16 ⟨rfl, hb⟩
            have HB16 := hid (HB15.out.trans (hb.mono HB15.out.size))
            have HRI := hid (ps.pRight _ _ w16 _ _ X _ (HV15.out.below hb) (HT15.out.below hb) HXL.out HXZ.out HTL.out HTZ.out)
            rw [HRG.out] at HRI
            clear hb HCO HV15 HB15 HT15
            go_wp2_with fail
            refine HRI.out.mono ?_
            rintro e w17 ⟨rfl, hb⟩
            have HB17 := hid (HB16.out.trans (hb.mono HB16.out.size))
            clear hb HRI
            go_wp2_with fail
            go_ret
            exact ⟨rfl, HB17.out⟩
        · have hrr : ((r1 : Int) == (r2 : Int)) = false := by rw [beq_eq_false_iff_ne]; omega
          have HNE := hid (swT_other HSN.out (by rw [HSL.out]; exact hR1.out) (by rw [HSL.out]; exact hR2.out) hab)
          have HC := hid (ps.pCommonsF _ _ w12 _ _ X _ HV12.out HT12.out HXL.out HCK.out HTL.out HTZ.out (by rw [← HN.out, ← HS.out]; exact HNE.out))
          have HRG : Hid (decide (ckT X = 0 ∧ zsN (swT S r1 r2) = zsN (srT X X.length)) = false) := hid (decide_eq_false fun h => HNE.out (by rw [h.2, ← HN.out, ← HS.out]))
          clear hab
          go_wp2_with fail
          go_region
          all_goals
            try go_wp2_with fail
            try rw [← HW12.out]
            refine HC.out.mono ?_
            rintro e w13 ⟨u, rfl, hb⟩
            have HT13 := hid (HT12.out.below hb)
            have HV13 := hid (HV12.out.below hb)
            have HB13 := hid (HB12.out.trans (hb.mono HB12.out.size))
            have HKN := hid (known15_any ps w13)
            clear hb HC HV12 HB12 HT12 HW12 hf1 hf2 hf3 hca hcb2 hcd
            go_wp2_with fail
            refine HKN.out.mono ?_
            rintro e w14 ⟨rfl, hb⟩
            have HT14 := hid (HT13.out.below hb)
            have HV14 := hid (HV13.out.below hb)
            have HB14 := hid (HB13.out.trans (hb.mono HB13.out.size))
            have HLE := hid (refLess_so _ w14 _ X r1 r2 HV14.out HXL.out HR.out (by rw [← HN.out]; exact hR1.out) (by rw [← HN.out]; exact hR2.out))
            rw [← HQE.out] at HLE
            clear hb HKN HV13 HB13 HT13
            go_wp2_with fail
            refine HLE.out.mono ?_
            rintro e w15 ⟨rfl, hb⟩
            have HT15 := hid (HT14.out.below hb)
            have HV15 := hid (HV14.out.below hb)
            have HB15 := hid (HB14.out.trans (hb.mono HB14.out.size))
            have HCO := hid (refCommon_so _ w15 _ X r1 r2 HV15.out HXL.out (by rw [← HN.out]; exact hR1.out) (by rw [← HN.out]; exact hR2.out))
            rw [← HKE.out] at HCO
            clear hb HLE HV14 HB14 HT14
            go_wp2_with fail
            refine HCO.out.mono ?_
            rintro e w16 ⟨rfl, hb⟩
            have HB16 := hid (HB15.out.trans (hb.mono HB15.out.size))
            have HRI := hid (ps.pRight _ _ w16 _ _ X _ (HV15.out.below hb) (HT15.out.below hb) HXL.out HXZ.out HTL.out HTZ.out)
            rw [HRG.out] at HRI
            clear hb HCO HV15 HB15 HT15
            go_wp2_with fail
            refine HRI.out.mono ?_
            rintro e w17 ⟨rfl, hb⟩
            have HB17 := hid (HB16.out.trans (hb.mono HB16.out.size))
            clear hb HRI
            go_wp2_with fail
            go_ret
            exact ⟨rfl, HB17.out⟩
end Go.Proofs.Ytclpoconppmapaa
