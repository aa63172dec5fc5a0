/- CONTRACTS: Adopt, Give. -/
import Derived.Test.YtjgnnofpilmgoaaDoorAlD
namespace Go.Proofs.YtjgnnofpilmgoaaDoor
open Go.RowKit Go.Inc

theorem setK_put_same {p : Nat → Bool} {ks : List Nat} {zs : List Int} {k : Nat} (h : ∀ z ∈ zs, p k = p (kd ks z.toNat)) : setK p (putK ks zs k) = setK p ks := ext_inB (by rw [setK_len, setK_len, putK_len]) fun i hi => by
  rw [setK_len, putK_len] at hi
  rw [inB_setK (by rw [putK_len]; exact hi), inB_setK hi, kd_putK hi]
  split
  · rename_i hm; exact h _ hm
  · rfl
theorem setK_put_on {p : Nat → Bool} {ks : List Nat} {zs : List Int} {k : Nat} (hp : p k = true) : (putTo true (setK p ks) zs zs.length).1 = setK p (putK ks zs k) := ext_inB (by rw [putTo_len, setK_len, setK_len, putK_len]) fun i hi => by
  rw [putTo_len, setK_len] at hi
  rw [inB_putAll _ _ _ (by rw [setK_len]; exact hi), inB_setK hi, inB_setK (by rw [putK_len]; exact hi), kd_putK hi]
  split
  · rw [hp]
  · rfl
def isG (k : Nat) : Bool := decide (k = 2) || decide (k = 3)
theorem goodK_F : goodK [1] = isF := funext fun k => by
  unfold goodK isF
  by_cases h : k = 1
  · subst h; decide
  · have : ¬ ((k : Int) ∈ ([1] : List Int)) := by simp; omega
    simp [h, this]
theorem goodK_G : goodK [2, 3] = isG := funext fun k => by
  unfold goodK isG
  by_cases h : k = 2
  · subst h; decide
  · by_cases h3 : k = 3
    · subst h3; decide
    · have : ¬ ((k : Int) ∈ ([2, 3] : List Int)) := by simp; omega
      simp [h, h3, this]
theorem si_two (w : World) (z y : Int) (T : TypeId) : Si (fun b => b = w.heap.size) (w.alloc (.cells #[.int .i64 z, .int .i64 y] T)) (some ⟨w.heap.size, 0, none⟩) [z, y] :=
  .inr ⟨_, _, rfl, rfl, fun i hi => by
    have h0 : i = 0 ∨ i = 1 := by simp at hi; omega
    rcases h0 with rfl | rfl
    · rw [cell_of_row _ w.heap.size _ _ _ _ (heap_alloc_new w _)]; rfl
    · rw [cell_of_row _ w.heap.size _ _ _ _ (heap_alloc_new w _)]; rfl⟩
def adoptE (ks : List Nat) (zs : List Int) : Int := chkE ks zs isF 8
def adoptK (ks : List Nat) (zs : List Int) : List Nat := if adoptE ks zs = 0 then putK ks zs 3 else ks
def giveE (ks : List Nat) (zs : List Int) : Int := chkE ks zs isG 11
def gaveK (ks : List Nat) (zs : List Int) : List Nat := if giveE ks zs = 0 then giveK ks zs else ks
theorem chkE_bnd (ks : List Nat) (zs : List Int) (good : Nat → Bool) {wrong : Int} (h : 0 ≤ wrong ∧ wrong ≤ 11) : 0 ≤ chkE ks zs good wrong ∧ chkE ks zs good wrong ≤ 11 := by
  unfold chkE
  split
  · decide
  · split
    · decide
    · exact h
theorem Ks.adopt {ks : List Nat} (h : Ks ks) (zs : List Int) : Ks (adoptK ks zs) := by
  unfold adoptK
  split
  · rename_i he
    exact h.put (chkE_zero (by decide) he).1 (by decide) (by decide)
  · exact h
theorem Ks.gave {ks : List Nat} (h : Ks ks) (zs : List Int) : Ks (gaveK ks zs) := by
  unfold gaveK
  split
  · rename_i he
    exact h.give (chkE_zero (by decide) he).1
  · exact h
theorem adoptK_len (ks : List Nat) (zs : List Int) : (adoptK ks zs).length = ks.length := by unfold adoptK; split; exact putK_len _ _ _; rfl
theorem gaveK_len (ks : List Nat) (zs : List Int) : (gaveK ks zs).length = ks.length := by unfold gaveK; split; exact giveK_len _ _; rfl
theorem adopt_nil (v : Value) (w : World) : Calls Tryd.prog 19 #[.pointer none, v] w fun e w' => e = .returned (.int .i64 11) ∧ w = w' := by
  go_enter Tryd.func19, Tryd.ntmps19
  go_wp2_with fail
  go_ret
  exact ⟨rfl, rfl⟩
theorem give_nil (v : Value) (w : World) : Calls Tryd.prog 13 #[.pointer none, v] w fun e w' => e = .returned (.int .i64 11) ∧ w = w' := by
  go_enter Tryd.func13, Tryd.ntmps13
  go_wp2_with fail
  go_ret
  exact ⟨rfl, rfl⟩
set_option maxHeartbeats 2000000 in
theorem adopt_any {C : Nat → Nat} {p : Nat} {v1 v2 v3 : Value} {ks : List Nat} {w : World} (okz : Nat → Prop) (a : Option Addr) (cz : Nat) (zs : List Int) (h : Al C w p v1 v2 v3 ks) (hk : Ks ks) (hz : Si okz w a zs) (hd : ∀ i, okz i → C i = 0) (hl : (zs.length : Int) ≤ 9223372036854775807) :
    Calls Tryd.prog 19 #[.pointer (some ⟨p, 0, none⟩), .slice a zs.length cz] w fun e w' => e = .returned (.int .i64 (adoptE ks zs)) ∧ Al C w' p v1 v2 v3 (adoptK ks zs) ∧ Mv (fun i => C i ≠ 0) w w' := by
  have HAL := hid h
  have HZ := hid hz
  have HDJ := hid hd
  have HB0 := hid (alloc_below w (.cells #[.int .i64 1] 3))
  have hc := check_any (wrong := 8) okz (fun b => b = w.heap.size) a (some ⟨w.heap.size, 0, none⟩) cz 1 zs [1] (h.below HB0.out) hk (hz.below HB0.out) (si_one w 1 3) hl (by simp)
  rw [goodK_F] at hc
  have HL := hid hl
  have HE := hid (chkE_bnd ks zs isF (wrong := 8) (by decide))
  obtain ⟨E, hE⟩ : ∃ E, E = chkE ks zs isF 8 := ⟨_, rfl⟩
  have HEE := hid hE
  obtain ⟨n, hn⟩ : ∃ n, n = zs.length := ⟨_, rfl⟩
  have HN := hid hn
  rw [← hn, ← hE] at hc
  rw [← hE] at HE
  rw [← hn]
  have HCH := hid hc
  clear h hk hz hd hl hc hE hn
  go_enter Tryd.func19, Tryd.ntmps19
  go_wp2_with fail
  refine HCH.out.mono ?_
  clear HCH
  rintro e w1 ⟨rfl, hb⟩
  have HB1 : Hid (Below w.heap.size w w1) := hid (HB0.out.trans (hb.mono (by simp)))
  have HAL1 : Hid (Al C w1 p v1 v2 v3 ks) := hid (HAL.out.below HB1.out)
  clear hb
  by_cases he : E = 0
  · subst he
    have HIN := hid (chkE_zero (by decide) HEE.out.symm)
    have hadd := addS_any (fun b => C b = 3) okz v2 _ a cz zs w1 HAL1.out.s2 (HZ.out.below HB1.out) (fun i hi hc => by rw [HDJ.out i hi] at hc; cases hc) HL.out
    rw [setK_put_on (p := isS) (k := 3) rfl, ← HN.out] at hadd
    have HADD := hid hadd
    have c1 := HAL1.out.c1
    clear hadd
    go_wp2_with fail
    refine HADD.out.mono ?_
    clear c1 HADD
    rintro e w2 ⟨rfl, hs, hm⟩
    have HS := hid hs
    have HM := hid hm
    clear hs hm
    go_wp2_with fail
    go_ret
    refine ⟨by unfold adoptE; rw [← HEE.out]; rfl, ?_, (Mv.of_below HB1.out).trans (mv_col HM.out (by decide))⟩
    have hh := HAL1.out.turn2 HM.out HS.out
    have e1 : setK isC ks = setK isC (putK ks zs 3) := (setK_put_same fun z hz => by
      have h1 := isF_iff.1 (HIN.out.2.1 z hz)
      rw [h1]; decide).symm
    have e2 : setK isP ks = setK isP (putK ks zs 3) := (setK_put_same fun z hz => by
      have h1 := isF_iff.1 (HIN.out.2.1 z hz)
      rw [h1]; decide).symm
    rw [e1, e2] at hh
    have e3 : adoptK ks zs = putK ks zs 3 := if_pos (by unfold adoptE; exact HEE.out.symm)
    rw [e3]
    exact hh
  · have hne : (E != 0) = true := by rw [bne_iff_ne]; exact he
    have HNE := hid he
    clear he
    go_wp2_with fail
    go_ret
    have e3 : adoptK ks zs = ks := if_neg (by unfold adoptE; rw [← HEE.out]; exact HNE.out)
    rw [e3]
    exact ⟨by unfold adoptE; rw [← HEE.out]; rfl, HAL1.out, Mv.of_below HB1.out⟩
set_option maxRecDepth 20000 in
set_option maxHeartbeats 4000000 in
theorem give_any {C : Nat → Nat} {p : Nat} {v1 v2 v3 : Value} {ks : List Nat} {w : World} (okz : Nat → Prop) (a : Option Addr) (cz : Nat) (zs : List Int) (h : Al C w p v1 v2 v3 ks) (hk : Ks ks) (hz : Si okz w a zs) (hd : ∀ i, okz i → C i = 0) (hl : (zs.length : Int) ≤ 9223372036854775807) :
    Calls Tryd.prog 13 #[.pointer (some ⟨p, 0, none⟩), .slice a zs.length cz] w fun e w' => e = .returned (.int .i64 (giveE ks zs)) ∧ Al C w' p v1 v2 v3 (gaveK ks zs) ∧ Mv (fun i => C i ≠ 0) w w' := by
  have HAL := hid h
  have HZ := hid hz
  have HDJ := hid hd
  have HB0 := hid (alloc_below w (.cells #[.int .i64 2, .int .i64 3] 3))
  have hc := check_any (wrong := 11) okz (fun b => b = w.heap.size) a (some ⟨w.heap.size, 0, none⟩) cz 2 zs [2, 3] (h.below HB0.out) hk (hz.below HB0.out) (si_two w 2 3 3) hl (by simp)
  rw [goodK_G] at hc
  have HE := hid (chkE_bnd ks zs isG (wrong := 11) (by decide))
  obtain ⟨E, hE⟩ : ∃ E, E = chkE ks zs isG 11 := ⟨_, rfl⟩
  have HEE := hid hE
  obtain ⟨n, hn⟩ : ∃ n, n = zs.length := ⟨_, rfl⟩
  have HN := hid hn
  rw [← hn, ← hE] at hc
  rw [← hE] at HE
  rw [← hn] at hl ⊢
  have HCH := hid hc
  clear h hk hz hd hc hE hn
  go_enter Tryd.func13, Tryd.ntmps13
  go_wp2_with fail
  refine HCH.out.mono ?_
  clear HCH
  rintro e w1 ⟨rfl, hb⟩
  have HB1 : Hid (Below w.heap.size w w1) := hid (HB0.out.trans (hb.mono (by simp)))
  have HAL1 : Hid (Al C w1 p v1 v2 v3 ks) := hid (HAL.out.below HB1.out)
  clear hb
  by_cases he : E = 0
  · subst he
    have HIN := hid (chkE_zero (by decide) HEE.out.symm)
    go_wp2_with fail
    go_loopw [19] (fun i wr => ∃ k : Nat, k ≤ n ∧ i = .int .i64 (k : Int) ∧ Al C wr p v1 v2 v3 (giveK ks (zs.take k)) ∧ Mv (fun i => C i ≠ 0) w wr) (fun i _ => n - (intOf i).toNat)
    case atStart => exact ⟨0, Nat.zero_le _, rfl, by rw [List.take_zero, giveK_nil]; exact HAL1.out, Mv.of_below HB1.out⟩
    case round =>
      obtain ⟨k, hk, rfl, hal, hm⟩ := hrel
      have HALR := hid hal
      have HM := hid hm
      clear hal hm
      obtain ⟨wj, hwj⟩ : ∃ wj, wj = wr := ⟨_, rfl⟩
      subst hwj
      by_cases hlt : (k : Int) < n
      · have hs := si_mv HZ.out HM.out fun i hi hc => hc (HDJ.out i hi)
        rcases hs with h0 | ⟨b, o, rfl, -, hc⟩
        · exfalso; have := HN.out; rw [h0] at this; simp at this; omega
        have hck := hc k (by have := HN.out; omega)
        have HSN := hid (takeI_snoc (bs := zs) (k := k) (by have := HN.out; omega))
        have hmem := getD_mem (zs := zs) (k := k) (by have := HN.out; omega)
        have hnd : (zs.take (k + 1)).Nodup := HIN.out.2.2.sublist (List.take_sublist _ _)
        rw [HSN.out] at hnd
        obtain ⟨x, hx⟩ : ∃ x, x = zs.getD k 0 := ⟨_, rfl⟩
        rw [← hx] at hck HSN hmem hnd
        obtain ⟨q, rfl⟩ := Int.eq_ofNat_of_zero_le (show (0 : Int) ≤ x by have := HIN.out.1 x hmem; omega)
        have hqn : q < ks.length := by have := HIN.out.1 _ hmem; omega
        have hnm := (nodup_snoc.1 hnd).2
        have hkd := kd_giveK_new (ks := ks) hqn hnm
        have hgood : isG (kd ks q) = true := HIN.out.2.1 _ hmem
        have hsn := giveK_snoc (ks := ks) (zs := zs.take k) hqn
        obtain ⟨ks1, hks1⟩ : ∃ ks1, ks1 = giveK ks (zs.take k) := ⟨_, rfl⟩
        rw [← hks1] at HALR hkd hsn
        have hq1 : q < ks1.length := by rw [hks1, giveK_len]; exact hqn
        have hin := inB_setK (p := isS) hq1
        rw [hkd] at hin
        have hdr := drop_one (HALR.out.s2) q (by rw [setK_len]; exact hq1) 3
        rw [hin] at hdr
        have hkn : (k < n) = True := eq_true (by omega)
        have c1 := HALR.out.c1
        have HB5 := hid (alloc_below wj (.cells #[.int .i64 (q : Int)] 3))
        have HQ1 := hid hq1
        have HKD := hid hkd
        have HSNN := hid hsn
        by_cases h3 : kd ks q = 3
        · rw [h3, if_pos (show isS 3 = true from rfl)] at hdr
          have HDR := hid hdr
          have H3 := hid h3
          clear hc hx hmem hnd hqn hnm hkd hgood hsn hks1 hq1 hin hdr h3
          go_wp2_with fail
          refine HDR.out.mono ?_
          clear HDR c1
          rintro e w2 ⟨rfl, hs2, hm2⟩
          have HS2 := hid hs2
          have HM2 := hid hm2
          clear hs2 hm2
          go_wp2_with fail
          go_roundw
          case rel =>
            refine ⟨k + 1, by omega, by go_num, ?_, HM.out.trans ((Mv.of_below HB5.out).trans (mv_col HM2.out (by decide)))⟩
            rw [HSN.out, HSNN.out, H3.out]
            have hh := (HALR.out.below HB5.out).turn2 HM2.out HS2.out
            have e1 : setK isC ks1 = setK isC (ks1.set q (gK 3)) := (setK_same HQ1.out (by rw [HKD.out, H3.out]; decide)).symm
            have e2 : setK isP ks1 = setK isP (ks1.set q (gK 3)) := (setK_same HQ1.out (by rw [HKD.out, H3.out]; decide)).symm
            have e3 : (setK isS ks1).set q false = setK isS (ks1.set q (gK 3)) := by rw [setK_set]; rfl
            rw [e1, e2, e3] at hh
            exact hh
          case measure => simp [intOf]; omega
        · have h2 : kd ks q = 2 := by unfold isG at hgood; simp [h3] at hgood; exact hgood
          rw [h2, if_neg (show ¬ isS 2 = true by decide)] at hdr
          have HDR := hid hdr
          have H2 := hid h2
          clear hc hx hmem hnd hqn hnm hkd hgood hsn hks1 hq1 hin hdr h3 h2
          go_wp2_with fail
          refine HDR.out.mono ?_
          clear HDR c1
          rintro e w2 ⟨rfl, hs2, hm2⟩
          have HAL2 := hid ((HALR.out.below HB5.out).turn2 hm2 hs2)
          have HM2 : Hid (Mv (fun i => C i ≠ 0) w w2) := hid (HM.out.trans ((Mv.of_below HB5.out).trans (mv_col hm2 (by decide))))
          clear hs2 hm2
          have hadd := add_one (HAL2.out.s3) q (by rw [setK_len]; exact HQ1.out) 3
          have hin := inB_setK (p := isP) HQ1.out
          rw [HKD.out, H2.out] at hin
          rw [hin, if_neg (show ¬ isP 2 = true by decide)] at hadd
          have HADD := hid hadd
          have HB6 := hid (alloc_below w2 (.cells #[.int .i64 (q : Int)] 3))
          have c2 := HAL2.out.c2
          clear hadd hin
          go_wp2_with fail
          refine HADD.out.mono ?_
          clear HADD c2
          rintro e w3 ⟨rfl, hs3, hm3⟩
          have HS3 := hid hs3
          have HM3 := hid hm3
          clear hs3 hm3
          go_wp2_with fail
          go_roundw
          case rel =>
            refine ⟨k + 1, by omega, by go_num, ?_, HM2.out.trans ((Mv.of_below HB6.out).trans (mv_col HM3.out (by decide)))⟩
            rw [HSN.out, HSNN.out, H2.out]
            have hh := (HAL2.out.below HB6.out).turn3 HM3.out HS3.out
            have e1 : setK isC ks1 = setK isC (ks1.set q (gK 2)) := (setK_same HQ1.out (by rw [HKD.out, H2.out]; decide)).symm
            have e2 : (setK isP ks1).set q true = setK isP (ks1.set q (gK 2)) := by rw [setK_set]; rfl
            have e3 : (setK isS ks1).set q false = setK isS (ks1.set q (gK 2)) := by rw [setK_set]; rfl
            rw [e1, e2, e3] at hh
            exact hh
          case measure => simp [intOf]; omega
      · have hkf : (k < n) = False := eq_false (by omega)
        have HKN : Hid (k = n) := hid (by omega)
        clear hlt
        go_wp2_with fail
        go_ret
        have e3 : gaveK ks zs = giveK ks zs := if_pos (by unfold giveE; exact HEE.out.symm)
        rw [e3]
        refine ⟨by unfold giveE; rw [← HEE.out]; rfl, ?_, HM.out⟩
        have hh := HALR.out
        rw [HKN.out, HN.out, List.take_length] at hh
        exact hh
  · have hne : (E != 0) = true := by rw [bne_iff_ne]; exact he
    have HNE := hid he
    clear he
    go_wp2_with fail
    go_ret
    have e3 : gaveK ks zs = ks := if_neg (by unfold giveE; rw [← HEE.out]; exact HNE.out)
    rw [e3]
    exact ⟨by unfold giveE; rw [← HEE.out]; rfl, HAL1.out, Mv.of_below HB1.out⟩
end Go.Proofs.YtjgnnofpilmgoaaDoor
