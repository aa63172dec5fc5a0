/- CONTRACTS: Commit, Abort. -/
import Derived.Test.YtjgnnofpilmgoaaDoorAlC
namespace Go.Proofs.YtjgnnofpilmgoaaDoor
open Go.RowKit Go.Inc

theorem no_setK {p : Nat → Bool} {f : Nat → Nat} {ks : List Nat} (n : Nat) (hn : n = ks.length) (h : ∀ k, p (f k) = false) : List.replicate n false = setK p (mapK f ks) := by
  subst hn
  refine ext_inB (by rw [setK_len, mapK_len, List.length_replicate]) fun i hi => ?_
  rw [List.length_replicate] at hi
  rw [inB_zeros, inB_setK (by rw [mapK_len]; exact hi)]
  unfold mapK
  rw [kd_map _ hi, h]
theorem commit_set (ks : List Nat) : (putTo true (putTo false (setK isC ks) (intsK isP ks) (intsK isP ks).length).1 (intsK isS ks) (intsK isS ks).length).1 = setK isC (mapK cK ks) := ext_inB (by rw [putTo_len, putTo_len, setK_len, setK_len, mapK_len]) fun i hi => by
  rw [putTo_len, putTo_len, setK_len] at hi
  rw [inB_putAll _ _ _ (by rw [putTo_len, setK_len]; exact hi), inB_putAll _ _ _ (by rw [setK_len]; exact hi), inB_setK hi, inB_setK (by rw [mapK_len]; exact hi)]
  unfold mapK
  rw [kd_map _ hi]
  simp only [intsK_mem_nat, isS_iff, isP_iff, hi, true_and]
  generalize kd ks i = k
  unfold isC cK
  by_cases h4 : k = 4
  · subst h4; decide
  · by_cases h3 : k = 3
    · subst h3; decide
    · simp [h3, h4]
theorem abort_set (ks : List Nat) : setK isC ks = setK isC (mapK aK ks) := ext_inB (by rw [setK_len, setK_len, mapK_len]) fun i hi => by
  rw [setK_len] at hi
  rw [inB_setK hi, inB_setK (by rw [mapK_len]; exact hi)]
  unfold mapK
  rw [kd_map _ hi]
  generalize kd ks i = k
  unfold isC aK
  by_cases h4 : k = 4
  · subst h4; decide
  · by_cases h3 : k = 3
    · subst h3; decide
    · simp [h3, h4]
theorem cK_S (k : Nat) : isS (cK k) = false := by
  unfold isS cK
  by_cases h4 : k = 4
  · simp [h4]
  · by_cases h3 : k = 3
    · simp [h3]
    · simp [h3, h4]
theorem cK_P (k : Nat) : isP (cK k) = false := by
  unfold isP cK
  by_cases h4 : k = 4
  · simp [h4]
  · by_cases h3 : k = 3
    · simp [h3]
    · simp [h3, h4]
theorem aK_S (k : Nat) : isS (aK k) = false := by
  unfold isS aK
  by_cases h4 : k = 4
  · simp [h4]
  · by_cases h3 : k = 3
    · simp [h3]
    · simp [h3, h4]
theorem aK_P (k : Nat) : isP (aK k) = false := by
  unfold isP aK
  by_cases h4 : k = 4
  · simp [h4]
  · by_cases h3 : k = 3
    · simp [h3]
    · simp [h3, h4]
theorem tab_mv {C : Nat → Nat} {w w' : World} (h : Mv (fun i => C i ≠ 0) w w') (hz : C 0 = 0) (ht : Tab w) : Tab w' := ht.mv h fun hh => hh hz
theorem mv_col {C : Nat → Nat} {k : Nat} {w w' : World} (h : Mv (fun i => C i = k) w w') (hk : k ≠ 0) : Mv (fun i => C i ≠ 0) w w' := h.sub fun i _ hi => by rw [show C i = k from hi]; exact hk
theorem allK_any {w : World} (ok : Nat → Prop) (v : Value) (q : Nat → Bool) (ks : List Nat) (x : World) (hs : Sm ok x v (setK q ks)) (ht : Tab x) (hw : w.heap.size ≤ x.heap.size) (n : Nat) (hn : n = (intsK q ks).length) :
    Calls Tryd.prog 36 #[v] x fun e w' => (∃ y, e = .returned y ∧ IntsN w.heap.size w' y n (intsK q ks)) ∧ Below x.heap.size x w' := by
  refine (allI_any ok v _ x hs.bm ht).mono ?_
  rintro e w' ⟨⟨y, h1, h2⟩, h3⟩
  rw [numsI_setK] at h2
  exact ⟨⟨y, h1, by rw [hn]; exact h2.n.mono hw⟩, h3⟩
theorem commit_nil (w : World) : Calls Tryd.prog 15 #[.pointer none] w fun e w' => e = .returned (.slice none 0 0) ∧ w = w' := by
  go_enter Tryd.func15, Tryd.ntmps15
  go_wp2_with fail
  go_ret
  exact ⟨rfl, rfl⟩
theorem abort_nil (w : World) : Calls Tryd.prog 17 #[.pointer none] w fun e w' => e = .returned (.slice none 0 0) ∧ w = w' := by
  go_enter Tryd.func17, Tryd.ntmps17
  go_wp2_with fail
  go_ret
  exact ⟨rfl, rfl⟩
set_option maxHeartbeats 2000000 in
theorem abort_any {C : Nat → Nat} {p : Nat} {v1 v2 v3 : Value} {ks : List Nat} {w : World} (h : Al C w p v1 v2 v3 ks) (hk : Ks ks) (ht : Tab w) :
    Calls Tryd.prog 17 #[.pointer (some ⟨p, 0, none⟩)] w fun e w' => (∃ x, e = .returned x ∧ IntsN w.heap.size w' x (intsK isS ks).length (intsK isS ks)) ∧ Al C w' p v1 v2 v3 (mapK aK ks) ∧ Mv (fun i => C i ≠ 0) w w' := by
  have HAL := hid h
  have HT := hid ht
  have HK := hid hk
  obtain ⟨n, hn⟩ : ∃ n, n = (intsK isS ks).length := ⟨_, rfl⟩
  have HN := hid hn
  have HA := hid (allK_any (w := w) _ v2 isS ks w h.s2 ht (Nat.le_refl _) n hn)
  have c1 := h.c1
  rw [← hn]
  clear h ht hk hn
  go_enter Tryd.func17, Tryd.ntmps17
  go_wp2_with fail
  refine HA.out.mono ?_
  clear HA c1
  rintro e w1 ⟨⟨y, rfl, hy⟩, hb⟩
  have HY := hid hy
  have HAL1 : Hid (Al C w1 p v1 v2 v3 ks) := hid (HAL.out.below hb)
  have HB1 := hid hb
  have HT1 : Hid (Tab w1) := hid (HT.out.below hb)
  clear hy hb
  go_wp2_with fail
  refine (settle_any HAL1.out HT1.out).mono ?_
  rintro e w2 ⟨rfl, hal, hm⟩
  have HAL2 := hid hal
  have HM2 := hid hm
  clear hal hm
  go_wp2_with fail
  go_ret
  refine ⟨⟨_, rfl, HY.out.mv HM2.out fun i hi hc => ?_⟩, ?_, (Mv.of_below HB1.out).trans HM2.out⟩
  · exact hc (Decidable.byContradiction fun hh => by have := HAL.out.old i hh; omega)
  · have hh := HAL2.out
    rw [no_setK (p := isS) (f := aK) (ks := ks) _ (by rw [setK_len]) aK_S, no_setK (p := isP) (f := aK) (ks := ks) _ (by rw [setK_len]) aK_P, abort_set] at hh
    exact hh
set_option maxRecDepth 20000 in
set_option maxHeartbeats 4000000 in
theorem commit_any {C : Nat → Nat} {p : Nat} {v1 v2 v3 : Value} {ks : List Nat} {w : World} (h : Al C w p v1 v2 v3 ks) (hk : Ks ks) (ht : Tab w) :
    Calls Tryd.prog 15 #[.pointer (some ⟨p, 0, none⟩)] w fun e w' => (∃ x, e = .returned x ∧ IntsN w.heap.size w' x (intsK isP ks).length (intsK isP ks)) ∧ Al C w' p v1 v2 v3 (mapK cK ks) ∧ Mv (fun i => C i ≠ 0) w w' := by
  have HAL := hid h
  have HT := hid ht
  have HK := hid hk
  obtain ⟨n, hn⟩ : ∃ n, n = (intsK isP ks).length := ⟨_, rfl⟩
  have HN := hid hn
  obtain ⟨ns, hns⟩ : ∃ n, n = (intsK isS ks).length := ⟨_, rfl⟩
  have HNS := hid hns
  have HA := hid (allK_any (w := w) _ v3 isP ks w h.s3 ht (Nat.le_refl _) n hn)
  have c2 := h.c2
  rw [← hn]
  clear h ht hk hn hns
  go_enter Tryd.func15, Tryd.ntmps15
  go_wp2_with fail
  refine HA.out.mono ?_
  clear HA c2
  rintro e w1 ⟨⟨y, rfl, hy⟩, hb⟩
  have HY1 := hid hy
  obtain ⟨ay, cy, rfl, hsi⟩ := hy
  have HAL1 : Hid (Al C w1 p v1 v2 v3 ks) := hid (HAL.out.below hb)
  have HB1 := hid hb
  have HT1 : Hid (Tab w1) := hid (HT.out.below hb)
  have hle := intsK_len isP ks
  have hle2 := pagesK_len isP ks
  have hd := dropS_any (fun b => C b = 2) (fun b => w.heap.size ≤ b) v1 _ ay cy (intsK isP ks) w1 HAL1.out.s1 hsi (fun i hi hc => by have := HAL.out.old i (by rw [hc]; decide); omega) (by have := HK.out.n2048; omega)
  rw [← HN.out] at hd
  have HD := hid hd
  have c0 := HAL1.out.c0
  clear hb hsi hd hle hle2
  go_wp2_with fail
  refine HD.out.mono ?_
  clear c0 HD
  rintro e w2 ⟨rfl, hs, hm⟩
  rw [HN.out] at hs
  have HAL2 : Hid (Al3 C w2 p v1 v2 v3 (putTo false (setK isC ks) (intsK isP ks) (intsK isP ks).length).1 (setK isS ks) (setK isP ks)) := hid (HAL1.out.turn1 hm hs)
  have HM2 : Hid (Mv (fun i => C i ≠ 0) w w2) := hid ((Mv.of_below HB1.out).trans (mv_col hm (by decide)))
  have HT2 : Hid (Tab w2) := hid (HT1.out.mv hm fun h0 => by have h1 : C 0 = 2 := h0; rw [HAL.out.z0] at h1; cases h1)
  have HY2 : Hid (IntsN w.heap.size w2 (.slice ay n cy) n (intsK isP ks)) := hid (HY1.out.mv hm fun i hi hc => by have := HAL.out.old i (by rw [show C i = 2 from hc]; decide); omega)
  clear hs hm HY1
  have HC5 : Hid (∀ x, Grew w2.drew x → x.cell? ⟨p, 0, none⟩ = some v1 ∧ x.cell? ⟨p, 1, none⟩ = some v2) := hid fun x hx => by
    have hb : Below w2.heap.size w2 x := ⟨hx.os, hx.tape, hx.output, hx.size, hx.block⟩
    exact ⟨(HAL2.out.below hb).c0, (HAL2.out.below hb).c1⟩
  have HL5 : Hid (∀ x, Grew w2.drew x → Calls Tryd.prog 36 #[v2] x fun e w' => (∃ y, e = .returned y ∧ IntsN w2.heap.size w' y ns (intsK isS ks)) ∧ Below x.heap.size x w') := hid fun x hx => by
    have hb : Below w2.heap.size w2 x := ⟨hx.os, hx.tape, hx.output, hx.size, hx.block⟩
    exact allK_any (w := w2) _ v2 isS ks x (HAL2.out.below hb).s2 (HT2.out.below hb) hx.size ns HNS.out
  obtain ⟨mA, hmA⟩ : ∃ mA, mA = (putTo false (setK isC ks) (intsK isP ks) (intsK isP ks).length).1 := ⟨_, rfl⟩
  have HMA := hid hmA
  rw [← hmA] at HAL2
  clear hmA HAL1 HB1 HT1
  go_wp2_with fail
  refine wp_region_grows 11 [Eqv' (.pointer (some ⟨p, 0, none⟩)), Eqv' (.pointer (some ⟨p, 0, none⟩)), Eqv' (.pointer (some ⟨p, 0, none⟩)), Eqv' (.pointer (some ⟨p, 0, none⟩)), Eqv' (v1), Eqv' (.pointer (some ⟨p, 0, none⟩)), Eqv' (.pointer (some ⟨p, 0, none⟩)), Eqv' (.pointer (some ⟨p, 0, none⟩)), Eqv' (.pointer (some ⟨p, 1, none⟩)), Eqv' (v2), (fun x v => IntsN w2.heap.size x v ns (intsK isS ks))] (by kernel_rfl) (by decide) (by kernel_rfl) ?_ ?_ ?_
  · repeat' (first | exact List.forall_mem_nil _ | refine List.forall_mem_cons.2 ⟨?_, ?_⟩)
    all_goals
      intro w w' v hw h
      first | exact h | exact IntsN.below h hw
  · simp only [AllLt]
    refine ⟨⟨⟨⟨⟨⟨⟨⟨⟨⟨⟨trivial, ?_⟩, ?_⟩, ?_⟩, ?_⟩, ?_⟩, ?_⟩, ?_⟩, ?_⟩, ?_⟩, ?_⟩, ?_⟩
    all_goals
      intro o' ho
      simp at ho
      subst ho
      intro ρ w5 hR hL hS hG
      obtain ⟨hl1, hl2, -⟩ := hL
    · refine plainG rfl ?_
      intro bA K Q' hK
      have e0 := hS 0 (by kernel_rfl)
      change ρ (.tmp 0) = _ at e0
      simp only [execOp]
      go_simp
      exact hK _ _ rfl (Grew.refl _)
    · refine plainG rfl ?_
      intro bA K Q' hK
      have e19 := hG 0 19 (by decide) (by kernel_rfl) (by kernel_rfl)
      change ρ (.tmp 19) = _ at e19
      simp only [execOp]
      go_simp
      exact hK _ _ rfl (Grew.refl _)
    · refine plainG rfl ?_
      intro bA K Q' hK
      have e20 := hG 1 20 (by decide) (by kernel_rfl) (by kernel_rfl)
      change ρ (.tmp 20) = _ at e20
      simp only [execOp]
      go_simp
      exact hK _ _ rfl (Grew.refl _)
    · refine plainG rfl ?_
      intro bA K Q' hK
      have e21 := hG 2 21 (by decide) (by kernel_rfl) (by kernel_rfl)
      change ρ (.tmp 21) = _ at e21
      simp only [execOp]
      go_simp
      exact hK _ _ rfl (Grew.refl _)
    · refine plainG rfl ?_
      intro bA K Q' hK
      have e22 := hG 3 22 (by decide) (by kernel_rfl) (by kernel_rfl)
      change ρ (.tmp 22) = _ at e22
      obtain ⟨x1, x2⟩ := HC5.out w5 hR
      simp only [execOp]
      go_simp
      exact hK _ _ rfl (Grew.refl _)
    · refine plainG rfl ?_
      intro bA K Q' hK
      have e0 := hS 0 (by kernel_rfl)
      change ρ (.tmp 0) = _ at e0
      simp only [execOp]
      go_simp
      exact hK _ _ rfl (Grew.refl _)
    · refine plainG rfl ?_
      intro bA K Q' hK
      have e24 := hG 5 24 (by decide) (by kernel_rfl) (by kernel_rfl)
      change ρ (.tmp 24) = _ at e24
      simp only [execOp]
      go_simp
      exact hK _ _ rfl (Grew.refl _)
    · refine plainG rfl ?_
      intro bA K Q' hK
      have e25 := hG 6 25 (by decide) (by kernel_rfl) (by kernel_rfl)
      change ρ (.tmp 25) = _ at e25
      simp only [execOp]
      go_simp
      exact hK _ _ rfl (Grew.refl _)
    · refine plainG rfl ?_
      intro bA K Q' hK
      have e26 := hG 7 26 (by decide) (by kernel_rfl) (by kernel_rfl)
      change ρ (.tmp 26) = _ at e26
      simp only [execOp]
      go_simp
      exact hK _ _ rfl (Grew.refl _)
    · refine plainG rfl ?_
      intro bA K Q' hK
      have e27 := hG 8 27 (by decide) (by kernel_rfl) (by kernel_rfl)
      change ρ (.tmp 27) = _ at e27
      obtain ⟨x1, x2⟩ := HC5.out w5 hR
      simp only [execOp]
      go_simp
      exact hK _ _ rfl (Grew.refl _)
    · refine plainG rfl ?_
      intro bA K Q' hK
      have e28 := hG 9 28 (by decide) (by kernel_rfl) (by kernel_rfl)
      change ρ (.tmp 28) = _ at e28
      simp only [execOp]
      go_simp
      refine (HL5.out w5 hR).mono ?_
      rintro r9 w9 ⟨⟨y, rfl, hy⟩, hb9⟩
      exact hK _ _ hy hb9
  · intro v w3 hR hG
    have h4 : v 4 = v1 := hG.1.1.1.1.1.1.2
    obtain ⟨az, cz, h10, hsi⟩ : IntsN w2.heap.size w3 (v 10) ns (intsK isS ks) := hG.2
    have hb : Below w2.heap.size w2 w3 := ⟨hR.os, hR.tape, hR.output, hR.size, hR.block⟩
    have HB3 := hid hb
    have hle := intsK_len isS ks
    have hle2 := pagesK_len isS ks
    have hd := addS_any (fun b => C b = 2) (fun b => w2.heap.size ≤ b) v1 mA az cz (intsK isS ks) w3 (HAL2.out.below hb).s1 hsi (fun i hi hc => by have := HAL2.out.old i (by rw [hc]; decide); omega) (by have := HK.out.n2048; omega)
    rw [← HNS.out] at hd
    have HD := hid hd
    clear hG hR hsi hb hd hle hle2 HC5 HL5
    simp [stG, stU, dstAt, Act.put, h4, h10]
    clear h4 h10
    go_wp2_with fail
    refine HD.out.mono ?_
    clear HD
    rintro e w4 ⟨rfl, hs, hm⟩
    rw [HNS.out, HMA.out, commit_set] at hs
    have HAL4 : Hid (Al3 C w4 p v1 v2 v3 (setK isC (mapK cK ks)) (setK isS ks) (setK isP ks)) := hid ((HAL2.out.below HB3.out).turn1 hm hs)
    have HM4 : Hid (Mv (fun i => C i ≠ 0) w2 w4) := hid ((Mv.of_below HB3.out).trans (mv_col hm (by decide)))
    have HT4 : Hid (Tab w4) := hid (tab_mv HM4.out HAL.out.z0 HT2.out)
    clear hs hm
    go_wp2_with fail
    refine (settle_any HAL4.out HT4.out).mono ?_
    rintro e w6 ⟨rfl, hal, hm⟩
    have HAL6 := hid hal
    have HM6 := hid hm
    clear hal hm
    go_wp2_with fail
    go_ret
    refine ⟨⟨_, rfl, HY2.out.mv (HM4.out.trans HM6.out) fun i hi hc => ?_⟩, ?_, HM2.out.trans (HM4.out.trans HM6.out)⟩
    · exact hc (Decidable.byContradiction fun hh => by have := HAL.out.old i hh; omega)
    · have hh := HAL6.out
      rw [no_setK (p := isS) (f := cK) (ks := ks) _ (by rw [setK_len]) cK_S, no_setK (p := isP) (f := cK) (ks := ks) _ (by rw [setK_len]) cK_P] at hh
      exact hh
end Go.Proofs.YtjgnnofpilmgoaaDoor
