/- FLIP, THE FIRST STATEMENT: for any superblock: its bytes, or that it is not right, are the document's, and decoded on its page they are it (every input; nothing is asked of it). -/
import Derived.Test.YtebacgkeolofmaaJ28
import Derived.Test.YtebacgkeolofmaaJ30
namespace Go.Proofs.Ytebacgkeolofmaa
open Go.RowKit Go.Inc

set_option maxRecDepth 20000 in
set_option maxHeartbeats 4000000 in
theorem flipBytes_walk (e r s t : Int) (w : World) (hf : Sp.fits ⟨e, r, s, t⟩) : Calls Try.prog 3 #[.agg #[.int .i64 e, .int .i64 r, .int .i64 s, .int .i64 t]] w fun x w' => x = .returned (.bool true) ∧ Below w.heap.size w w' := by
  obtain ⟨hfe, hfr, hfs, hft⟩ := hf
  obtain ⟨wb, hwb⟩ : ∃ y, y = w.alloc (.cells #[.int .i64 e, .int .i64 r, .int .i64 s, .int .i64 t] 23) := ⟨_, rfl⟩
  have hb : Below w.heap.size w wb := by rw [hwb]; exact (Below.refl _ _).alloc (Nat.le_refl _) _
  have hx : wb.heap[w.heap.size]? = some (.cells #[.int .i64 e, .int .i64 r, .int .i64 s, .int .i64 t] 23 (0, 0)) := by rw [hwb]; exact heap_alloc_new w _
  have HB := hid hb
  have HX := hid hx
  have HWB := hid hwb
  have q0 := cell_of_row wb _ 0 _ _ _ hx
  have q1 := cell_of_row wb _ 1 _ _ _ hx
  have q2 := cell_of_row wb _ 2 _ _ _ hx
  have q3 := cell_of_row wb _ 3 _ _ _ hx
  clear hb hx hwb hfr hfs hft
  go_enter Try.func3, Try.ntmps3
  go_upto_region 1 with fail
  rw [← HWB.out]
  clear HWB
  go_wp2_with fail
  refine (to_any e r s t wb).mono ?_
  rintro x w1 ⟨rfl, hb1⟩
  obtain ⟨w2, hw2⟩ : ∃ y, y = w1.alloc (.cells #[.int .i64 e, .int .i64 r, .int .i64 s, .int .i64 t] 24) := ⟨_, rfl⟩
  have hb2 : Below w1.heap.size w1 w2 := by rw [hw2]; exact (Below.refl _ _).alloc (Nat.le_refl _) _
  have hy2 : w2.heap[w1.heap.size]? = some (.cells #[.int .i64 e, .int .i64 r, .int .i64 s, .int .i64 t] 24 (0, 0)) := by rw [hw2]; exact heap_alloc_new w1 _
  have hx2 : w2.heap[w.heap.size]? = _ := row_below (row_below HX.out hb1) hb2
  have HB2 : Hid (Below w.heap.size w w2) := hid ((HB.out.trans (hb1.mono HB.out.size)).trans (hb2.mono (HB.out.trans (hb1.mono HB.out.size)).size))
  have HX2 := hid hx2
  have HY2 := hid hy2
  have HW2 := hid hw2
  have y0 := cell_of_row w2 _ 0 _ _ _ hy2
  have y1 := cell_of_row w2 _ 1 _ _ _ hy2
  have y2 := cell_of_row w2 _ 2 _ _ _ hy2
  have y3 := cell_of_row w2 _ 3 _ _ _ hy2
  clear hb1 hb2 hy2 hx2 hw2 q0 q1 q2 q3 HB HX
  go_upto_region 2 with fail
  rw [← HW2.out]
  clear HW2
  go_wp2_with fail
  refine (fenc_any e r s t w2).mono ?_
  rintro x w3 ⟨⟨v, rfl, hv⟩, hb3⟩
  have HV3 := hid hv
  have HB3 : Hid (Below w.heap.size w w3) := hid (HB2.out.trans (hb3.mono HB2.out.size))
  have hx3 : w3.heap[w.heap.size]? = _ := row_below HX2.out hb3
  have HX3 := hid hx3
  have HY3 := hid (row_below HY2.out hb3)
  have q0 := cell_of_row w3 _ 0 _ _ _ hx3
  have q1 := cell_of_row w3 _ 1 _ _ _ hx3
  have q2 := cell_of_row w3 _ 2 _ _ _ hx3
  have q3 := cell_of_row w3 _ 3 _ _ _ hx3
  clear hv hb3 hx3 y0 y1 y2 y3 HB2 HX2 HY2
  go_wp2_with fail
  refine (refFCheck_any e r s t w3).mono ?_
  rintro x w4 ⟨rfl, hb4⟩
  obtain ⟨q, hq⟩ : ∃ q, q = spChk ⟨e, r, s, t⟩ := ⟨_, rfl⟩
  have HB4 : Hid (Below w.heap.size w w4) := hid (HB3.out.trans (hb4.mono HB3.out.size))
  have HX4 := hid (row_below HX3.out hb4)
  have HY4 := hid (row_below HY3.out hb4)
  have HV4 := hid (HV3.out.below hb4)
  have HQ := hid hq
  rw [← hq] at HV4 ⊢
  clear hq hb4 q0 q1 q2 q3 HB3 HX3 HY3 HV3
  go_upto_region 4 with fail
  have HC : Hid (∀ z, Grew w4.drew z → z.cell? ⟨w.heap.size, 0, none⟩ = some (.int .i64 e) ∧ z.cell? ⟨w1.heap.size, 0, none⟩ = some (.int .i64 e) ∧ z.cell? ⟨w1.heap.size, 1, none⟩ = some (.int .i64 r) ∧ z.cell? ⟨w1.heap.size, 2, none⟩ = some (.int .i64 s) ∧ z.cell? ⟨w1.heap.size, 3, none⟩ = some (.int .i64 t)) := hid fun z hz => by
    have h1 : z.heap[w.heap.size]? = _ := row_below (w := w4.drew) HX4.out hz
    have h2 : z.heap[w1.heap.size]? = _ := row_below (w := w4.drew) HY4.out hz
    exact ⟨cell_of_row z _ 0 _ _ _ h1, cell_of_row z _ 0 _ _ _ h2, cell_of_row z _ 1 _ _ _ h2, cell_of_row z _ 2 _ _ _ h2, cell_of_row z _ 3 _ _ _ h2⟩
  refine wp_region_grows 18 [Eqv' (.int .i64 (q : Nat)), Eqv' (.int .i64 (q : Nat)), Eqv' (.bool false), Eqv' (.bool false), Eqv' (.agg #[.int .i64 e, .int .i64 r, .int .i64 s, .int .i64 t]), Eqv' (.int .i64 (q : Nat)), Eqv' (.int .i64 (q : Nat)), Eqv' (.bool false), Eqv' (.bool false), Eqv' (.bool false), Eqv' (.pointer (some ⟨w.heap.size, 0, none⟩)), Eqv' (.int .i64 e), Eqv' (.int .i64 (slot e : Nat)), Eqv' (.pointer (some ⟨w.heap.size, 0, none⟩)), Eqv' (.int .i64 e), Eqv' (.int .i64 (slot e : Nat)), Eqv' (.bool false), Eqv' (.bool false)] (by kernel_rfl) (by decide) (by kernel_rfl) ?_ ?_ ?_
  · repeat' (first | exact List.forall_mem_nil _ | refine List.forall_mem_cons.2 ⟨?_, ?_⟩)
    all_goals
      intro w w' v hw h
      exact h
  · simp only [AllLt]
    refine ⟨⟨⟨⟨⟨⟨⟨⟨⟨⟨⟨⟨⟨⟨⟨⟨⟨⟨trivial, ?_⟩, ?_⟩, ?_⟩, ?_⟩, ?_⟩, ?_⟩, ?_⟩, ?_⟩, ?_⟩, ?_⟩, ?_⟩, ?_⟩, ?_⟩, ?_⟩, ?_⟩, ?_⟩, ?_⟩, ?_⟩
    all_goals
      intro o' ho
      simp at ho
      subst ho
      intro ρ w2 hR hL hS hG
      obtain ⟨hl1, hl2, -⟩ := hL
    · refine plainG rfl ?_
      intro bA K Q' hK
      have e5 := hS 5 (by kernel_rfl)
      change ρ (.tmp 5) = _ at e5
      simp only [execOp]
      go_simp
      exact hK _ _ rfl (Grew.refl _)
    · refine plainG rfl ?_
      intro bA K Q' hK
      have e6 := hS 6 (by kernel_rfl)
      change ρ (.tmp 6) = _ at e6
      simp only [execOp]
      go_simp
      exact hK _ _ rfl (Grew.refl _)
    · refine plainG rfl ?_
      intro bA K Q' hK
      have e20 := hG 0 20 (by decide) (by kernel_rfl) (by kernel_rfl)
      have e21 := hG 1 21 (by decide) (by kernel_rfl) (by kernel_rfl)
      change ρ (.tmp 20) = _ at e20
      change ρ (.tmp 21) = _ at e21
      simp only [execOp]
      go_simp
      exact hK _ _ rfl (Grew.refl _)
    · refine plainG rfl ?_
      intro bA K Q' hK
      have e22 := hG 2 22 (by decide) (by kernel_rfl) (by kernel_rfl)
      change ρ (.tmp 22) = _ at e22
      simp only [execOp]
      go_simp
      exact hK _ _ rfl (Grew.refl _)
    · have eG : ρ (.tmp 23) = _ := hG 3 23 (by decide) (by kernel_rfl) (by kernel_rfl)
      refine onG rfl (by kernel_rfl) eG ?_
      intro bA K Q' hK
      have e3 := hS 3 (by kernel_rfl)
      change ρ (.tmp 3) = _ at e3
      obtain ⟨q0, x0, x1, x2, x3⟩ := HC.out w2 hR
      simp only [execOp]
      go_simp
      exact hK _ _ rfl (Grew.refl _)
    · have eG : ρ (.tmp 23) = _ := hG 3 23 (by decide) (by kernel_rfl) (by kernel_rfl)
      refine onG rfl (by kernel_rfl) eG ?_
      intro bA K Q' hK
      have e24 := hG 4 24 (by decide) (by kernel_rfl) (by kernel_rfl)
      change ρ (.tmp 24) = _ at e24
      simp only [execOp]
      go_simp
      have hc := fcheck_any e r s t w2
      rw [← HQ.out] at hc
      refine hc.mono ?_
      rintro r9 w9 ⟨rfl, hb9⟩
      exact hK _ _ rfl hb9
    · have eG : ρ (.tmp 23) = _ := hG 3 23 (by decide) (by kernel_rfl) (by kernel_rfl)
      refine onG rfl (by kernel_rfl) eG ?_
      intro bA K Q' hK
      have e6 := hS 6 (by kernel_rfl)
      change ρ (.tmp 6) = _ at e6
      simp only [execOp]
      go_simp
      exact hK _ _ rfl (Grew.refl _)
    · have eG : ρ (.tmp 23) = _ := hG 3 23 (by decide) (by kernel_rfl) (by kernel_rfl)
      refine onG rfl (by kernel_rfl) eG ?_
      intro bA K Q' hK
      have e25 := hG 5 25 (by decide) (by kernel_rfl) (by kernel_rfl)
      have e26 := hG 6 26 (by decide) (by kernel_rfl) (by kernel_rfl)
      change ρ (.tmp 25) = _ at e25
      change ρ (.tmp 26) = _ at e26
      simp only [execOp]
      go_simp
      exact hK _ _ rfl (Grew.refl _)
    · refine plainG rfl ?_
      intro bA K Q' hK
      have e23 := hG 3 23 (by decide) (by kernel_rfl) (by kernel_rfl)
      have e27 := hG 7 27 (by decide) (by kernel_rfl) (by kernel_rfl)
      change ρ (.tmp 23) = _ at e23
      change ρ (.tmp 27) = _ at e27
      simp only [execOp]
      go_simp
      exact hK _ _ rfl (Grew.refl _)
    · refine plainG rfl ?_
      intro bA K Q' hK
      have e28 := hG 8 28 (by decide) (by kernel_rfl) (by kernel_rfl)
      change ρ (.tmp 28) = _ at e28
      simp only [execOp]
      go_simp
      exact hK _ _ rfl (Grew.refl _)
    · have eG : ρ (.tmp 29) = _ := hG 9 29 (by decide) (by kernel_rfl) (by kernel_rfl)
      refine onG rfl (by kernel_rfl) eG ?_
      intro bA K Q' hK
      have e1 := hS 1 (by kernel_rfl)
      change ρ (.tmp 1) = _ at e1
      simp only [execOp]
      go_simp
      exact hK _ _ rfl (Grew.refl _)
    · have eG : ρ (.tmp 29) = _ := hG 9 29 (by decide) (by kernel_rfl) (by kernel_rfl)
      refine onG rfl (by kernel_rfl) eG ?_
      intro bA K Q' hK
      have e30 := hG 10 30 (by decide) (by kernel_rfl) (by kernel_rfl)
      change ρ (.tmp 30) = _ at e30
      obtain ⟨q0, x0, x1, x2, x3⟩ := HC.out w2 hR
      simp only [execOp]
      go_simp
      exact hK _ _ rfl (Grew.refl _)
    · have eG : ρ (.tmp 29) = _ := hG 9 29 (by decide) (by kernel_rfl) (by kernel_rfl)
      refine onG rfl (by kernel_rfl) eG ?_
      intro bA K Q' hK
      have e31 := hG 11 31 (by decide) (by kernel_rfl) (by kernel_rfl)
      change ρ (.tmp 31) = _ at e31
      simp only [execOp]
      go_simp
      refine (slot_any e w2).mono ?_
      rintro r9 w9 ⟨rfl, rfl⟩
      exact hK _ _ rfl (Grew.refl _)
    · have eG : ρ (.tmp 29) = _ := hG 9 29 (by decide) (by kernel_rfl) (by kernel_rfl)
      refine onG rfl (by kernel_rfl) eG ?_
      intro bA K Q' hK
      have e1 := hS 1 (by kernel_rfl)
      change ρ (.tmp 1) = _ at e1
      simp only [execOp]
      go_simp
      exact hK _ _ rfl (Grew.refl _)
    · have eG : ρ (.tmp 29) = _ := hG 9 29 (by decide) (by kernel_rfl) (by kernel_rfl)
      refine onG rfl (by kernel_rfl) eG ?_
      intro bA K Q' hK
      have e33 := hG 13 33 (by decide) (by kernel_rfl) (by kernel_rfl)
      change ρ (.tmp 33) = _ at e33
      obtain ⟨q0, x0, x1, x2, x3⟩ := HC.out w2 hR
      simp only [execOp]
      go_simp
      exact hK _ _ rfl (Grew.refl _)
    · have eG : ρ (.tmp 29) = _ := hG 9 29 (by decide) (by kernel_rfl) (by kernel_rfl)
      refine onG rfl (by kernel_rfl) eG ?_
      intro bA K Q' hK
      have e34 := hG 14 34 (by decide) (by kernel_rfl) (by kernel_rfl)
      change ρ (.tmp 34) = _ at e34
      simp only [execOp]
      go_simp
      refine (refSlot_any e w2).mono ?_
      rintro r9 w9 ⟨rfl, rfl⟩
      exact hK _ _ rfl (Grew.refl _)
    · have eG : ρ (.tmp 29) = _ := hG 9 29 (by decide) (by kernel_rfl) (by kernel_rfl)
      refine onG rfl (by kernel_rfl) eG ?_
      intro bA K Q' hK
      have e32 := hG 12 32 (by decide) (by kernel_rfl) (by kernel_rfl)
      have e35 := hG 15 35 (by decide) (by kernel_rfl) (by kernel_rfl)
      change ρ (.tmp 32) = _ at e32
      change ρ (.tmp 35) = _ at e35
      simp only [execOp]
      go_simp
      exact hK _ _ rfl (Grew.refl _)
    · refine plainG rfl ?_
      intro bA K Q' hK
      have e29 := hG 9 29 (by decide) (by kernel_rfl) (by kernel_rfl)
      have e36 := hG 16 36 (by decide) (by kernel_rfl) (by kernel_rfl)
      change ρ (.tmp 29) = _ at e29
      change ρ (.tmp 36) = _ at e36
      simp only [execOp]
      go_simp
      exact hK _ _ rfl (Grew.refl _)
  · intro v' w5 hR hG
    have h17 : v' 17 = .bool false := hG.2
    have HB5 : Hid (Below w.heap.size w w5) := hid (Grew.on HB4.out hR)
    have HX5 : Hid (w5.heap[w.heap.size]? = _) := hid (row_below (w := w4.drew) HX4.out hR)
    have HY5 : Hid (w5.heap[w1.heap.size]? = _) := hid (row_below (w := w4.drew) HY4.out hR)
    have HV5 : Hid (Bb _ w5 v _) := hid (Bb.below (w := w4.drew) HV4.out hR)
    clear hG hR HC HB4 HX4 HY4 HV4
    cases hok : Sp.ok ⟨e, r, s, t⟩
    · have hq10 : q = 10 := by rw [HQ.out]; exact spChk_no hok
      subst hq10
      obtain ⟨a5, c5, rfl, hs5, hl5, hm5, hn5⟩ := (by have h := HV5.out; rwa [if_neg (by decide)] at h : Bb (fun b => w2.heap.size ≤ b) w5 v [])
      clear hok hs5 hl5 hm5 hn5 HV5 HQ
      simp [stG, stU, dstAt, Act.put, h17]
      go_wp2_with fail
      refine (flKnown_any w5).mono ?_
      rintro x w6 ⟨rfl, hb6⟩
      have HB6 : Hid (Below w.heap.size w w6) := hid (HB5.out.trans (hb6.mono HB5.out.size))
      clear hb6
      go_wp2_with fail
      go_ret
      exact ⟨rfl, HB6.out⟩
    · have hq0 : q = 0 := by rw [HQ.out]; exact spChk_ok hok
      subst hq0
      obtain ⟨a5, c5, rfl, hs5, hl5, hm5, hn5⟩ := (by have h := HV5.out; rwa [if_pos rfl] at h : Bb (fun b => w2.heap.size ≤ b) w5 v (spEnc ⟨e, r, s, t⟩))
      have hsp := (spOk_iff _).1 hok
      obtain ⟨R, rfl⟩ := Int.eq_ofNat_of_zero_le (a := r) (by simp only at hsp; omega)
      obtain ⟨S, rfl⟩ := Int.eq_ofNat_of_zero_le (a := s) (by simp only at hsp; omega)
      obtain ⟨T, rfl⟩ := Int.eq_ofNat_of_zero_le (a := t) (by simp only at hsp; omega)
      have HRE : Hid (∀ z, Calls Try.prog 17 _ z _) := hid fun z => refFEnc_any e R S T z hok
      have HL : Hid ((spEnc ⟨e, (R : Int), (S : Int), (T : Int)⟩).length = 256) := hid (spEnc_len _)
      have HBY : Hid (Bytes (spEnc ⟨e, (R : Int), (S : Int), (T : Int)⟩)) := hid (spEnc_bytes _)
      have HE1 : Hid (flE (spEnc ⟨e, (R : Int), (S : Int), (T : Int)⟩) (slot e : Nat) = 0 ∧ flS (spEnc ⟨e, (R : Int), (S : Int), (T : Int)⟩) (slot e : Nat) = ⟨e, (R : Int), (S : Int), (T : Int)⟩) := hid ⟨flE_enc (x := ⟨e, (R : Int), (S : Int), (T : Int)⟩) hok, flS_enc (x := ⟨e, (R : Int), (S : Int), (T : Int)⟩) hok⟩
      have HE2 : Hid (flE (spEnc ⟨e, (R : Int), (S : Int), (T : Int)⟩) (1 - (slot e : Nat)) = 5) := hid (flE_other (x := ⟨e, (R : Int), (S : Int), (T : Int)⟩) hok)
      have HS5 := hid hs5
      have HC5 : Hid ((spEnc ⟨e, (R : Int), (S : Int), (T : Int)⟩).length ≤ c5 ∧ c5 ≤ maxLen) := hid ⟨hl5, hm5⟩
      clear hok hs5 hl5 hm5 hn5 HV5 HQ hsp
      generalize spEnc ⟨e, (R : Int), (S : Int), (T : Int)⟩ = bs at *
      have q0 := cell_of_row w5 _ 0 _ _ _ HX5.out
      have hsl : (slot e : Int) < 2 := by have := slot_lt e; omega
      rw [HL.out]
      simp [stG, stU, dstAt, Act.put, h17]
      go_wp2_with fail
      refine (slot_any e w5).mono ?_
      rintro x w5' ⟨rfl, rfl⟩
      have HD5 := hid (fdec_any _ a5 c5 bs (slot e : Nat) w5 HS5.out HBY.out HC5.out)
      rw [HL.out] at HD5
      go_wp2_with fail
      refine HD5.out.mono ?_
      clear HD5
      rintro x w6 ⟨hx, hb6⟩
      unfold FlAns at hx
      subst hx
      rw [HE1.out.1, HE1.out.2]
      obtain ⟨w7, hw7⟩ : ∃ y, y = w6.alloc (.cells #[.int .i64 e, .int .i64 (R : Int), .int .i64 (S : Int), .int .i64 (T : Int)] 24) := ⟨_, rfl⟩
      have hb7 : Below w6.heap.size w6 w7 := by rw [hw7]; exact (Below.refl _ _).alloc (Nat.le_refl _) _
      have HZ7 : Hid (w7.heap[w6.heap.size]? = some (.cells #[.int .i64 e, .int .i64 (R : Int), .int .i64 (S : Int), .int .i64 (T : Int)] 24 (0, 0))) := hid (by rw [hw7]; exact heap_alloc_new w6 _)
      have HB6 : Hid (Below w.heap.size w w6) := hid (HB5.out.trans (hb6.mono HB5.out.size))
      have HB7 : Hid (Below w.heap.size w w7) := hid (HB6.out.trans (hb7.mono HB6.out.size))
      have HX7 := hid (row_below (row_below HX5.out hb6) hb7)
      have HY7 := hid (row_below (row_below HY5.out hb6) hb7)
      have HS7 := hid ((HS5.out.below hb6).below hb7)
      have HW7 := hid hw7
      clear q0 hb6 hb7 hw7 HB5 HX5 HY5 HS5 HB6 h17
      have q0 := cell_of_row w7 _ 0 _ _ _ HX7.out
      go_upto_region 9 with fail
      rw [← HW7.out]
      clear HW7
      go_wp2_with fail
      refine (slot_any e w7).mono ?_
      rintro x w7' ⟨rfl, rfl⟩
      have HD7 := hid (fdec_any _ a5 c5 bs (1 - (slot e : Nat)) w7 HS7.out HBY.out HC5.out)
      rw [HL.out] at HD7
      go_wp2_with fail
      refine HD7.out.mono ?_
      clear HD7
      rintro x w8 ⟨hx, hb8⟩
      unfold FlAns at hx
      subst hx
      rw [HE2.out]
      generalize flS bs (1 - (slot e : Nat)) = y
      obtain ⟨w9, hw9⟩ : ∃ u, u = w8.alloc (.cells #[.int .i64 y.e, .int .i64 y.r, .int .i64 y.s, .int .i64 y.t] 24) := ⟨_, rfl⟩
      have hb9 : Below w8.heap.size w8 w9 := by rw [hw9]; exact (Below.refl _ _).alloc (Nat.le_refl _) _
      have HB8 : Hid (Below w.heap.size w w8) := hid (HB7.out.trans (hb8.mono HB7.out.size))
      have HB9 : Hid (Below w.heap.size w w9) := hid (HB8.out.trans (hb9.mono HB8.out.size))
      have HX9 := hid (row_below (row_below HX7.out hb8) hb9)
      have HY9 := hid (row_below (row_below HY7.out hb8) hb9)
      have HZ9 := hid (row_below (row_below HZ7.out hb8) hb9)
      have HS9 := hid ((HS7.out.below hb8).below hb9)
      have HW9 := hid hw9
      clear q0 hb8 hb9 hw9 HB7 HX7 HY7 HZ7 HS7 HB8
      go_upto_region 10 with fail
      rw [← HW9.out]
      clear HW9
      go_wp2_with fail
      refine (flKnown_any w9).mono ?_
      rintro x w10 ⟨rfl, hb10⟩
      have HB10 : Hid (Below w.heap.size w w10) := hid (HB9.out.trans (hb10.mono HB9.out.size))
      have HX10 := hid (row_below HX9.out hb10)
      have HY10 := hid (row_below HY9.out hb10)
      have HZ10 := hid (row_below HZ9.out hb10)
      have HS10 := hid (HS9.out.below hb10)
      clear hb10 HB9 HX9 HY9 HZ9 HS9
      have q0 := cell_of_row w10 _ 0 _ _ _ HX10.out
      have q1 := cell_of_row w10 _ 1 _ _ _ HX10.out
      have q2 := cell_of_row w10 _ 2 _ _ _ HX10.out
      have q3 := cell_of_row w10 _ 3 _ _ _ HX10.out
      go_wp2_with fail
      refine (HRE.out w10).mono ?_
      rintro x w11 ⟨⟨v11, rfl, hv11⟩, hb11⟩
      obtain ⟨a11, c11, rfl, hs11, _, _, _⟩ := hv11
      have HSM := hid (same_self _ _ a5 a11 c5 c11 bs w11 (HS10.out.below hb11) hs11 (by rw [HL.out]; decide))
      rw [HL.out] at HSM ⊢
      have HB11 : Hid (Below w.heap.size w w11) := hid (HB10.out.trans (hb11.mono HB10.out.size))
      have HY11 := hid (row_below HY10.out hb11)
      have HZ11 := hid (row_below HZ10.out hb11)
      clear hb11 hs11 q0 q1 q2 q3 HB10 HX10 HY10 HZ10 HS10
      go_wp2_with fail
      refine HSM.out.mono ?_
      clear HSM
      rintro x w12 ⟨rfl, hb12⟩
      have HB12 : Hid (Below w.heap.size w w12) := hid (HB11.out.trans (hb12.mono HB11.out.size))
      have hy12 : w12.heap[w1.heap.size]? = _ := row_below HY11.out hb12
      have hz12 : w12.heap[w6.heap.size]? = _ := row_below HZ11.out hb12
      have y0 := cell_of_row w12 _ 0 _ _ _ hy12
      have y1 := cell_of_row w12 _ 1 _ _ _ hy12
      have y2 := cell_of_row w12 _ 2 _ _ _ hy12
      have y3 := cell_of_row w12 _ 3 _ _ _ hy12
      have z0 := cell_of_row w12 _ 0 _ _ _ hz12
      have z1 := cell_of_row w12 _ 1 _ _ _ hz12
      have z2 := cell_of_row w12 _ 2 _ _ _ hz12
      have z3 := cell_of_row w12 _ 3 _ _ _ hz12
      clear hb12 hy12 hz12 HB11 HY11 HZ11
      go_wp2_with fail
      go_ret
      exact ⟨rfl, HB12.out⟩
namespace flipBytes
open Go.ChangeShapes Go.WideShapes Go.ChangeAt

theorem own : ownKnob Try.prog.godebug = none := by kernel_rfl
theorem laidOut : laidOutB Try.prog = true := by kernel_rfl

set_option maxRecDepth 100000 in
theorem lifted (os : Os) (started : os.Started) (H : Type) (enc : TypeId × Value → H) :
    ReturnsInHanded {} Try.checked os 3 .any (Rows.flipBytesSpec.pre6 enc Try.prog Try.f3 Rows.flipBytesRow.domain false) (Rows.flipBytesSpec.post enc Try.prog Try.f3 false true false false) := by
  refine returnsInHanded_of_change (C := Try.checked) own started (by kernel_rfl) Try.func3
    (ChangeSpec.witness6 (enc := enc) (C := Try.checked) false ⟨#[], #[.agg #[.int .i64 0, .int .i64 0, .int .i64 0, .int .i64 0]], []⟩ 8 (by kernel_rfl) (by kernel_rfl) (by kernel_rfl) (by kernel_rfl)) ?_
  intro W base args ds gs before hval0 hW hcnd _
  have hval : ∀ (j : Nat) t v, Try.f3.params[j]? = some t → args[j]? = some v → Value.okWide Try.prog W .any base t v := hval0
  have hW' := hW
  obtain ⟨p, q, hA0, hV, rfl, hfz, hnd⟩ := hW
  have hA : DataW.TrodAll enc Try.prog W 0 (fun _ => true) true Try.f3.params.toList args.toList ds p := hA0
  rw [Try.params3] at hA hval
  obtain ⟨v0, vs0, d0, ds0, p0, q0, hargs, rfl, rfl, h0, r0⟩ := trodAll_cons hA
  obtain ⟨rfl, rfl, rfl⟩ := trodAll_nil r0
  obtain rfl : args = #[v0] := by cases args; simp_all
  obtain ⟨rfl, rfl⟩ := trodVars_none hV
  have k0 := h0
  have lt0 : ∀ x ∈ p0, x.block < W.heap.size := by obtain ⟨m, hm⟩ := k0; exact DataW.trod_lt m _ _ _ hm
  obtain ⟨s0, rfl, hf0⟩ := open_sup (hval 0 23 v0 rfl rfl) h0
  clear hA0 hval0
  refine (flipBytes_walk s0.e s0.r s0.s s0.t W hf0).mono fun e W' ⟨he, bel⟩ => ?_
  subst he
  exact ⟨_, rfl, _, _, _, [], _, [], hW', trodAll_mk1 (shut_bool Try.underlying4 _), (trodAll_cons_mk (Below.trod laidOut (by kernel_rfl) (of_decide_eq_true (by kernel_rfl)) k0 bel lt0) trodAll_mk0), rfl, bel.frame _, fun h => by cases h⟩

/-- THE STATEMENT. -/
theorem proved : Rows.FlipBytesSaid :=
  OpenClaim.holds_of_wide 3 Try.f3 rfl rfl rfl rfl rfl rfl rfl ⟨rfl, rfl, rfl, rfl, rfl⟩ rfl rfl rfl rfl rfl (by kernel_rfl) Try.func3 (by kernel_rfl)
    (of_decide_eq_true (by kernel_rfl)) (by unfold Func.isWrapper; first | (rw [if_pos (by decide +kernel)]; kernel_rfl) | (rw [if_neg (by decide +kernel)]; exact ⟨rfl, rfl⟩))
    (fun os started H enc _ => lifted os started H enc)
end flipBytes
end Go.Proofs.Ytebacgkeolofmaa
