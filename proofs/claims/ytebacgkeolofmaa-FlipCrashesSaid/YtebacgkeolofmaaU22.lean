/- CONTRACTS: a superblock's page. CONTRACT: the superblock of a page's bytes (the program's). CONTRACTS: the one of the highest epoch, the first of several. CONTRACT: the superblock of a page's bytes (the document's). CONTRACT: the superblock that counts, of two pages (the document's). -/
import Derived.Test.YtebacgkeolofmaaU19
import Derived.Test.YtebacgkeolofmaaU14
import Derived.Test.YtebacgkeolofmaaU20
import Derived.Test.YtebacgkeolofmaaU21
import Derived.Test.YtebacgkeolofmaaU15
namespace Go.Proofs.Ytebacgkeolofmaa
open Go.RowKit Go.Inc

/-- What Encode answers: its error, and the bytes where there is none. -/
def FEncAns (x : Sp) (B : Nat) (r : Ending) (w' : World) : Prop := ∃ v, r = .returned (.tuple #[v, .int .i64 (spChk x : Nat)]) ∧ Bb (fun b => B ≤ b) w' v (if spChk x = 0 then spEnc x else [])
set_option maxRecDepth 20000 in
set_option maxHeartbeats 4000000 in
theorem fenc_any (e r s t : Int) (w : World) :
    Calls Try.prog 9 #[.agg #[.int .i64 e, .int .i64 r, .int .i64 s, .int .i64 t]] w fun x w' => FEncAns ⟨e, r, s, t⟩ w.heap.size x w' ∧ Below w.heap.size w w' := by
  obtain ⟨w1, hw1⟩ : ∃ w1, w1 = w.alloc (.cells #[.int .i64 e, .int .i64 r, .int .i64 s, .int .i64 t] 24) := ⟨_, rfl⟩
  have hb1 : Below w.heap.size w w1 := by rw [hw1]; exact (Below.refl _ _).alloc (Nat.le_refl _) _
  have hrow : w1.heap[w.heap.size]? = some (.cells #[.int .i64 e, .int .i64 r, .int .i64 s, .int .i64 t] 24 (0, 0)) := by rw [hw1]; exact heap_alloc_new w _
  have HB1 := hid hb1
  have HR1 := hid hrow
  have HW1 := hid hw1
  clear hb1 hrow hw1
  go_enter Try.func9, Try.ntmps9
  go_upto_region 1 with fail
  rw [← HW1.out]
  refine wp_region_lit ?_
  refine wpList_load_row rfl 24 _ rfl w.heap.size rfl 24 _ _ _ HR1.out Try.underlying24 rfl (by kernel_rfl) ?_
  go_wp2_with fail
  refine (fcheck_any e r s t w1).mono ?_
  rintro x w3 ⟨rfl, hb3⟩
  have HB3 : Hid (Below w.heap.size w w3) := hid (HB1.out.trans (hb3.mono HB1.out.size))
  have HR3 := hid (row_below HR1.out hb3)
  clear hb3 HB1 HR1
  by_cases hq : spChk ⟨e, r, s, t⟩ = 0
  · have HOK := hid ((spOk_iff _).1 ((spChk_zero _).1 hq))
    have HFR : Hid ((spFr ⟨e, r, s, t⟩).ok) := hid (spFr_ok ((spChk_zero _).1 hq))
    have HQ := hid hq
    have h1 : 1 ≤ e := HOK.out.1.1
    have h2 : e ≤ 4294967295 := HOK.out.1.2
    have HP : Hid (0 ≤ r ∧ r ≤ 4294967295 ∧ 0 ≤ s ∧ s ≤ 4294967295 ∧ 0 ≤ t ∧ t ≤ 4294967295) := hid (by
      have h := HOK.out
      dsimp only at h
      omega)
    have HCHK : Hid (chk (spFr ⟨e, r, s, t⟩) = 0) := hid (chk_ok HFR.out)
    rw [hq]
    clear hq
    go_upto_region 4 with fail
    have HSZ : Hid (w.heap.size ≤ w3.drew.heap.size) := hid HB3.out.size
    have HC : Hid (∀ x, Grew w3.drew x → x.cell? ⟨w.heap.size, 0, none⟩ = some (.int .i64 e) ∧ x.heap[w.heap.size]? = some (.cells #[.int .i64 e, .int .i64 r, .int .i64 s, .int .i64 t] 24 (0, 0))) := hid fun x hx => by
      have hr : x.heap[w.heap.size]? = _ := row_below (w := w3.drew) HR3.out hx
      exact ⟨cell_of_row x _ 0 _ _ _ hr, hr⟩
    refine wp_region_grows 13 [Eqv' (.pointer (some ⟨w.heap.size, 0, none⟩)), Eqv' (.int .i64 e), Eqv' (.pointer (some ⟨w.heap.size, 0, none⟩)), Eqv' (.int .i64 e), Eqv' (.int .i64 (slot e : Nat)), Eqv' (.agg #[.int .i64 e, .int .i64 r, .int .i64 s, .int .i64 t]), (fun x v => Bb (fun _ => True) x v (body ⟨e, r, s, t⟩)),
      (fun x v => ∃ a' c', v = .agg #[.int .i64 1, .int .i64 e, .int .i64 (slot e : Nat), .slice a' 8 c'] ∧ Sl (fun _ => True) x a' (body ⟨e, r, s, t⟩) ∧ 8 ≤ c' ∧ c' ≤ maxLen ∧ (a' = none → c' = 0)), (fun x v => ∃ u, v = .tuple #[u, .int .i64 0] ∧ Bb (fun b => w.heap.size ≤ b) x u (spEnc ⟨e, r, s, t⟩)), (fun x v => Bb (fun b => w.heap.size ≤ b) x v (spEnc ⟨e, r, s, t⟩)), Eqv' (.int .i64 0), (fun x v => Bb (fun b => w.heap.size ≤ b) x v (spEnc ⟨e, r, s, t⟩)), Eqv' (.int .i64 0)] (by kernel_rfl) (by decide) (by kernel_rfl) ?_ ?_ ?_
    · repeat' (first | exact List.forall_mem_nil _ | refine List.forall_mem_cons.2 ⟨?_, ?_⟩)
      all_goals
        intro w w' v hw h
        first | exact h | exact Bb.below h hw | (obtain ⟨a', c', rfl, h1, h2⟩ := h; exact ⟨a', c', rfl, h1.below hw, h2⟩) | (obtain ⟨u, rfl, h1⟩ := h; exact ⟨u, rfl, h1.below hw⟩)
    · simp only [AllLt]
      refine ⟨⟨⟨⟨⟨⟨⟨⟨⟨⟨⟨⟨⟨trivial, ?_⟩, ?_⟩, ?_⟩, ?_⟩, ?_⟩, ?_⟩, ?_⟩, ?_⟩, ?_⟩, ?_⟩, ?_⟩, ?_⟩, ?_⟩
      all_goals
        intro o' ho
        simp at ho
        subst ho
        intro ρ w2 hR hL hS hG
        obtain ⟨hl1, hl2, -⟩ := hL
      · refine plainG rfl ?_
        intro bA K Q' hK
        have e1 := hS 1 (by kernel_rfl)
        change ρ (.tmp 1) = _ at e1
        simp only [execOp]
        go_simp
        exact hK _ _ rfl (Grew.refl _)
      · refine plainG rfl ?_
        intro bA K Q' hK
        have e10 := hG 0 10 (by decide) (by kernel_rfl) (by kernel_rfl)
        change ρ (.tmp 10) = _ at e10
        have q0 := (HC.out w2 hR).1
        simp only [execOp]
        go_simp
        exact hK _ _ rfl (Grew.refl _)
      · refine plainG rfl ?_
        intro bA K Q' hK
        have e1 := hS 1 (by kernel_rfl)
        change ρ (.tmp 1) = _ at e1
        simp only [execOp]
        go_simp
        exact hK _ _ rfl (Grew.refl _)
      · refine plainG rfl ?_
        intro bA K Q' hK
        have e12 := hG 2 12 (by decide) (by kernel_rfl) (by kernel_rfl)
        change ρ (.tmp 12) = _ at e12
        have q0 := (HC.out w2 hR).1
        simp only [execOp]
        go_simp
        exact hK _ _ rfl (Grew.refl _)
      · refine plainG rfl ?_
        intro bA K Q' hK
        have e13 := hG 3 13 (by decide) (by kernel_rfl) (by kernel_rfl)
        change ρ (.tmp 13) = _ at e13
        simp only [execOp]
        go_simp
        refine (slot_any e w2).mono ?_
        rintro r9 w3 ⟨rfl, rfl⟩
        exact hK _ _ rfl (Grew.refl _)
      · refine plainG rfl ?_
        intro bA K Q' hK
        have e1 := hS 1 (by kernel_rfl)
        change ρ (.tmp 1) = _ at e1
        have hr := (HC.out w2 hR).2
        have e1' : ρ (.tmp 1) = .pointer (some ⟨w.heap.size, 0, none⟩) := e1
        simp only [execOp]
        rw [e1']
        simp only [Instr.loadAt, Instr.sureAddr, Sem.run_bind, Sem.run_pure, Result.andThen_ok, run_loadVar_row w2 w.heap.size 24 24 _ (0, 0) _ hr Try.underlying24 rfl (by kernel_rfl)]
        exact hK _ _ rfl (Grew.refl _)
      · refine plainG rfl ?_
        intro bA K Q' hK
        have e15 := hG 5 15 (by decide) (by kernel_rfl) (by kernel_rfl)
        change ρ (.tmp 15) = _ at e15
        simp only [execOp]
        go_simp
        refine (flay_any e r s t w2 HP.out.1 HP.out.2.1 HP.out.2.2.1 HP.out.2.2.2.1 HP.out.2.2.2.2.1 HP.out.2.2.2.2.2).mono ?_
        rintro r9 w3 ⟨v3, rfl, hv3, hb3⟩
        exact hK _ _ (hv3.bb.mono fun _ _ _ => trivial) hb3
      · refine plainG rfl ?_
        intro bA K Q' hK
        have e11 := hG 1 11 (by decide) (by kernel_rfl) (by kernel_rfl)
        have e14 := hG 4 14 (by decide) (by kernel_rfl) (by kernel_rfl)
        have e16 := hG 6 16 (by decide) (by kernel_rfl) (by kernel_rfl)
        change ρ (.tmp 11) = _ at e11
        change ρ (.tmp 14) = _ at e14
        obtain ⟨a1, c1, e16, hs1, hc1, hm1, hn1⟩ := e16
        rw [body_len] at e16 hc1
        simp only [execOp]
        go_simp
        exact hK _ _ ⟨a1, c1, rfl, hs1, hc1, hm1, hn1⟩ (Grew.refl _)
      · refine plainG rfl ?_
        intro bA K Q' hK
        have e17 := hG 7 17 (by decide) (by kernel_rfl) (by kernel_rfl)
        obtain ⟨a1, c1, e17, hs1, hc1, hm1, hn1⟩ := e17
        simp only [execOp]
        go_simp
        have he := encode_any _ 1 e (slot e : Nat) a1 c1 (body ⟨e, r, s, t⟩) w2 hs1 (body_bytes _) ⟨hc1, hm1⟩ hn1
        rw [body_len] at he
        refine he.mono ?_
        rintro r9 w3 ⟨⟨v3, rfl, hv3⟩, hb3⟩
        have h0 : chk ⟨1, e, ((slot e : Nat) : Int), body ⟨e, r, s, t⟩⟩ = 0 := HCHK.out
        rw [h0, if_pos rfl] at hv3
        rw [h0]
        exact hK _ _ ⟨v3, rfl, hv3.mono fun b h _ => Nat.le_trans (Nat.le_trans HSZ.out hR.size) h⟩ hb3
      · refine plainG rfl ?_
        intro bA K Q' hK
        have e18 := hG 8 18 (by decide) (by kernel_rfl) (by kernel_rfl)
        obtain ⟨u, e18, hu⟩ := e18
        simp only [execOp]
        go_simp
        exact hK _ _ hu (Grew.refl _)
      · refine plainG rfl ?_
        intro bA K Q' hK
        have e18 := hG 8 18 (by decide) (by kernel_rfl) (by kernel_rfl)
        obtain ⟨u, e18, hu⟩ := e18
        simp only [execOp]
        go_simp
        exact hK _ _ rfl (Grew.refl _)
      · refine plainG rfl ?_
        intro bA K Q' hK
        have e19 := hG 9 19 (by decide) (by kernel_rfl) (by kernel_rfl)
        simp only [execOp]
        go_simp
        exact hK _ _ e19 (Grew.refl _)
      · refine plainG rfl ?_
        intro bA K Q' hK
        have e20 := hG 10 20 (by decide) (by kernel_rfl) (by kernel_rfl)
        change ρ (.tmp 20) = _ at e20
        simp only [execOp]
        go_simp
        exact hK _ _ rfl (Grew.refl _)
    · intro v w2 hR hG
      have h3 : v 12 = .int .i64 0 := hG.2
      have HV : Hid (Bb (fun b => w.heap.size ≤ b) w2 (v 11) (spEnc ⟨e, r, s, t⟩)) := hid hG.1.2
      have HB2 : Hid (Below w.heap.size w w2) := hid (Grew.on HB3.out hR)
      clear hG hR HC
      simp [stG, stU, dstAt, Act.put, h3]
      go_wp2_with fail
      go_ret2
      exact ⟨⟨v 11, by rw [HQ.out]; rfl, by rw [HQ.out, if_pos rfl]; exact HV.out⟩, HB2.out⟩
  · have h10 : spChk ⟨e, r, s, t⟩ = 10 := by have := spChk_cases ⟨e, r, s, t⟩; omega
    have HQ := hid h10
    rw [h10]
    clear h10 hq
    go_wp2_with fail
    go_ret2
    exact ⟨⟨.slice none 0 0, by rw [HQ.out]; rfl, by rw [HQ.out, if_neg (by decide)]; exact ⟨none, 0, rfl, Sl.nil _ _ _, Nat.le_refl _, Nat.zero_le _, fun _ => rfl⟩⟩, HB3.out⟩
theorem body_cells (e : Int) (R S T : Nat) (hR : (R : Int) ≤ 2047) (hS : (S : Int) ≤ 2047) (hT : (T : Int) ≤ 2147483647) : ((body ⟨e, (R : Int), (S : Int), (T : Int)⟩).map fun x : Nat => Value.int .u8 (x : Int)).toArray =
    #[.int .u8 ((R : Int) % 256), .int .u8 ((R : Int) / 256), .int .u8 ((S : Int) % 256), .int .u8 ((S : Int) / 256), .int .u8 ((T : Int) % 256), .int .u8 ((T : Int) / 256 % 256), .int .u8 ((T : Int) / 65536 % 256), .int .u8 ((T : Int) / 16777216)] := by
  have h1 : R / 256 % 256 = R / 256 := Nat.mod_eq_of_lt (by omega)
  have h2 : S / 256 % 256 = S / 256 := Nat.mod_eq_of_lt (by omega)
  have h3 : T / 16777216 % 256 = T / 16777216 := Nat.mod_eq_of_lt (by omega)
  simp [body, fr2, fr4, h1, h2, h3]
set_option maxRecDepth 20000 in
set_option maxHeartbeats 4000000 in
theorem refFEnc_any (e : Int) (R S T : Nat) (w : World) (hok : Sp.ok ⟨e, (R : Int), (S : Int), (T : Int)⟩ = true) :
    Calls Try.prog 17 #[.agg #[.int .i64 e, .int .i64 (R : Int), .int .i64 (S : Int), .int .i64 (T : Int)]] w fun x w' => (∃ v, x = .returned v ∧ Bb (fun b => w.heap.size ≤ b) w' v (spEnc ⟨e, (R : Int), (S : Int), (T : Int)⟩)) ∧ Below w.heap.size w w' := by
  have hp := (spOk_iff _).1 hok
  have HCHK : Hid (chk ⟨1, e, ((slot e : Nat) : Int), body ⟨e, (R : Int), (S : Int), (T : Int)⟩⟩ = 0) := hid (chk_ok (spFr_ok hok))
  dsimp only at hp
  have h1 : 1 ≤ e := hp.1.1
  have h2 : e ≤ 4294967295 := hp.1.2
  have hR1 : (R : Int) ≤ 2047 := by omega
  have hS1 : (S : Int) ≤ 2047 := by omega
  have hT1 : (T : Int) ≤ 2147483647 := by omega
  clear hp hok
  go_enter Try.func17, Try.ntmps17
  go_upto_region 2 with fail
  obtain ⟨w3, hw3⟩ : ∃ w3, w3 = ((w.alloc (.cells #[.int .i64 e, .int .i64 (R : Int), .int .i64 (S : Int), .int .i64 (T : Int)] 23)).alloc (.cells #[.int .u8 ((R : Int) % 256), .int .u8 ((R : Int) / 256), .int .u8 ((S : Int) % 256), .int .u8 ((S : Int) / 256), .int .u8 ((T : Int) % 256), .int .u8 ((T : Int) / 256 % 256), .int .u8 ((T : Int) / 65536 % 256), .int .u8 ((T : Int) / 16777216)] 5)) := ⟨_, rfl⟩
  have hb3 : Below w.heap.size w w3 := by rw [hw3]; exact ((Below.refl _ _).alloc (Nat.le_refl _) _).alloc (by simp) _
  have hrow : w3.heap[w.heap.size]? = some (.cells #[.int .i64 e, .int .i64 (R : Int), .int .i64 (S : Int), .int .i64 (T : Int)] 23 (0, 0)) := by rw [hw3]; exact heap_alloc2_old w _ _
  have hbody : w3.heap[w.heap.size + 1]? = some (.cells ((body ⟨e, (R : Int), (S : Int), (T : Int)⟩).map fun x : Nat => Value.int .u8 (x : Int)).toArray 5 (0, 0)) := by rw [hw3, body_cells e R S T hR1 hS1 hT1]; exact heap_alloc2_new w _ _
  have HB3 := hid hb3
  have HR3 := hid hrow
  have HSL3 := hid (Sl.row _ hbody)
  rw [← hw3]
  clear hb3 hrow hbody hw3
  have HSZ : Hid (w.heap.size ≤ w3.drew.heap.size) := hid HB3.out.size
  have HC : Hid (∀ x, Grew w3.drew x → x.cell? ⟨w.heap.size, 0, none⟩ = some (.int .i64 e)) := hid fun x hx => by
    have hr : x.heap[w.heap.size]? = _ := row_below (w := w3.drew) HR3.out hx
    exact cell_of_row x _ 0 _ _ _ hr
  have HSL : Hid (∀ x, Grew w3.drew x → Sl _ x _ _) := hid fun x hx => Sl.below (w := w3.drew) HSL3.out hx
  refine wp_region_grows 8 [Eqv' (.pointer (some ⟨w.heap.size, 0, none⟩)), Eqv' (.int .i64 e), Eqv' (.pointer (some ⟨w.heap.size, 0, none⟩)), Eqv' (.int .i64 e), Eqv' (.int .i64 (slot e : Nat)), Eqv' (.slice (some ⟨w.heap.size + 1, 0, none⟩) 8 8), Eqv' (.agg #[.int .i64 1, .int .i64 e, .int .i64 (slot e : Nat), .slice (some ⟨w.heap.size + 1, 0, none⟩) 8 8]), (fun x v => Bb (fun b => w.heap.size ≤ b) x v (spEnc ⟨e, (R : Int), (S : Int), (T : Int)⟩))] (by kernel_rfl) (by decide) (by kernel_rfl) ?_ ?_ ?_
  · repeat' (first | exact List.forall_mem_nil _ | refine List.forall_mem_cons.2 ⟨?_, ?_⟩)
    all_goals
      intro w w' v hw h
      first | exact h | exact Bb.below h hw
  · simp only [AllLt]
    refine ⟨⟨⟨⟨⟨⟨⟨⟨trivial, ?_⟩, ?_⟩, ?_⟩, ?_⟩, ?_⟩, ?_⟩, ?_⟩, ?_⟩
    all_goals
      intro o' ho
      simp at ho
      subst ho
      intro ρ w2 hR hL hS hG
      obtain ⟨hl1, hl2, -⟩ := hL
    · refine plainG rfl ?_
      intro bA K Q' hK
      have e1 := hS 1 (by kernel_rfl)
      change ρ (.tmp 1) = _ at e1
      simp only [execOp]
      go_simp
      exact hK _ _ rfl (Grew.refl _)
    · refine plainG rfl ?_
      intro bA K Q' hK
      have e39 := hG 0 39 (by decide) (by kernel_rfl) (by kernel_rfl)
      change ρ (.tmp 39) = _ at e39
      have q0 := HC.out w2 hR
      simp only [execOp]
      go_simp
      exact hK _ _ rfl (Grew.refl _)
    · refine plainG rfl ?_
      intro bA K Q' hK
      have e1 := hS 1 (by kernel_rfl)
      change ρ (.tmp 1) = _ at e1
      simp only [execOp]
      go_simp
      exact hK _ _ rfl (Grew.refl _)
    · refine plainG rfl ?_
      intro bA K Q' hK
      have e41 := hG 2 41 (by decide) (by kernel_rfl) (by kernel_rfl)
      change ρ (.tmp 41) = _ at e41
      have q0 := HC.out w2 hR
      simp only [execOp]
      go_simp
      exact hK _ _ rfl (Grew.refl _)
    · refine plainG rfl ?_
      intro bA K Q' hK
      have e42 := hG 3 42 (by decide) (by kernel_rfl) (by kernel_rfl)
      change ρ (.tmp 42) = _ at e42
      simp only [execOp]
      go_simp
      refine (refSlot_any e w2).mono ?_
      rintro r9 w3 ⟨rfl, rfl⟩
      exact hK _ _ rfl (Grew.refl _)
    · refine plainG rfl ?_
      intro bA K Q' hK
      have e3 := hS 3 (by kernel_rfl)
      change ρ (.tmp 3) = _ at e3
      simp only [execOp]
      go_simp
      exact hK _ _ rfl (Grew.refl _)
    · refine plainG rfl ?_
      intro bA K Q' hK
      have e40 := hG 1 40 (by decide) (by kernel_rfl) (by kernel_rfl)
      have e43 := hG 4 43 (by decide) (by kernel_rfl) (by kernel_rfl)
      have e44 := hG 5 44 (by decide) (by kernel_rfl) (by kernel_rfl)
      change ρ (.tmp 40) = _ at e40
      change ρ (.tmp 43) = _ at e43
      change ρ (.tmp 44) = _ at e44
      simp only [execOp]
      go_simp
      exact hK _ _ rfl (Grew.refl _)
    · refine plainG rfl ?_
      intro bA K Q' hK
      have e45 := hG 6 45 (by decide) (by kernel_rfl) (by kernel_rfl)
      change ρ (.tmp 45) = _ at e45
      have hsl := HSL.out w2 hR
      simp only [execOp]
      go_simp
      have he := refEnc_ok _ 1 e (slot e : Nat) _ 8 (body ⟨e, (R : Int), (S : Int), (T : Int)⟩) w2 HCHK.out hsl (body_bytes _) (fun h => by cases h)
      rw [body_len] at he
      refine he.mono ?_
      rintro r9 w3 ⟨v3, rfl, hv3, hb3⟩
      exact hK _ _ (hv3.bb.mono fun b h _ => Nat.le_trans (Nat.le_trans HSZ.out hR.size) h) hb3
  · intro v w2 hR hG
    have HV : Hid (Bb (fun b => w.heap.size ≤ b) w2 (v 7) (spEnc ⟨e, (R : Int), (S : Int), (T : Int)⟩)) := hid hG.2
    have HB2 : Hid (Below w.heap.size w w2) := hid (Grew.on HB3.out hR)
    clear hG hR HC HSL
    simp [stG, stU, dstAt, Act.put]
    go_wp2_with fail
    go_ret
    exact ⟨⟨v 7, rfl, HV.out⟩, HB2.out⟩
end Go.Proofs.Ytebacgkeolofmaa
namespace Go.Proofs.Ytebacgkeolofmaa
open Go.RowKit Go.Inc

theorem si_one (w : World) (z : Int) (T : TypeId) : Si (fun b => b = w.heap.size) (w.alloc (.cells #[.int .i64 z] T)) (some ⟨w.heap.size, 0, none⟩) [z] :=
  .inr ⟨_, _, rfl, rfl, fun i hi => by
    have h0 : i = 0 := by simp at hi; omega
    subst h0
    rw [cell_of_row _ w.heap.size _ _ _ _ (heap_alloc_new w _)]; rfl⟩
def FlAns (bs : List Nat) (page : Int) (x : Ending) : Prop := x = .returned (.tuple #[.agg #[.int .i64 (flS bs page).e, .int .i64 (flS bs page).r, .int .i64 (flS bs page).s, .int .i64 (flS bs page).t], .int .i64 (flE bs page : Nat)])
theorem FlAns.bad {bs : List Nat} {page : Int} {n : Nat} {z : Int} (h : flE bs page = n) (h0 : n ≠ 0) (hz : z = (n : Int)) : FlAns bs page (.returned (.tuple #[.agg #[.int .i64 0, .int .i64 0, .int .i64 0, .int .i64 0], .int .i64 z])) := by
  unfold FlAns
  rw [flS_bad (by omega), h, hz]
  rfl
theorem FlAns.good {bs : List Nat} {page : Int} (h : flE bs page = 0) : FlAns bs page (.returned (.tuple #[.agg #[.int .i64 (decF bs).e, .int .i64 (Var.num (frAt (decF bs).b 0 2) : Nat), .int .i64 (Var.num (frAt (decF bs).b 2 2) : Nat), .int .i64 (Var.num (frAt (decF bs).b 4 4) : Nat)], .int .i64 0])) := by
  unfold FlAns flS
  rw [if_pos h, h]
  rfl
theorem flE_far {bs : List Nat} {page : Int} (h : page < 0 ∨ 2 ≤ page) : flE bs page = 10 := by unfold flE; rw [if_neg (by omega)]
theorem flE_opn {bs : List Nat} {page : Int} (h : 0 ≤ page ∧ page < 2) (h0 : opnE bs page [1] ≠ 0) : flE bs page = opnE bs page [1] := by
  unfold flE
  rw [if_pos (by omega), if_pos h0]
theorem flE_in {bs : List Nat} {page : Int} (h : 0 ≤ page ∧ page < 2) (h0 : opnE bs page [1] = 0) : flE bs page = if (decF bs).b.length = 8 ∧ ((slot (decF bs).e : Nat) : Int) = page ∧ (spOf (decF bs).e (decF bs).b).ok = true then 0 else 3 := by
  unfold flE
  rw [if_pos (by omega), if_neg (by omega)]
theorem opnE_dec {bs : List Nat} {page : Int} {kinds : List Int} (h : opnE bs page kinds = 0) : decE bs = 0 := by
  unfold opnE at h
  split at h
  · rename_i h1; exact absurd h h1
  · rename_i h1; omega
theorem decF_body {bs : List Nat} (h : decE bs = 0) (hb : Bytes bs) : Bytes (decF bs).b ∧ (decF bs).b.length ≤ 238 ∧ 0 ≤ (decF bs).e ∧ (decF bs).e ≤ 4294967295 := by
  obtain ⟨_, _, hok, _⟩ := decE_zero h
  rw [decF_ok h]
  exact ⟨picked_bytes hb, hok.2.2.2.2.2.2, hok.2.2.1, hok.2.2.2.1⟩
theorem res15 (w : World) (g : Nat) (cs : Array Value) (tmps : Array Value) (h2 : tmps.getD 4 undef = .pointer (some ⟨g, 0, none⟩)) (hg : w.heap[g]? = some (.cells cs 24 (0, 0))) (hs : cs.size = 4) :
    (results Try.f15 tmps).run Try.prog w = .ok (.tuple #[.agg cs, tmps.getD 5 undef]) w :=
  res_cell_tmp rfl tmps w g 24 cs (0, 0) _ h2 hg Try.underlying24 rfl (by rw [hs]; kernel_rfl)
set_option maxRecDepth 20000 in
set_option maxHeartbeats 4000000 in
theorem fdec_any (ok : Nat → Prop) (a : Option Addr) (c : Nat) (bs : List Nat) (page : Int) (w : World) (hs : Sl ok w a bs) (hby : Bytes bs) (hc : bs.length ≤ c ∧ c ≤ maxLen) :
    Calls Try.prog 15 #[.slice a bs.length c, .int .i64 page] w fun x w' => FlAns bs page x ∧ Below w.heap.size w w' := by
  obtain ⟨wb, hwb⟩ : ∃ wb, wb = w.alloc (.cells #[.int .i64 0, .int .i64 0, .int .i64 0, .int .i64 0] 24) := ⟨_, rfl⟩
  have hb : Below w.heap.size w wb := by rw [hwb]; exact (Below.refl _ _).alloc (Nat.le_refl _) _
  have hr : wb.heap[w.heap.size]? = some (.cells #[.int .i64 0, .int .i64 0, .int .i64 0, .int .i64 0] 24 (0, 0)) := by rw [hwb]; exact heap_alloc_new w _
  have hsz : wb.heap.size = w.heap.size + 1 := by rw [hwb]; simp
  have HB := hid hb
  have HR := hid hr
  have HWB := hid hwb
  have HSL := hid (hs.below hb)
  have HBY := hid hby
  have HCC := hid hc
  have HSZ := hid hsz
  clear hs hby hc hb hr hwb hsz
  by_cases h1 : page < 0
  · have HQ : Hid (flE bs page = 10) := hid (flE_far (.inl h1))
    go_enter Try.func15, Try.ntmps15
    go_upto_region 2 with fail
    rw [← HWB.out]
    refine wp_region_lit ?_
    refine wpList_plain rfl fun K hK => ?_
    go_simp
    refine hK _ _ ?_
    refine wpList_store_own rfl 24 _ _ rfl w.heap.size #[.int .i64 0, .int .i64 0, .int .i64 0, .int .i64 0] rfl rfl 24 _ HR.out (by kernel_rfl) rfl (by simp [Value.oneCell']) ?_
    intro w9 hr9 hg9
    have HR9 := hid hr9
    have HB9 : Hid (Below w.heap.size w w9) := hid (below_grown HB.out hg9 (Nat.le_refl _) HB.out.size)
    clear hr9 hg9
    go_wp2_with fail
    exact bodyPost_ret (v := .tuple #[.agg #[.int .i64 0, .int .i64 0, .int .i64 0, .int .i64 0], .int .i64 10]) (res15 _ _ _ _ rfl HR9.out rfl) rfl ⟨FlAns.bad HQ.out (by decide) rfl, HB9.out⟩
  by_cases h2 : 2 ≤ page
  · have HQ : Hid (flE bs page = 10) := hid (flE_far (.inr h2))
    have h1' : 0 ≤ page := by omega
    clear h1
    go_enter Try.func15, Try.ntmps15
    go_upto_region 2 with fail
    rw [← HWB.out]
    refine wp_region_lit ?_
    refine wpList_plain rfl fun K hK => ?_
    go_simp
    refine hK _ _ ?_
    refine wpList_store_own rfl 24 _ _ rfl w.heap.size #[.int .i64 0, .int .i64 0, .int .i64 0, .int .i64 0] rfl rfl 24 _ HR.out (by kernel_rfl) rfl (by simp [Value.oneCell']) ?_
    intro w9 hr9 hg9
    have HR9 := hid hr9
    have HB9 : Hid (Below w.heap.size w w9) := hid (below_grown HB.out hg9 (Nat.le_refl _) HB.out.size)
    clear hr9 hg9
    go_wp2_with fail
    exact bodyPost_ret (v := .tuple #[.agg #[.int .i64 0, .int .i64 0, .int .i64 0, .int .i64 0], .int .i64 10]) (res15 _ _ _ _ rfl HR9.out rfl) rfl ⟨FlAns.bad HQ.out (by decide) rfl, HB9.out⟩
  have h1' : 0 ≤ page := by omega
  have h2' : page < 2 := by omega
  clear h1 h2
  obtain ⟨w2, hw2⟩ : ∃ w2, w2 = wb.alloc (.cells #[.int .i64 1] 3) := ⟨_, rfl⟩
  have hb2 : Below wb.heap.size wb w2 := by rw [hw2]; exact (Below.refl _ _).alloc (Nat.le_refl _) _
  obtain ⟨F, hF⟩ : ∃ F, F = opnF bs page [1] := ⟨_, rfl⟩
  obtain ⟨q, hq⟩ : ∃ q, q = opnE bs page [1] := ⟨_, rfl⟩
  have HO : Hid (Calls Try.prog 36 #[.slice a bs.length c, .int .i64 page, .slice (some ⟨w.heap.size + 1, 0, none⟩) 1 1] w2 fun r w' => (∃ v, r = .returned (.tuple #[.agg #[.int .i64 F.k, .int .i64 F.e, .int .i64 F.p, v], .int .i64 (q : Nat)]) ∧ Bb (fun b => w2.heap.size ≤ b) w' v F.b) ∧ Below w2.heap.size w2 w') := hid (by
    have hk : Si (fun b => b = wb.heap.size) w2 (some ⟨w.heap.size + 1, 0, none⟩) [1] := by
      rw [hw2, ← HSZ.out]; exact si_one wb 1 _
    have h := open_any ok _ a c bs page (some ⟨w.heap.size + 1, 0, none⟩) 1 [1] w2 (HSL.out.below hb2) HBY.out HCC.out hk (by decide)
    unfold OpnAns OpnOk at h
    rw [← hF, ← hq] at h
    exact h)
  have HB2 : Hid (Below w.heap.size w w2) := hid (HB.out.trans (hb2.mono HB.out.size))
  have HR2 := hid (row_below HR.out hb2)
  have HW2 := hid hw2
  have HF := hid hF
  have HQ := hid hq
  clear hb2 hw2 hF hq HR HSL
  go_enter Try.func15, Try.ntmps15
  go_wp2_with fail
  rw [← HWB.out, ← HW2.out]
  refine HO.out.mono ?_
  clear HO HW2 HWB
  rintro x w3 ⟨⟨v, rfl, hv⟩, hb3⟩
  obtain ⟨a3, c3, rfl, hs3, hlc3, hm3, hn3⟩ := hv
  obtain ⟨w4, hw4⟩ : ∃ w4, w4 = w3.alloc (.cells #[.int .i64 F.k, .int .i64 F.e, .int .i64 F.p, .slice a3 F.b.length c3] 67) := ⟨_, rfl⟩
  have hb4 : Below w3.heap.size w3 w4 := by rw [hw4]; exact (Below.refl _ _).alloc (Nat.le_refl _) _
  have hr4 : w4.heap[w3.heap.size]? = some (.cells #[.int .i64 F.k, .int .i64 F.e, .int .i64 F.p, .slice a3 F.b.length c3] 67 (0, 0)) := by rw [hw4]; exact heap_alloc_new w3 _
  have HB3 : Hid (Below w.heap.size w w3) := hid (HB2.out.trans (hb3.mono HB2.out.size))
  have HB4 : Hid (Below w.heap.size w w4) := hid (HB3.out.trans (hb4.mono HB3.out.size))
  have HR4 : Hid (w4.heap[w.heap.size]? = _) := hid (row_below (row_below HR2.out hb3) hb4)
  have HF4 := hid hr4
  have HS4 := hid (hs3.below hb4)
  have HC4 : Hid (F.b.length ≤ c3 ∧ c3 ≤ maxLen) := hid ⟨hlc3, hm3⟩
  have HN4 := hid hn3
  have HW4 := hid hw4
  have f1 := cell_of_row w4 _ 1 _ _ _ hr4
  have f3 := cell_of_row w4 _ 3 _ _ _ hr4
  clear hs3 hlc3 hm3 hn3 hb3 hb4 hr4 hw4 HB2 HR2 HB HB3
  by_cases hq : q = 0
  · have ho : opnE bs page [1] = 0 := by rw [← HQ.out]; exact hq
    have HFE := hid (flE_in ⟨h1', h2'⟩ ho)
    have hFd : F = decF bs := by rw [HF.out]; unfold opnF; rw [if_pos ho]
    obtain ⟨hfb, hfl, hfe0, hfe1⟩ := decF_body (opnE_dec ho) HBY.out
    have HGOOD : Hid (flE bs page = 0 → FlAns bs page _) := hid FlAns.good
    rw [← hFd] at hfb hfl hfe0 hfe1 HFE HGOOD
    have HNUM := hid (numbers_any _ a3 c3 F.b w4 HS4.out hfb HC4.out HN4.out (by omega))
    rw [hq]
    clear hq ho HQ HF HS4 HC4 HN4 hfb hfl hFd
    go_wp2_with fail
    rw [← HW4.out]
    refine HNUM.out.mono ?_
    clear HNUM HW4
    rintro x w5 ⟨⟨z0, z1, z2, rfl, hz⟩, hb5⟩
    have HZ := hid hz
    have HB5 : Hid (Below w.heap.size w w5) := hid (HB4.out.trans (hb5.mono HB4.out.size))
    have HR5 := hid (row_below HR4.out hb5)
    have HF5 := hid (row_below HF4.out hb5)
    clear hz hb5 HB4 HR4 HF4 f1 f3
    have f1 := cell_of_row w5 _ 1 _ _ _ HF5.out
    go_upto_region 7 with fail
    obtain ⟨w6, hw6⟩ : ∃ w6, w6 = w5.alloc (.cells #[.int .i64 z0, .int .i64 z1, .int .i64 z2] 71) := ⟨_, rfl⟩
    have hb6 : Below w5.heap.size w5 w6 := by rw [hw6]; exact (Below.refl _ _).alloc (Nat.le_refl _) _
    have hl6 : w6.heap[w5.heap.size]? = some (.cells #[.int .i64 z0, .int .i64 z1, .int .i64 z2] 71 (0, 0)) := by rw [hw6]; exact heap_alloc_new w5 _
    have HB6 : Hid (Below w.heap.size w w6) := hid (HB5.out.trans (hb6.mono HB5.out.size))
    have HR6 := hid (row_below HR5.out hb6)
    have hf6 := row_below HF5.out hb6
    rw [← hw6]
    clear f1
    have f1 := cell_of_row w6 _ 1 _ _ _ hf6
    have l0 := cell_of_row w6 _ 0 _ _ _ hl6
    have l1 := cell_of_row w6 _ 1 _ _ _ hl6
    have l2 := cell_of_row w6 _ 2 _ _ _ hl6
    clear hb6 hf6 hl6 hw6 HB5 HR5 HF5
    go_upto_region 8 with fail
    obtain ⟨w7, hw7⟩ : ∃ w7, w7 = w6.alloc (.cells #[.int .i64 F.e, .int .i64 z0, .int .i64 z1, .int .i64 z2] 24) := ⟨_, rfl⟩
    have hb7 : Below w6.heap.size w6 w7 := by rw [hw7]; exact (Below.refl _ _).alloc (Nat.le_refl _) _
    have hs7 : w7.heap[w6.heap.size]? = some (.cells #[.int .i64 F.e, .int .i64 z0, .int .i64 z1, .int .i64 z2] 24 (0, 0)) := by rw [hw7]; exact heap_alloc_new w6 _
    have HB7 : Hid (Below w.heap.size w w7) := hid (HB6.out.trans (hb7.mono HB6.out.size))
    have HR7 := hid (row_below HR6.out hb7)
    have HS7 := hid hs7
    rw [← hw7]
    clear f1 l0 l1 l2 hb7 hs7 hw7 HB6 HR6
    by_cases h8 : F.b.length = 8
    · obtain ⟨rfl, rfl, rfl⟩ := HZ.out h8
      rw [decide_eq_true h8]
      have s0 := cell_of_row w7 _ 0 _ _ _ HS7.out
      have s1 := cell_of_row w7 _ 1 _ _ _ HS7.out
      have s2 := cell_of_row w7 _ 2 _ _ _ HS7.out
      have s3 := cell_of_row w7 _ 3 _ _ _ HS7.out
      have HFE : Hid (flE bs page = if ((slot F.e : Nat) : Int) = page ∧ (spOf F.e F.b).ok = true then 0 else 3) := hid (by rw [HFE.out]; simp only [h8, true_and])
      have HCK := hid (fcheck_any F.e (Var.num (frAt F.b 0 2) : Nat) (Var.num (frAt F.b 2 2) : Nat) (Var.num (frAt F.b 4 4) : Nat) w7)
      have HSP : Hid (spOf F.e F.b = ⟨F.e, (Var.num (frAt F.b 0 2) : Nat), (Var.num (frAt F.b 2 2) : Nat), (Var.num (frAt F.b 4 4) : Nat)⟩) := hid rfl
      clear h8 HZ
      generalize Var.num (frAt F.b 0 2) = n0 at *
      generalize Var.num (frAt F.b 2 2) = n1 at *
      generalize Var.num (frAt F.b 4 4) = n2 at *
      go_wp2_with fail
      refine HCK.out.mono ?_
      clear HCK
      rintro x w8 ⟨rfl, hb8⟩
      have HB8 : Hid (Below w.heap.size w w8) := hid (HB7.out.trans (hb8.mono HB7.out.size))
      have HR8 := hid (row_below HR7.out hb8)
      have HS8 := hid (row_below HS7.out hb8)
      have g0 := cell_of_row w8 _ 0 _ _ _ HS8.out
      clear hb8 s0 s1 s2 s3 HB7 HR7 HS7
      cases hok : Sp.ok ⟨F.e, (n0 : Int), (n1 : Int), (n2 : Int)⟩
      · have HQ : Hid (flE bs page = 3) := hid (by rw [HFE.out, HSP.out, if_neg (by rw [hok]; simp)])
        rw [spChk_no hok]
        clear hok HFE HGOOD HSP
        go_upto_region 9 with fail
        refine wp_region_lit ?_
        refine wpList_plain rfl fun K hK => ?_
        go_simp
        refine hK _ _ ?_
        refine wpList_store_own rfl 24 _ _ rfl w.heap.size #[.int .i64 0, .int .i64 0, .int .i64 0, .int .i64 0] rfl rfl 24 _ HR8.out (by kernel_rfl) rfl (by simp [Value.oneCell']) ?_
        intro w9 hr9 hg9
        have HR9 := hid hr9
        have HB9 : Hid (Below w.heap.size w w9) := hid (below_grown HB8.out hg9 (Nat.le_refl _) HB8.out.size)
        clear hr9 hg9
        go_wp2_with fail
        exact bodyPost_ret (v := .tuple #[.agg #[.int .i64 0, .int .i64 0, .int .i64 0, .int .i64 0], .int .i64 3]) (res15 _ _ _ _ rfl HR9.out rfl) rfl ⟨FlAns.bad HQ.out (by decide) rfl, HB9.out⟩
      · rw [spChk_ok hok]
        by_cases hp : ((slot F.e : Nat) : Int) = page
        · have HQ : Hid (flE bs page = 0) := hid (by rw [HFE.out, HSP.out, if_pos ⟨hp, hok⟩])
          have HP := hid hp
          have hp1 : (((slot F.e : Nat) : Int) != page) = false := by rw [bne_eq_false_iff_eq]; exact hp
          clear hok hp HFE HSP
          go_wp2_with fail
          refine (slot_any F.e w8).mono ?_
          rintro x w8' ⟨rfl, rfl⟩
          go_upto_region 10 with fail
          refine wp_region_lit ?_
          refine wpList_load_row rfl 24 _ rfl w6.heap.size rfl 24 _ _ _ HS8.out Try.underlying24 rfl (by kernel_rfl) ?_
          refine wpList_store_own rfl 24 _ _ rfl w.heap.size #[.int .i64 F.e, .int .i64 n0, .int .i64 n1, .int .i64 n2] rfl rfl 24 _ HR8.out (by kernel_rfl) rfl (by simp [Value.oneCell']) ?_
          intro w9 hr9 hg9
          have HR9 := hid hr9
          have HB9 : Hid (Below w.heap.size w w9) := hid (below_grown HB8.out hg9 (Nat.le_refl _) HB8.out.size)
          clear hr9 hg9
          go_wp2_with fail
          exact bodyPost_ret (v := .tuple #[.agg #[.int .i64 F.e, .int .i64 n0, .int .i64 n1, .int .i64 n2], .int .i64 0]) (res15 _ _ _ _ rfl HR9.out rfl) rfl ⟨HGOOD.out HQ.out, HB9.out⟩
        · have HQ : Hid (flE bs page = 3) := hid (by rw [HFE.out, if_neg (fun h => hp h.1)])
          have hp1 : (((slot F.e : Nat) : Int) != page) = true := by rw [bne_iff_ne]; exact hp
          clear hok hp HFE HGOOD HSP
          go_wp2_with fail
          refine (slot_any F.e w8).mono ?_
          rintro x w8' ⟨rfl, rfl⟩
          go_upto_region 9 with fail
          refine wp_region_lit ?_
          refine wpList_plain rfl fun K hK => ?_
          go_simp
          refine hK _ _ ?_
          refine wpList_store_own rfl 24 _ _ rfl w.heap.size #[.int .i64 0, .int .i64 0, .int .i64 0, .int .i64 0] rfl rfl 24 _ HR8.out (by kernel_rfl) rfl (by simp [Value.oneCell']) ?_
          intro w9 hr9 hg9
          have HR9 := hid hr9
          have HB9 : Hid (Below w.heap.size w w9) := hid (below_grown HB8.out hg9 (Nat.le_refl _) HB8.out.size)
          clear hr9 hg9
          go_wp2_with fail
          exact bodyPost_ret (v := .tuple #[.agg #[.int .i64 0, .int .i64 0, .int .i64 0, .int .i64 0], .int .i64 3]) (res15 _ _ _ _ rfl HR9.out rfl) rfl ⟨FlAns.bad HQ.out (by decide) rfl, HB9.out⟩
    · have HQ : Hid (flE bs page = 3) := hid (by rw [HFE.out, if_neg (fun h => h8 h.1)])
      rw [decide_eq_false h8]
      clear h8 HZ HFE HGOOD
      go_upto_region 9 with fail
      refine wp_region_lit ?_
      refine wpList_plain rfl fun K hK => ?_
      go_simp
      refine hK _ _ ?_
      refine wpList_store_own rfl 24 _ _ rfl w.heap.size #[.int .i64 0, .int .i64 0, .int .i64 0, .int .i64 0] rfl rfl 24 _ HR7.out (by kernel_rfl) rfl (by simp [Value.oneCell']) ?_
      intro w9 hr9 hg9
      have HR9 := hid hr9
      have HB9 : Hid (Below w.heap.size w w9) := hid (below_grown HB7.out hg9 (Nat.le_refl _) HB7.out.size)
      clear hr9 hg9
      go_wp2_with fail
      exact bodyPost_ret (v := .tuple #[.agg #[.int .i64 0, .int .i64 0, .int .i64 0, .int .i64 0], .int .i64 3]) (res15 _ _ _ _ rfl HR9.out rfl) rfl ⟨FlAns.bad HQ.out (by decide) rfl, HB9.out⟩
  · have HE0 : Hid (flE bs page = q) := hid (by rw [HQ.out]; exact flE_opn ⟨h1', h2'⟩ (by rw [← HQ.out]; exact hq))
    have hq1 : ((q : Int) != 0) = true := by rw [bne_iff_ne]; omega
    have HNE := hid hq
    clear hq HQ HF HS4 HC4 HN4 f1 f3
    go_upto_region 5 with fail
    rw [← HW4.out]
    refine wp_region_lit ?_
    refine wpList_plain rfl fun K hK => ?_
    go_simp
    refine hK _ _ ?_
    refine wpList_plain rfl fun K hK => ?_
    go_simp
    refine hK _ _ ?_
    refine wpList_store_own rfl 24 _ _ rfl w.heap.size #[.int .i64 0, .int .i64 0, .int .i64 0, .int .i64 0] rfl rfl 24 _ HR4.out (by kernel_rfl) rfl (by simp [Value.oneCell']) ?_
    intro w9 hr9 hg9
    have HR9 := hid hr9
    have HB9 : Hid (Below w.heap.size w w9) := hid (below_grown HB4.out hg9 (Nat.le_refl _) HB4.out.size)
    clear hr9 hg9
    go_wp2_with fail
    exact bodyPost_ret (v := .tuple #[.agg #[.int .i64 0, .int .i64 0, .int .i64 0, .int .i64 0], .int .i64 (q : Nat)]) (res15 _ _ _ _ rfl HR9.out rfl) rfl ⟨FlAns.bad HE0.out HNE.out rfl, HB9.out⟩
end Go.Proofs.Ytebacgkeolofmaa
namespace Go.Proofs.Ytebacgkeolofmaa
open Go.RowKit Go.Inc

def cmpI (a b : Int) : Int := if a < b then -1 else if b < a then 1 else 0
theorem cmpI_pos (a b : Int) : decide (0 < cmpI a b) = decide (b < a) := by
  unfold cmpI
  by_cases h : a < b
  · rw [if_pos h, decide_eq_false (by omega), decide_eq_false (by omega)]
  · rw [if_neg h]
    by_cases h2 : b < a
    · rw [if_pos h2, decide_eq_true (by omega), decide_eq_true h2]
    · rw [if_neg h2, decide_eq_false (by omega), decide_eq_false h2]
theorem isNaN_any (a : Int) (w : World) : Calls Try.prog 87 #[.int .i64 a] w fun x w' => x = .returned (.bool false) ∧ w = w' := by
  go_enter Try.func87, Try.ntmps87
  go_wp2_with fail
  go_ret
  exact ⟨by simp, rfl⟩
theorem compare_any (a b : Int) (w : World) : Calls Try.prog 73 #[.int .i64 a, .int .i64 b] w fun x w' => x = .returned (.int .i64 (cmpI a b)) ∧ w = w' := by
  have hc : (a < b ∧ cmpI a b = -1) ∨ (b < a ∧ ¬ a < b ∧ cmpI a b = 1) ∨ (¬ a < b ∧ ¬ b < a ∧ cmpI a b = 0) := by
    unfold cmpI
    by_cases h : a < b
    · exact .inl ⟨h, if_pos h⟩
    · by_cases h2 : b < a
      · exact .inr (.inl ⟨h2, h, by rw [if_neg h, if_pos h2]⟩)
      · exact .inr (.inr ⟨h, h2, by rw [if_neg h, if_neg h2]⟩)
  generalize cmpI a b = q at *
  rcases hc with ⟨h1, h⟩ | ⟨h1, h2, h⟩ | ⟨h1, h2, h⟩
  all_goals
    have HQ := hid h
    clear h
    go_enter Try.func73, Try.ntmps73
    go_wp2_with fail
    refine (isNaN_any a w).mono ?_
    rintro x w2 ⟨rfl, rfl⟩
    go_wp2_with fail
    refine (isNaN_any b w).mono ?_
    rintro x w2 ⟨rfl, rfl⟩
    go_wp2_with fail
    go_ret
    exact ⟨by rw [HQ.out]; rfl, rfl⟩
theorem byEpoch_any (x y : Sp) (w : World) : Calls Try.prog 48 #[.agg #[.int .i64 (x).e, .int .i64 (x).r, .int .i64 (x).s, .int .i64 (x).t], .agg #[.int .i64 (y).e, .int .i64 (y).r, .int .i64 (y).s, .int .i64 (y).t]] w fun r w' => r = .returned (.int .i64 (cmpI x.e y.e)) ∧ Below w.heap.size w w' := by
  obtain ⟨e, r, s, t⟩ := x
  obtain ⟨e', r', s', t'⟩ := y
  have HB : Hid (Below w.heap.size w ((w.alloc (.cells #[.int .i64 e, .int .i64 r, .int .i64 s, .int .i64 t] 24)).alloc (.cells #[.int .i64 e', .int .i64 r', .int .i64 s', .int .i64 t'] 24))) := hid (((Below.refl _ _).alloc (Nat.le_refl _) _).alloc (by simp) _)
  go_enter Try.func48, Try.ntmps48
  go_wp2_with fail
  refine (compare_any e e' _).mono ?_
  rintro x w2 ⟨rfl, rfl⟩
  go_wp2_with fail
  go_ret
  exact ⟨rfl, HB.out⟩

/-- Superblocks as cells. -/
def scells (l : List Sp) : List Value := l.flatMap fun x => [.int .i64 (x).e, .int .i64 (x).r, .int .i64 (x).s, .int .i64 (x).t]
theorem scells_len (l : List Sp) : (scells l).length = l.length * 4 := by
  induction l with
  | nil => rfl
  | cons x l ih => unfold scells at ih ⊢; rw [List.flatMap_cons, List.length_append, ih]; simp; omega
theorem scells_append (l m : List Sp) : scells (l ++ m) = scells l ++ scells m := by unfold scells; rw [List.flatMap_append]
theorem scells_get {l : List Sp} {i : Nat} {x : Sp} (h : l[i]? = some x) : (scells l)[i * 4]? = some (.int .i64 x.e) ∧ (scells l)[i * 4 + 1]? = some (.int .i64 x.r) ∧ (scells l)[i * 4 + 2]? = some (.int .i64 x.s) ∧ (scells l)[i * 4 + 3]? = some (.int .i64 x.t) := by
  have hi : i < l.length := (List.getElem?_eq_some_iff.1 h).1
  have hsp : l = l.take i ++ [x] ++ l.drop (i + 1) := by
    have h1 := (List.take_append_drop i l).symm
    have h2 : l.drop i = x :: l.drop (i + 1) := by rw [List.drop_eq_getElem_cons hi]; congr 1; exact (List.getElem?_eq_some_iff.1 h).2
    rw [h2] at h1
    rw [List.append_assoc]
    exact h1
  have hl : (scells (l.take i)).length = i * 4 := by rw [scells_len, List.length_take]; congr 1; omega
  have key : ∀ j v, j < 4 → (scells [x])[j]? = some v → (scells l)[i * 4 + j]? = some v := by
    intro j v hj hv
    rw [hsp, scells_append, scells_append, List.append_assoc, List.getElem?_append_right (by omega), hl, Nat.add_sub_cancel_left, List.getElem?_append_left (by rw [scells_len]; simpa using hj)]
    exact hv
  exact ⟨key 0 _ (by omega) rfl, key 1 _ (by omega) rfl, key 2 _ (by omega) rfl, key 3 _ (by omega) rfl⟩
/-- A slice of superblocks, in blocks that are ok. -/
def SpS (ok : Nat → Prop) (w : World) (a : Option Addr) (l : List Sp) : Prop := l = [] ∨ ∃ b o, a = some ⟨b, o, none⟩ ∧ ok b ∧ ∀ i x, l[i]? = some x → w.cell? ⟨b, o + i * 4, none⟩ = some (.int .i64 x.e) ∧ w.cell? ⟨b, o + i * 4 + 1, none⟩ = some (.int .i64 x.r) ∧ w.cell? ⟨b, o + i * 4 + 2, none⟩ = some (.int .i64 x.s) ∧ w.cell? ⟨b, o + i * 4 + 3, none⟩ = some (.int .i64 x.t)
theorem SpS.mono {ok ok' : Nat → Prop} {w : World} {a : Option Addr} {l : List Sp} (h : SpS ok w a l) (hk : ∀ b, ok b → b < w.heap.size → ok' b) : SpS ok' w a l := by
  rcases h with h | ⟨b, o, h1, h2, h3⟩
  · exact .inl h
  · by_cases hl : l = []
    · exact .inl hl
    · obtain ⟨x, hx⟩ : ∃ x, l[0]? = some x := ⟨l.head hl, by cases l with | nil => exact absurd rfl hl | cons y ys => rfl⟩
      exact .inr ⟨b, o, h1, hk b h2 (cell_lt (h3 0 x hx).1), h3⟩
theorem SpS.kept {ok : Nat → Prop} {w w' : World} {a : Option Addr} {l : List Sp} (h : SpS ok w a l) (hb : ∀ b, ok b → b < w.heap.size → w'.heap[b]? = w.heap[b]?) : SpS ok w' a l := by
  rcases h with h | ⟨b, o, h1, h2, h3⟩
  · exact .inl h
  · by_cases hl : l = []
    · exact .inl hl
    · obtain ⟨x, hx⟩ : ∃ x, l[0]? = some x := ⟨l.head hl, by cases l with | nil => exact absurd rfl hl | cons y ys => rfl⟩
      have hbb := hb b h2 (cell_lt (h3 0 x hx).1)
      exact .inr ⟨b, o, h1, h2, fun i x hx => by
        have := h3 i x hx
        simp only [World.cell?, hbb] at this ⊢
        exact this⟩
theorem SpS.below {ok : Nat → Prop} {w w' : World} {a : Option Addr} {l : List Sp} (h : SpS ok w a l) (hb : Below w.heap.size w w') : SpS ok w' a l := h.kept fun b _ hlt => hb.block b hlt
theorem SpS.front {ok : Nat → Prop} {w : World} {a : Option Addr} {l : List Sp} (h : SpS ok w a l) (k : Nat) : SpS ok w a (l.take k) := by
  rcases h with rfl | ⟨b, o, h1, h2, h3⟩
  · exact .inl (by simp)
  · exact .inr ⟨b, o, h1, h2, fun i x hx => h3 i x (by
      rw [List.getElem?_take] at hx
      split at hx
      · exact hx
      · cases hx)⟩
theorem SpS.owned {w : World} {B n : Nat} {v : Value} {l : List Sp} (h : w.ownsRow B 24 4 v n (scells l)) : ∃ a c, v = .slice a l.length c ∧ SpS (fun b => B ≤ b) w a l ∧ l.length ≤ c ∧ c ≤ maxLen := by
  have hn : n = l.length := by have := h.1; rw [scells_len] at this; omega
  subst hn
  rcases h.2 with ⟨rfl, h0⟩ | ⟨g, cap, cur, rfl, hb, hg, hnc, hm, hcs, ht⟩
  · exact ⟨none, 0, by rw [h0], .inl (List.eq_nil_of_length_eq_zero h0), by omega, Nat.zero_le _⟩
  · refine ⟨_, cap, rfl, .inr ⟨g, 0, rfl, hb, fun i x hx => ?_⟩, hnc, hm⟩
    obtain ⟨g0, g1, g2, g3⟩ := scells_get hx
    have q0 := h.cells (g := g) rfl _ _ g0
    have q1 := h.cells (g := g) rfl _ _ g1
    have q2 := h.cells (g := g) rfl _ _ g2
    have q3 := h.cells (g := g) rfl _ _ g3
    rw [Addr.add_lit] at q0 q1 q2 q3
    exact ⟨q0, q1, q2, q3⟩
/-- The first of the highest epoch, of the first k + 1. -/
def mx (l : List Sp) : Nat → Sp
  | 0 => l.getD 0 zeroSp
  | k + 1 => if (mx l k).e < (l.getD (k + 1) zeroSp).e then l.getD (k + 1) zeroSp else mx l k
theorem res47 (w : World) (g : Nat) (cs : Array Value) (tmps : Array Value) (h2 : tmps.getD 4 undef = .pointer (some ⟨g, 0, none⟩)) (hg : w.heap[g]? = some (.cells cs 24 (0, 0))) (hs : cs.size = 4) :
    (results Try.f47 tmps).run Try.prog w = .ok (.agg cs) w :=
  results_cell_row rfl tmps w g 24 cs (0, 0) _ h2 hg Try.underlying24 rfl (by rw [hs]; kernel_rfl)
set_option maxRecDepth 20000 in
set_option maxHeartbeats 4000000 in
theorem maxFunc_any (ok : Nat → Prop) (a : Option Addr) (c : Nat) (l : List Sp) (w : World) (hs : SpS ok w a l) (h0 : (1 : Int) ≤ l.length) (hc : l.length ≤ c ∧ c ≤ maxLen) :
    Calls Try.prog 47 #[.slice a l.length c, .func (.func 48) #[] #[]] w fun r w' => r = .returned (.agg #[.int .i64 (mx l (l.length - 1)).e, .int .i64 (mx l (l.length - 1)).r, .int .i64 (mx l (l.length - 1)).s, .int .i64 (mx l (l.length - 1)).t]) ∧ Below w.heap.size w w' := by
  obtain ⟨b, o, rfl, hcells⟩ : ∃ b o, a = some ⟨b, o, none⟩ ∧ ∀ x, Below w.heap.size w x → ∀ i, i < l.length → x.cell? ⟨b, o + i * 4, none⟩ = some (.int .i64 (l.getD i zeroSp).e) ∧ x.cell? ⟨b, o + i * 4 + 1, none⟩ = some (.int .i64 (l.getD i zeroSp).r) ∧ x.cell? ⟨b, o + i * 4 + 2, none⟩ = some (.int .i64 (l.getD i zeroSp).s) ∧ x.cell? ⟨b, o + i * 4 + 3, none⟩ = some (.int .i64 (l.getD i zeroSp).t) := by
    rcases hs with h | ⟨b, o, h1, h2, h3⟩
    · rw [h] at h0; simp at h0
    · refine ⟨b, o, h1, fun x hx i hi => ?_⟩
      have := (SpS.below (.inr ⟨b, o, rfl, h2, h3⟩ : SpS ok w (some ⟨b, o, none⟩) l) hx)
      rcases this with h | ⟨b', o', h1', _, h3'⟩
      · rw [h] at hi; simp at hi
      · cases h1'
        exact h3' i _ (by rw [List.getD_eq_getElem?_getD, List.getElem?_eq_getElem hi]; rfl)
  have HCELL := hid hcells
  have hcl : (l.length : Int) ≤ c := by omega
  have hcm : (c : Int) ≤ 9223372036854775807 := by have := hc.2; unfold maxLen at this; omega
  clear hs hc hcells
  obtain ⟨wb, hwb⟩ : ∃ wb, wb = w.alloc (.cells #[.int .i64 0, .int .i64 0, .int .i64 0, .int .i64 0] 24) := ⟨_, rfl⟩
  have hb : Below w.heap.size w wb := by rw [hwb]; exact (Below.refl _ _).alloc (Nat.le_refl _) _
  have hr : wb.heap[w.heap.size]? = some (.cells #[.int .i64 0, .int .i64 0, .int .i64 0, .int .i64 0] 24 (0, 0)) := by rw [hwb]; exact heap_alloc_new w _
  have hsz : wb.heap.size = w.heap.size + 1 := by rw [hwb]; simp
  have HB := hid hb
  have HR := hid hr
  have HWB := hid hwb
  have HSZ := hid hsz
  have hx := HCELL.out wb hb 0 (by omega)
  obtain ⟨x, hxd⟩ : ∃ x, x = l.getD 0 zeroSp := ⟨_, rfl⟩
  rw [← hxd] at hx
  simp only [Nat.zero_mul, Nat.add_zero] at hx
  obtain ⟨x0, x1, x2, x3⟩ := hx
  obtain ⟨n, hn⟩ : ∃ n, n = l.length := ⟨_, rfl⟩
  have HN := hid hn
  rw [← hn] at h0 hcl ⊢
  have HXD : Hid (x = mx l 0) := hid hxd
  have h0n : (0 < n) = True := eq_true (by omega)
  clear hb hr hwb hsz hxd hn
  go_enter Try.func47, Try.ntmps47
  go_upto_region 3 with fail
  rw [← HWB.out]
  go_upto_region 4 with fail
  obtain ⟨w2, hw2⟩ : ∃ w2, w2 = wb.alloc (.cells #[.int .i64 (x).e, .int .i64 (x).r, .int .i64 (x).s, .int .i64 (x).t] 24) := ⟨_, rfl⟩
  have hb2 : Below wb.heap.size wb w2 := by rw [hw2]; exact (Below.refl _ _).alloc (Nat.le_refl _) _
  have hm2 : w2.heap[w.heap.size + 1]? = some (.cells #[.int .i64 (x).e, .int .i64 (x).r, .int .i64 (x).s, .int .i64 (x).t] 24 (0, 0)) := by rw [hw2, ← HSZ.out]; exact heap_alloc_new wb _
  have HB2 : Hid (Below w.heap.size w w2) := hid (HB.out.trans (hb2.mono HB.out.size))
  have HR2 := hid (row_below HR.out hb2)
  rw [HXD.out] at hm2
  have HM2 := hid hm2
  rw [← hw2, HSZ.out]
  clear x0 x1 x2 x3 hb2 hm2 hw2 HB HR HWB HXD
  go_wp2_with fail
  go_loopw [6] (fun i wr => ∃ k : Nat, 1 ≤ k ∧ k ≤ n ∧ i = .int .i64 (k : Int) ∧ wr.heap[w.heap.size]? = some (.cells #[.int .i64 0, .int .i64 0, .int .i64 0, .int .i64 0] 24 (0, 0)) ∧ wr.heap[w.heap.size + 1]? = some (.cells #[.int .i64 (mx l (k - 1)).e, .int .i64 (mx l (k - 1)).r, .int .i64 (mx l (k - 1)).s, .int .i64 (mx l (k - 1)).t] 24 (0, 0)) ∧ Below w.heap.size w wr) (fun i _ => n - (intOf i).toNat)
  case atStart => exact ⟨1, Nat.le_refl _, by omega, rfl, HR2.out, HM2.out, HB2.out⟩
  case round =>
    obtain ⟨k, hk1, hk, rfl, hr, hm, hb⟩ := hrel
    have HR := hid hr
    have HM := hid hm
    have HBR := hid hb
    clear hr hm hb HR2 HM2 HB2
    by_cases hlt : (k : Int) < n
    · obtain ⟨y, hy⟩ : ∃ y, y = mx l (k - 1) := ⟨_, rfl⟩
      rw [← hy] at HM
      obtain ⟨x, hx⟩ : ∃ x, x = l.getD k zeroSp := ⟨_, rfl⟩
      have HNX : Hid (mx l k = if y.e < x.e then x else y) := hid (by
        obtain ⟨j, rfl⟩ : ∃ j, k = j + 1 := ⟨k - 1, by omega⟩
        rw [hy, hx]; rfl)
      have HC : Hid (∀ z, Grew wr.drew z → z.cell? ⟨b, o + k * 4, none⟩ = some (.int .i64 x.e) ∧ z.cell? ⟨b, o + k * 4 + 1, none⟩ = some (.int .i64 x.r) ∧ z.cell? ⟨b, o + k * 4 + 2, none⟩ = some (.int .i64 x.s) ∧ z.cell? ⟨b, o + k * 4 + 3, none⟩ = some (.int .i64 x.t) ∧
          z.cell? ⟨w.heap.size + 1, 0, none⟩ = some (.int .i64 y.e) ∧ z.cell? ⟨w.heap.size + 1, 1, none⟩ = some (.int .i64 y.r) ∧ z.cell? ⟨w.heap.size + 1, 2, none⟩ = some (.int .i64 y.s) ∧ z.cell? ⟨w.heap.size + 1, 3, none⟩ = some (.int .i64 y.t)) := hid fun z hz => by
        have h := HCELL.out z (Grew.on HBR.out hz) k (by have := HN.out; omega)
        rw [← hx] at h
        have hrow : z.heap[w.heap.size + 1]? = _ := row_below (w := wr.drew) HM.out hz
        exact ⟨h.1, h.2.1, h.2.2.1, h.2.2.2, cell_of_row z _ 0 _ _ _ hrow, cell_of_row z _ 1 _ _ _ hrow, cell_of_row z _ 2 _ _ _ hrow, cell_of_row z _ 3 _ _ _ hrow⟩
      have hkn : (k < n) = True := eq_true (by omega)
      clear hx hy
      go_upto_region 7 with fail
      refine wp_region_grows 8 [Eqv' (.func (.func 48) #[] #[]), Eqv' (.slice (some ⟨b, o, none⟩) n c), Eqv' (.int .i64 (k : Int)), Eqv' (.pointer (some ⟨b, o + k * 4, none⟩)), Eqv' (.agg #[.int .i64 (x).e, .int .i64 (x).r, .int .i64 (x).s, .int .i64 (x).t]), Eqv' (.agg #[.int .i64 (y).e, .int .i64 (y).r, .int .i64 (y).s, .int .i64 (y).t]), Eqv' (.int .i64 (cmpI x.e y.e)), Eqv' (.bool (decide (0 < cmpI x.e y.e)))] (by kernel_rfl) (by decide) (by kernel_rfl) ?_ ?_ ?_
      · repeat' (first | exact List.forall_mem_nil _ | refine List.forall_mem_cons.2 ⟨?_, ?_⟩)
        all_goals
          intro w w' v hw h
          exact h
      · simp only [AllLt]
        refine ⟨⟨⟨⟨⟨⟨⟨⟨trivial, ?_⟩, ?_⟩, ?_⟩, ?_⟩, ?_⟩, ?_⟩, ?_⟩, ?_⟩
        all_goals
          intro o' ho
          simp at ho
          subst ho
          intro ρ w2 hR hL hS hG
          obtain ⟨hl1, hl2, -⟩ := hL
        · refine plainG rfl ?_
          intro bA K Q' hK
          have e1 := hS 1 (by kernel_rfl)
          change ρ (.tmp 1) = _ at e1
          simp only [execOp]
          go_simp
          exact hK _ _ rfl (Grew.refl _)
        · refine plainG rfl ?_
          intro bA K Q' hK
          have e0 := hS 0 (by kernel_rfl)
          change ρ (.tmp 0) = _ at e0
          simp only [execOp]
          go_simp
          exact hK _ _ rfl (Grew.refl _)
        · refine plainG rfl ?_
          intro bA K Q' hK
          have e6 := hS 6 (by kernel_rfl)
          change ρ (.tmp 6) = _ at e6
          simp only [execOp]
          go_simp
          exact hK _ _ rfl (Grew.refl _)
        · refine plainG rfl ?_
          intro bA K Q' hK
          have e21 := hG 1 21 (by decide) (by kernel_rfl) (by kernel_rfl)
          have e22 := hG 2 22 (by decide) (by kernel_rfl) (by kernel_rfl)
          change ρ (.tmp 21) = _ at e21
          change ρ (.tmp 22) = _ at e22
          simp only [execOp]
          go_simp
          exact hK _ _ rfl (Grew.refl _)
        · refine plainG rfl ?_
          intro bA K Q' hK
          have e23 := hG 3 23 (by decide) (by kernel_rfl) (by kernel_rfl)
          change ρ (.tmp 23) = _ at e23
          obtain ⟨x0, x1, x2, x3, y0, y1, y2, y3⟩ := HC.out w2 hR
          simp only [execOp]
          go_simp
          exact hK _ _ rfl (Grew.refl _)
        · refine plainG rfl ?_
          intro bA K Q' hK
          have e5 := hS 5 (by kernel_rfl)
          change ρ (.tmp 5) = _ at e5
          obtain ⟨x0, x1, x2, x3, y0, y1, y2, y3⟩ := HC.out w2 hR
          simp only [execOp]
          go_simp
          exact hK _ _ rfl (Grew.refl _)
        · refine plainG rfl ?_
          intro bA K Q' hK
          have e20 := hG 0 20 (by decide) (by kernel_rfl) (by kernel_rfl)
          have e24 := hG 4 24 (by decide) (by kernel_rfl) (by kernel_rfl)
          have e25 := hG 5 25 (by decide) (by kernel_rfl) (by kernel_rfl)
          change ρ (.tmp 20) = _ at e20
          change ρ (.tmp 24) = _ at e24
          change ρ (.tmp 25) = _ at e25
          simp only [execOp]
          go_simp
          refine (byEpoch_any x y w2).mono ?_
          rintro r9 w9 ⟨rfl, hb9⟩
          exact hK _ _ rfl hb9
        · refine plainG rfl ?_
          intro bA K Q' hK
          have e26 := hG 6 26 (by decide) (by kernel_rfl) (by kernel_rfl)
          change ρ (.tmp 26) = _ at e26
          simp only [execOp]
          go_simp
          exact hK _ _ rfl (Grew.refl _)
      · intro v w3 hR hG
        have h7 : v 7 = .bool (decide (y.e < x.e)) := by rw [← cmpI_pos]; exact hG.2
        have HB3 : Hid (Below w.heap.size w w3) := hid (Grew.on HBR.out hR)
        have HR3 : Hid (w3.heap[w.heap.size]? = _) := hid (row_below (w := wr.drew) HR.out hR)
        have HM3 : Hid (w3.heap[w.heap.size + 1]? = _) := hid (row_below (w := wr.drew) HM.out hR)
        obtain ⟨x0, x1, x2, x3, y0, y1, y2, y3⟩ := HC.out w3 hR
        clear hG hR HC HR HM HBR y0 y1 y2 y3
        by_cases hxy : y.e < x.e
        · have HN1 : Hid (mx l k = x) := hid (by rw [HNX.out, if_pos hxy])
          rw [decide_eq_true hxy] at h7
          clear hxy HNX
          simp [stG, stU, dstAt, Act.put, h7]
          go_wp2_with (refine wpList_store_own rfl 24 _ _ rfl (w.heap.size + 1) #[.int .i64 (x).e, .int .i64 (x).r, .int .i64 (x).s, .int .i64 (x).t] rfl rfl 24 _ HM3.out (by kernel_rfl) rfl (by simp [Value.oneCell']) ?_)
          intro w4 hr4 hg4
          have HM4 := hid hr4
          have HR4 : Hid (w4.heap[w.heap.size]? = _) := hid (row_grown HR3.out hg4 (by simp))
          have HB4 : Hid (Below w.heap.size w w4) := hid (below_grown HB3.out hg4 (by omega) HB3.out.size)
          clear hr4 hg4 x0 x1 x2 x3 HM3 HR3 HB3 h7
          go_wp2_with fail
          go_roundw
          case rel => exact ⟨k + 1, by omega, by omega, by go_num, HR4.out, by rw [Nat.add_sub_cancel, HN1.out]; exact HM4.out, HB4.out⟩
          case measure => simp [intOf]; omega
        · have HN1 : Hid (mx l k = y) := hid (by rw [HNX.out, if_neg hxy])
          rw [decide_eq_false hxy] at h7
          clear hxy HNX x0 x1 x2 x3
          simp [stG, stU, dstAt, Act.put, h7]
          go_wp2_with fail
          go_roundw
          case rel => exact ⟨k + 1, by omega, by omega, by go_num, HR3.out, by rw [Nat.add_sub_cancel, HN1.out]; exact HM3.out, HB3.out⟩
          case measure => simp [intOf]; omega
    · have hkn : k = n := by omega
      have hkf : (k < n) = False := eq_false (by omega)
      have HKN : Hid (k - 1 = n - 1) := hid (by rw [hkn])
      clear hkn
      go_upto_region 9 with fail
      refine wp_region_lit ?_
      refine wpList_load_row rfl 24 _ rfl (w.heap.size + 1) rfl 24 _ _ _ HM.out Try.underlying24 rfl (by kernel_rfl) ?_
      refine wpList_store_own rfl 24 _ _ rfl w.heap.size #[.int .i64 (mx l (k - 1)).e, .int .i64 (mx l (k - 1)).r, .int .i64 (mx l (k - 1)).s, .int .i64 (mx l (k - 1)).t] rfl rfl 24 _ HR.out (by kernel_rfl) rfl (by simp [Value.oneCell']) ?_
      intro w9 hr9 hg9
      have HR9 := hid hr9
      have HB9 : Hid (Below w.heap.size w w9) := hid (below_grown HBR.out hg9 (Nat.le_refl _) HBR.out.size)
      clear hr9 hg9
      go_wp2_with fail
      exact bodyPost_ret (v := .agg #[.int .i64 (mx l (k - 1)).e, .int .i64 (mx l (k - 1)).r, .int .i64 (mx l (k - 1)).s, .int .i64 (mx l (k - 1)).t]) (res47 _ _ _ _ rfl HR9.out rfl) rfl ⟨by rw [← HKN.out], HB9.out⟩
/-- What Choose answers. -/
def chE (l : List Sp) : Nat := if l = [] then 7 else 0
def chS (l : List Sp) : Sp := if l = [] then zeroSp else mx l (l.length - 1)
theorem resChoose (w : World) (g : Nat) (cs : Array Value) (tmps : Array Value) (h2 : tmps.getD 2 undef = .pointer (some ⟨g, 0, none⟩)) (hg : w.heap[g]? = some (.cells cs 24 (0, 0))) (hs : cs.size = 4) :
    (results Try.f25 tmps).run Try.prog w = .ok (.tuple #[.agg cs, tmps.getD 3 undef]) w :=
  res_cell_tmp rfl tmps w g 24 cs (0, 0) _ h2 hg Try.underlying24 rfl (by rw [hs]; kernel_rfl)
set_option maxRecDepth 20000 in
set_option maxHeartbeats 4000000 in
theorem choose_any (ok : Nat → Prop) (a : Option Addr) (c : Nat) (l : List Sp) (w : World) (hs : SpS ok w a l) (hc : l.length ≤ c ∧ c ≤ maxLen) :
    Calls Try.prog 25 #[.slice a l.length c] w fun r w' => r = .returned (.tuple #[.agg #[.int .i64 (chS l).e, .int .i64 (chS l).r, .int .i64 (chS l).s, .int .i64 (chS l).t], .int .i64 (chE l : Nat)]) ∧ Below w.heap.size w w' := by
  obtain ⟨wb, hwb⟩ : ∃ wb, wb = w.alloc (.cells #[.int .i64 0, .int .i64 0, .int .i64 0, .int .i64 0] 24) := ⟨_, rfl⟩
  have hb : Below w.heap.size w wb := by rw [hwb]; exact (Below.refl _ _).alloc (Nat.le_refl _) _
  have hr : wb.heap[w.heap.size]? = some (.cells #[.int .i64 0, .int .i64 0, .int .i64 0, .int .i64 0] 24 (0, 0)) := by rw [hwb]; exact heap_alloc_new w _
  have HB := hid hb
  have HR := hid hr
  have HWB := hid hwb
  by_cases h0 : l = []
  · have HE : Hid (chE l = 7 ∧ chS l = zeroSp) := hid ⟨by unfold chE; rw [if_pos h0], by unfold chS; rw [if_pos h0]⟩
    have hl : l.length = 0 := by rw [h0]; rfl
    rw [hl]
    clear hs hc hb hr hwb h0 hl
    go_enter Try.func25, Try.ntmps25
    go_upto_region 2 with fail
    rw [← HWB.out]
    refine wp_region_lit ?_
    refine wpList_plain rfl fun K hK => ?_
    go_simp
    refine hK _ _ ?_
    refine wpList_store_own rfl 24 _ _ rfl w.heap.size #[.int .i64 0, .int .i64 0, .int .i64 0, .int .i64 0] rfl rfl 24 _ HR.out (by kernel_rfl) rfl (by simp [Value.oneCell']) ?_
    intro w9 hr9 hg9
    have HR9 := hid hr9
    have HB9 : Hid (Below w.heap.size w w9) := hid (below_grown HB.out hg9 (Nat.le_refl _) HB.out.size)
    clear hr9 hg9
    go_wp2_with fail
    exact bodyPost_ret (v := .tuple #[.agg #[.int .i64 0, .int .i64 0, .int .i64 0, .int .i64 0], .int .i64 7]) (resChoose _ _ _ _ rfl HR9.out rfl) rfl ⟨by rw [HE.out.1, HE.out.2]; rfl, HB9.out⟩
  · have HE : Hid (chE l = 0 ∧ chS l = mx l (l.length - 1)) := hid ⟨by unfold chE; rw [if_neg h0], by unfold chS; rw [if_neg h0]⟩
    have hl : (1 : Int) ≤ l.length := by have := List.length_pos_iff.2 h0; omega
    have HM := hid (maxFunc_any ok a c l wb (hs.below hb) hl hc)
    have h1 : ((l.length : Int) == 0) = false := by rw [beq_eq_false_iff_ne]; omega
    clear hs hc hb hr hwb h0
    go_enter Try.func25, Try.ntmps25
    go_wp2_with fail
    rw [← HWB.out]
    refine HM.out.mono ?_
    rintro r w2 ⟨rfl, hb2⟩
    have HB2 : Hid (Below w.heap.size w w2) := hid (HB.out.trans (hb2.mono HB.out.size))
    have HR2 := hid (row_below HR.out hb2)
    clear hb2
    go_wp2_with (refine wpList_store_own rfl 24 _ _ rfl w.heap.size #[.int .i64 (mx l (l.length - 1)).e, .int .i64 (mx l (l.length - 1)).r, .int .i64 (mx l (l.length - 1)).s, .int .i64 (mx l (l.length - 1)).t] rfl rfl 24 _ HR2.out (by kernel_rfl) rfl (by simp [Value.oneCell']) ?_)
    intro w9 hr9 hg9
    have HR9 := hid hr9
    have HB9 : Hid (Below w.heap.size w w9) := hid (below_grown HB2.out hg9 (Nat.le_refl _) HB2.out.size)
    clear hr9 hg9
    go_wp2_with fail
    exact bodyPost_ret (v := .tuple #[.agg #[.int .i64 (mx l (l.length - 1)).e, .int .i64 (mx l (l.length - 1)).r, .int .i64 (mx l (l.length - 1)).s, .int .i64 (mx l (l.length - 1)).t], .int .i64 0]) (resChoose _ _ _ _ rfl HR9.out rfl) rfl ⟨by rw [HE.out.1, HE.out.2]; rfl, HB9.out⟩
end Go.Proofs.Ytebacgkeolofmaa
namespace Go.Proofs.Ytebacgkeolofmaa
open Go.RowKit Go.Inc

theorem res20 (w : World) (g : Nat) (cs : Array Value) (tmps : Array Value) (h2 : tmps.getD 4 undef = .pointer (some ⟨g, 0, none⟩)) (hg : w.heap[g]? = some (.cells cs 23 (0, 0))) (hs : cs.size = 4) :
    (results Try.f20 tmps).run Try.prog w = .ok (.tuple #[.agg cs, tmps.getD 5 undef]) w :=
  res_cell_tmp rfl tmps w g 23 cs (0, 0) _ h2 hg Try.underlying23 rfl (by rw [hs]; kernel_rfl)
theorem num_two {b : List Nat} {i : Nat} (h : i + 2 ≤ b.length) : Var.num (frAt b i 2) = b.getD i 0 + 256 * b.getD (i + 1) 0 := by
  have := of_len2 (l := frAt b i 2) (frAt_len h)
  rw [this, num2, frAt_get (by omega), frAt_get (by omega)]
  rfl
theorem of_len4 {l : List Nat} (h : l.length = 4) : l = [l.getD 0 0, l.getD 1 0, l.getD 2 0, l.getD 3 0] := by
  match l, h with
  | [a, b, c, d], _ => rfl
theorem num_four {b : List Nat} {i : Nat} (h : i + 4 ≤ b.length) : Var.num (frAt b i 4) = b.getD i 0 + 256 * b.getD (i + 1) 0 + 65536 * b.getD (i + 2) 0 + 16777216 * b.getD (i + 3) 0 := by
  have := of_len4 (l := frAt b i 4) (frAt_len h)
  rw [this, num4, frAt_get (by omega), frAt_get (by omega), frAt_get (by omega), frAt_get (by omega)]
  rfl
set_option maxRecDepth 20000 in
set_option maxHeartbeats 4000000 in
theorem refFDec_any (ok : Nat → Prop) (a : Option Addr) (c : Nat) (bs : List Nat) (page : Int) (w : World) (hs : Sl ok w a bs) (hby : Bytes bs) (hc : bs.length ≤ c ∧ c ≤ maxLen) :
    Calls Try.prog 20 #[.slice a bs.length c, .int .i64 page] w fun x w' => FlAns bs page x ∧ Below w.heap.size w w' := by
  obtain ⟨wb, hwb⟩ : ∃ wb, wb = w.alloc (.cells #[.int .i64 0, .int .i64 0, .int .i64 0, .int .i64 0] 23) := ⟨_, rfl⟩
  have hb : Below w.heap.size w wb := by rw [hwb]; exact (Below.refl _ _).alloc (Nat.le_refl _) _
  have hr : wb.heap[w.heap.size]? = some (.cells #[.int .i64 0, .int .i64 0, .int .i64 0, .int .i64 0] 23 (0, 0)) := by rw [hwb]; exact heap_alloc_new w _
  have hsz : wb.heap.size = w.heap.size + 1 := by rw [hwb]; simp
  have HB := hid hb
  have HR := hid hr
  have HWB := hid hwb
  have HSL := hid (hs.below hb)
  have HBY := hid hby
  have HCC := hid hc
  have HSZ := hid hsz
  clear hs hby hc hb hr hwb hsz
  by_cases hfar : page < 0 ∨ 2 ≤ page
  · have HQ : Hid (flE bs page = 10) := hid (flE_far hfar)
    have h1 : (page != 0) = true := by rw [bne_iff_ne]; omega
    have h2 : (page != 1) = true := by rw [bne_iff_ne]; omega
    clear hfar
    go_enter Try.func20, Try.ntmps20
    go_upto_region 2 with fail
    rw [← HWB.out]
    refine wp_region_lit ?_
    refine wpList_plain rfl fun K hK => ?_
    go_simp
    refine hK _ _ ?_
    refine wpList_store_own rfl 23 _ _ rfl w.heap.size #[.int .i64 0, .int .i64 0, .int .i64 0, .int .i64 0] rfl rfl 23 _ HR.out (by kernel_rfl) rfl (by simp [Value.oneCell']) ?_
    intro w9 hr9 hg9
    have HR9 := hid hr9
    have HB9 : Hid (Below w.heap.size w w9) := hid (below_grown HB.out hg9 (Nat.le_refl _) HB.out.size)
    clear hr9 hg9
    go_wp2_with fail
    exact bodyPost_ret (v := .tuple #[.agg #[.int .i64 0, .int .i64 0, .int .i64 0, .int .i64 0], .int .i64 10]) (res20 _ _ _ _ rfl HR9.out rfl) rfl ⟨FlAns.bad HQ.out (by decide) rfl, HB9.out⟩
  have h1' : 0 ≤ page := by omega
  have h2' : page < 2 := by omega
  have hpg : (page != 0) = false ∨ (page != 0) = true ∧ (page != 1) = false := by
    by_cases h : page = 0
    · exact .inl (by rw [bne_eq_false_iff_eq]; exact h)
    · exact .inr ⟨by rw [bne_iff_ne]; exact h, by rw [bne_eq_false_iff_eq]; omega⟩
  clear hfar
  obtain ⟨w2, hw2⟩ : ∃ w2, w2 = wb.alloc (.cells #[.int .i64 1] 3) := ⟨_, rfl⟩
  have hb2 : Below wb.heap.size wb w2 := by rw [hw2]; exact (Below.refl _ _).alloc (Nat.le_refl _) _
  obtain ⟨F, hF⟩ : ∃ F, F = opnF bs page [1] := ⟨_, rfl⟩
  obtain ⟨q, hq⟩ : ∃ q, q = opnE bs page [1] := ⟨_, rfl⟩
  have HO : Hid (Calls Try.prog 42 #[.slice a bs.length c, .int .i64 page, .slice (some ⟨w.heap.size + 1, 0, none⟩) 1 1] w2 fun r w' => (∃ v, r = .returned (.tuple #[.agg #[.int .i64 F.k, .int .i64 F.e, .int .i64 F.p, v], .int .i64 (q : Nat)]) ∧ Bb ok w' v F.b) ∧ Below w2.heap.size w2 w') := hid (by
    have hk : Si (fun b => b = wb.heap.size) w2 (some ⟨w.heap.size + 1, 0, none⟩) [1] := by
      rw [hw2, ← HSZ.out]; exact si_one wb 1 _
    have h := refOpen_any ok _ a c bs page (some ⟨w.heap.size + 1, 0, none⟩) 1 [1] w2 (HSL.out.below hb2) HBY.out HCC.out hk (by decide)
    unfold OpnOk at h
    rw [← hF, ← hq] at h
    exact h)
  have HB2 : Hid (Below w.heap.size w w2) := hid (HB.out.trans (hb2.mono HB.out.size))
  have HR2 := hid (row_below HR.out hb2)
  have HW2 := hid hw2
  have HF := hid hF
  have HQ := hid hq
  clear hb2 hw2 hF hq HR HSL
  go_enter Try.func20, Try.ntmps20
  rcases hpg with hp0 | ⟨hp0, hp1⟩
  all_goals
    go_wp2_with fail
    rw [← HWB.out, ← HW2.out]
    refine HO.out.mono ?_
    clear HO HW2 HWB
    rintro x w3 ⟨⟨v, rfl, hv⟩, hb3⟩
    obtain ⟨a3, c3, rfl, hs3, hlc3, hm3, hn3⟩ := hv
    obtain ⟨w4, hw4⟩ : ∃ w4, w4 = w3.alloc (.cells #[.int .i64 F.k, .int .i64 F.e, .int .i64 F.p, .slice a3 F.b.length c3] 75) := ⟨_, rfl⟩
    have hb4 : Below w3.heap.size w3 w4 := by rw [hw4]; exact (Below.refl _ _).alloc (Nat.le_refl _) _
    have hr4 : w4.heap[w3.heap.size]? = some (.cells #[.int .i64 F.k, .int .i64 F.e, .int .i64 F.p, .slice a3 F.b.length c3] 75 (0, 0)) := by rw [hw4]; exact heap_alloc_new w3 _
    have HB3 : Hid (Below w.heap.size w w3) := hid (HB2.out.trans (hb3.mono HB2.out.size))
    have HB4 : Hid (Below w.heap.size w w4) := hid (HB3.out.trans (hb4.mono HB3.out.size))
    have HR4 : Hid (w4.heap[w.heap.size]? = _) := hid (row_below (row_below HR2.out hb3) hb4)
    have HF4 := hid hr4
    have HS4 := hid (hs3.below hb4)
    have HC4 : Hid (F.b.length ≤ c3 ∧ c3 ≤ maxLen) := hid ⟨hlc3, hm3⟩
    have HN4 := hid hn3
    have HW4 := hid hw4
    clear hs3 hlc3 hm3 hn3 hb3 hb4 hr4 hw4 HB2 HR2 HB HB3
    by_cases hq : q = 0
    · have ho : opnE bs page [1] = 0 := by rw [← HQ.out]; exact hq
      have HFE := hid (flE_in ⟨h1', h2'⟩ ho)
      have hFd : F = decF bs := by rw [HF.out]; unfold opnF; rw [if_pos ho]
      obtain ⟨hfb, hfl, hfe0, hfe1⟩ := decF_body (opnE_dec ho) HBY.out
      have HGOOD : Hid (flE bs page = 0 → FlAns bs page _) := hid FlAns.good
      rw [← hFd] at hfb hfl hfe0 hfe1 HFE HGOOD
      have HFB := hid hfb
      have hfl' : (F.b.length : Int) ≤ 238 := by omega
      rw [hq]
      clear hq ho HQ HF HN4 hfb hfl hFd
      have f1 := cell_of_row w4 _ 1 _ _ _ HF4.out
      have f3 := cell_of_row w4 _ 3 _ _ _ HF4.out
      by_cases h8 : F.b.length = 8
      · by_cases hp : ((slot F.e : Nat) : Int) = page
        · have hp1 : (((slot F.e : Nat) : Int) != page) = false := by rw [bne_eq_false_iff_eq]; exact hp
          have HFE : Hid (flE bs page = if (spOf F.e F.b).ok = true then 0 else 3) := hid (by rw [HFE.out]; simp only [h8, hp, true_and])
          obtain ⟨b, o, rfl, HCELL⟩ : ∃ b o, a3 = some ⟨b, o, none⟩ ∧ Hid (ok b ∧ ∀ i, i < 8 → w4.cell? ⟨b, o + i, none⟩ = some (.int .u8 ((F.b.getD i 0 : Nat) : Int))) := by
            rcases HS4.out with h | ⟨b, o, h, hk, hcell⟩
            · rw [h] at h8; cases h8
            · exact ⟨b, o, h, hid ⟨hk, fun i hi => hcell i (by omega)⟩⟩
          have HBLT : Hid (b < w4.heap.size) := hid (cell_lt (HCELL.out.2 0 (by decide)))
          have HNUMS : Hid (Var.num (frAt F.b 0 2) = F.b.getD 0 0 + 256 * F.b.getD 1 0 ∧ Var.num (frAt F.b 2 2) = F.b.getD 2 0 + 256 * F.b.getD 3 0 ∧ Var.num (frAt F.b 4 4) = F.b.getD 4 0 + 256 * F.b.getD 5 0 + 65536 * F.b.getD 6 0 + 16777216 * F.b.getD 7 0) := hid ⟨num_two (by omega), num_two (by omega), num_four (by omega)⟩
          have hc8 : (8 : Int) ≤ c3 := by have := HC4.out.1; omega
          have hcm : (c3 : Int) ≤ 9223372036854775807 := by have := HC4.out.2; unfold maxLen at this; omega
          obtain ⟨x0, hx0⟩ : ∃ x, x = F.b.getD 0 0 := ⟨_, rfl⟩
          have hy0 : (x0 : Int) < 256 := by have := HFB.out.getD 0; omega
          obtain ⟨x1, hx1⟩ : ∃ x, x = F.b.getD 1 0 := ⟨_, rfl⟩
          have hy1 : (x1 : Int) < 256 := by have := HFB.out.getD 1; omega
          obtain ⟨x2, hx2⟩ : ∃ x, x = F.b.getD 2 0 := ⟨_, rfl⟩
          have hy2 : (x2 : Int) < 256 := by have := HFB.out.getD 2; omega
          obtain ⟨x3, hx3⟩ : ∃ x, x = F.b.getD 3 0 := ⟨_, rfl⟩
          have hy3 : (x3 : Int) < 256 := by have := HFB.out.getD 3; omega
          obtain ⟨x4, hx4⟩ : ∃ x, x = F.b.getD 4 0 := ⟨_, rfl⟩
          have hy4 : (x4 : Int) < 256 := by have := HFB.out.getD 4; omega
          obtain ⟨x5, hx5⟩ : ∃ x, x = F.b.getD 5 0 := ⟨_, rfl⟩
          have hy5 : (x5 : Int) < 256 := by have := HFB.out.getD 5; omega
          obtain ⟨x6, hx6⟩ : ∃ x, x = F.b.getD 6 0 := ⟨_, rfl⟩
          have hy6 : (x6 : Int) < 256 := by have := HFB.out.getD 6; omega
          obtain ⟨x7, hx7⟩ : ∃ x, x = F.b.getD 7 0 := ⟨_, rfl⟩
          have hy7 : (x7 : Int) < 256 := by have := HFB.out.getD 7; omega
          rw [← hx0, ← hx1, ← hx2, ← hx3, ← hx4, ← hx5, ← hx6, ← hx7] at HNUMS
          have HCL : Hid (∀ x, Grew w4.drew x → x.cell? ⟨w3.heap.size, 1, none⟩ = some (.int .i64 F.e) ∧ x.cell? ⟨b, o, none⟩ = some (.int .u8 (x0 : Int)) ∧ x.cell? ⟨b, o + 1, none⟩ = some (.int .u8 (x1 : Int)) ∧ x.cell? ⟨b, o + 2, none⟩ = some (.int .u8 (x2 : Int)) ∧ x.cell? ⟨b, o + 3, none⟩ = some (.int .u8 (x3 : Int)) ∧ x.cell? ⟨b, o + 4, none⟩ = some (.int .u8 (x4 : Int)) ∧ x.cell? ⟨b, o + 5, none⟩ = some (.int .u8 (x5 : Int)) ∧ x.cell? ⟨b, o + 6, none⟩ = some (.int .u8 (x6 : Int)) ∧ x.cell? ⟨b, o + 7, none⟩ = some (.int .u8 (x7 : Int))) := hid fun x hx => by
            have hk : ∀ i, i < 8 → x.cell? ⟨b, o + i, none⟩ = some (.int .u8 ((F.b.getD i 0 : Nat) : Int)) := fun i hi => by
              have hbl : x.heap[b]? = w4.heap[b]? := Below.block (w := w4.drew) hx b HBLT.out
              have h := HCELL.out.2 i hi
              rw [← h]
              simp only [World.cell?, hbl]
            exact ⟨cell_of_row x _ 1 _ _ _ (row_below (w := w4.drew) HF4.out hx), by rw [hx0]; exact hk 0 (by decide), by rw [hx1]; exact hk 1 (by decide), by rw [hx2]; exact hk 2 (by decide), by rw [hx3]; exact hk 3 (by decide), by rw [hx4]; exact hk 4 (by decide), by rw [hx5]; exact hk 5 (by decide), by rw [hx6]; exact hk 6 (by decide), by rw [hx7]; exact hk 7 (by decide)⟩
          clear hx0 hx1 hx2 hx3 hx4 hx5 hx6 hx7 HCELL hp HS4 HC4 HFB
          rw [h8] at HW4 f3 ⊢
          clear hfl' h8
          go_wp2_with fail
          rw [← HW4.out]
          refine (refSlot_any F.e w4).mono ?_
          rintro x w4' ⟨rfl, rfl⟩
          go_upto_region 9 with fail
          clear f1 f3
          refine wp_region_grows 46 [Eqv' (.pointer (some ⟨w3.heap.size, 1, none⟩)), Eqv' (.int .i64 F.e), Eqv' (.slice (some ⟨b, o, none⟩) 8 c3), Eqv' (.pointer (some ⟨b, o, none⟩)), Eqv' (.int .u8 (x0 : Int)), Eqv' (.int .i64 ((x0 : Int))), Eqv' (.slice (some ⟨b, o, none⟩) 8 c3), Eqv' (.pointer (some ⟨b, o + 1, none⟩)), Eqv' (.int .u8 (x1 : Int)), Eqv' (.int .i64 ((x1 : Int))), Eqv' (.int .i64 (256 * (x1 : Int))), Eqv' (.int .i64 ((x0 : Int) + 256 * (x1 : Int))), Eqv' (.slice (some ⟨b, o, none⟩) 8 c3), Eqv' (.pointer (some ⟨b, o + 2, none⟩)), Eqv' (.int .u8 (x2 : Int)), Eqv' (.int .i64 ((x2 : Int))), Eqv' (.slice (some ⟨b, o, none⟩) 8 c3), Eqv' (.pointer (some ⟨b, o + 3, none⟩)), Eqv' (.int .u8 (x3 : Int)), Eqv' (.int .i64 ((x3 : Int))), Eqv' (.int .i64 (256 * (x3 : Int))), Eqv' (.int .i64 ((x2 : Int) + 256 * (x3 : Int))), Eqv' (.slice (some ⟨b, o, none⟩) 8 c3), Eqv' (.pointer (some ⟨b, o + 4, none⟩)), Eqv' (.int .u8 (x4 : Int)), Eqv' (.int .i64 ((x4 : Int))), Eqv' (.slice (some ⟨b, o, none⟩) 8 c3), Eqv' (.pointer (some ⟨b, o + 5, none⟩)), Eqv' (.int .u8 (x5 : Int)), Eqv' (.int .i64 ((x5 : Int))), Eqv' (.int .i64 (256 * (x5 : Int))), Eqv' (.int .i64 ((x4 : Int) + 256 * (x5 : Int))), Eqv' (.slice (some ⟨b, o, none⟩) 8 c3), Eqv' (.pointer (some ⟨b, o + 6, none⟩)), Eqv' (.int .u8 (x6 : Int)), Eqv' (.int .i64 ((x6 : Int))), Eqv' (.int .i64 (65536 * (x6 : Int))), Eqv' (.int .i64 ((x4 : Int) + 256 * (x5 : Int) + 65536 * (x6 : Int))), Eqv' (.slice (some ⟨b, o, none⟩) 8 c3), Eqv' (.pointer (some ⟨b, o + 7, none⟩)), Eqv' (.int .u8 (x7 : Int)), Eqv' (.int .i64 ((x7 : Int))), Eqv' (.int .i64 (16777216 * (x7 : Int))), Eqv' (.int .i64 ((x4 : Int) + 256 * (x5 : Int) + 65536 * (x6 : Int) + 16777216 * (x7 : Int))), Eqv' (.agg #[.int .i64 F.e, .int .i64 ((x0 : Int) + 256 * (x1 : Int)), .int .i64 ((x2 : Int) + 256 * (x3 : Int)), .int .i64 ((x4 : Int) + 256 * (x5 : Int) + 65536 * (x6 : Int) + 16777216 * (x7 : Int))]), (fun x v => ∃ g, v = .pointer (some ⟨g, 0, none⟩) ∧ w4.heap.size ≤ g ∧ x.heap[g]? = some (.cells #[.int .i64 0, .int .i64 0, .int .i64 0, .int .i64 0] 23 (0, 0)))] (by kernel_rfl) (by decide) (by kernel_rfl) ?_ ?_ ?_
          · repeat' (first | exact List.forall_mem_nil _ | refine List.forall_mem_cons.2 ⟨?_, ?_⟩)
            all_goals
              intro w w' v hw h
              first | exact h | (obtain ⟨g, rfl, h1, h2⟩ := h; exact ⟨g, rfl, h1, row_below h2 hw⟩)
          · simp only [AllLt]
            refine ⟨⟨⟨⟨⟨⟨⟨⟨⟨⟨⟨⟨⟨⟨⟨⟨⟨⟨⟨⟨⟨⟨⟨⟨⟨⟨⟨⟨⟨⟨⟨⟨⟨⟨⟨⟨⟨⟨⟨⟨⟨⟨⟨⟨⟨⟨trivial, ?_⟩, ?_⟩, ?_⟩, ?_⟩, ?_⟩, ?_⟩, ?_⟩, ?_⟩, ?_⟩, ?_⟩, ?_⟩, ?_⟩, ?_⟩, ?_⟩, ?_⟩, ?_⟩, ?_⟩, ?_⟩, ?_⟩, ?_⟩, ?_⟩, ?_⟩, ?_⟩, ?_⟩, ?_⟩, ?_⟩, ?_⟩, ?_⟩, ?_⟩, ?_⟩, ?_⟩, ?_⟩, ?_⟩, ?_⟩, ?_⟩, ?_⟩, ?_⟩, ?_⟩, ?_⟩, ?_⟩, ?_⟩, ?_⟩, ?_⟩, ?_⟩, ?_⟩, ?_⟩
            all_goals
              intro o' ho
              simp at ho
              subst ho
              intro ρ w2 hR hL hS hG
              obtain ⟨hl1, hl2, -⟩ := hL
            · refine plainG rfl ?_
              intro bA K Q' hK
              have e6 := hS 6 (by kernel_rfl)
              change ρ (.tmp 6) = _ at e6
              simp only [execOp]
              go_simp
              exact hK _ _ rfl (Grew.refl _)
            · refine plainG rfl ?_
              intro bA K Q' hK
              have e42 := hG 0 42 (by decide) (by kernel_rfl) (by kernel_rfl)
              change ρ (.tmp 42) = _ at e42
              obtain ⟨f1, k0, k1, k2, k3, k4, k5, k6, k7⟩ := HCL.out w2 hR
              simp only [execOp]
              go_simp
              exact hK _ _ rfl (Grew.refl _)
            · refine plainG rfl ?_
              intro bA K Q' hK
              have e8 := hS 8 (by kernel_rfl)
              change ρ (.tmp 8) = _ at e8
              simp only [execOp]
              go_simp
              exact hK _ _ rfl (Grew.refl _)
            · refine plainG rfl ?_
              intro bA K Q' hK
              have e44 := hG 2 44 (by decide) (by kernel_rfl) (by kernel_rfl)
              change ρ (.tmp 44) = _ at e44
              simp only [execOp]
              go_simp
              exact hK _ _ rfl (Grew.refl _)
            · refine plainG rfl ?_
              intro bA K Q' hK
              have e45 := hG 3 45 (by decide) (by kernel_rfl) (by kernel_rfl)
              change ρ (.tmp 45) = _ at e45
              obtain ⟨f1, k0, k1, k2, k3, k4, k5, k6, k7⟩ := HCL.out w2 hR
              simp only [execOp]
              go_simp
              exact hK _ _ rfl (Grew.refl _)
            · refine plainG rfl ?_
              intro bA K Q' hK
              have e46 := hG 4 46 (by decide) (by kernel_rfl) (by kernel_rfl)
              change ρ (.tmp 46) = _ at e46
              simp only [execOp]
              go_simp
              exact hK _ _ (val_int (by rw [IntKind.wrap_i64]; omega)) (Grew.refl _)
            · refine plainG rfl ?_
              intro bA K Q' hK
              have e8 := hS 8 (by kernel_rfl)
              change ρ (.tmp 8) = _ at e8
              simp only [execOp]
              go_simp
              exact hK _ _ rfl (Grew.refl _)
            · refine plainG rfl ?_
              intro bA K Q' hK
              have e48 := hG 6 48 (by decide) (by kernel_rfl) (by kernel_rfl)
              change ρ (.tmp 48) = _ at e48
              simp only [execOp]
              go_simp
              exact hK _ _ rfl (Grew.refl _)
            · refine plainG rfl ?_
              intro bA K Q' hK
              have e49 := hG 7 49 (by decide) (by kernel_rfl) (by kernel_rfl)
              change ρ (.tmp 49) = _ at e49
              obtain ⟨f1, k0, k1, k2, k3, k4, k5, k6, k7⟩ := HCL.out w2 hR
              simp only [execOp]
              go_simp
              exact hK _ _ rfl (Grew.refl _)
            · refine plainG rfl ?_
              intro bA K Q' hK
              have e50 := hG 8 50 (by decide) (by kernel_rfl) (by kernel_rfl)
              change ρ (.tmp 50) = _ at e50
              simp only [execOp]
              go_simp
              exact hK _ _ (val_int (by rw [IntKind.wrap_i64]; omega)) (Grew.refl _)
            · refine plainG rfl ?_
              intro bA K Q' hK
              have e51 := hG 9 51 (by decide) (by kernel_rfl) (by kernel_rfl)
              change ρ (.tmp 51) = _ at e51
              simp only [execOp]
              go_simp
              exact hK _ _ (val_int (by rw [IntKind.wrap_i64]; omega)) (Grew.refl _)
            · refine plainG rfl ?_
              intro bA K Q' hK
              have e47 := hG 5 47 (by decide) (by kernel_rfl) (by kernel_rfl)
              have e52 := hG 10 52 (by decide) (by kernel_rfl) (by kernel_rfl)
              change ρ (.tmp 47) = _ at e47
              change ρ (.tmp 52) = _ at e52
              simp only [execOp]
              go_simp
              exact hK _ _ (val_int (by rw [IntKind.wrap_i64]; omega)) (Grew.refl _)
            · refine plainG rfl ?_
              intro bA K Q' hK
              have e8 := hS 8 (by kernel_rfl)
              change ρ (.tmp 8) = _ at e8
              simp only [execOp]
              go_simp
              exact hK _ _ rfl (Grew.refl _)
            · refine plainG rfl ?_
              intro bA K Q' hK
              have e54 := hG 12 54 (by decide) (by kernel_rfl) (by kernel_rfl)
              change ρ (.tmp 54) = _ at e54
              simp only [execOp]
              go_simp
              exact hK _ _ rfl (Grew.refl _)
            · refine plainG rfl ?_
              intro bA K Q' hK
              have e55 := hG 13 55 (by decide) (by kernel_rfl) (by kernel_rfl)
              change ρ (.tmp 55) = _ at e55
              obtain ⟨f1, k0, k1, k2, k3, k4, k5, k6, k7⟩ := HCL.out w2 hR
              simp only [execOp]
              go_simp
              exact hK _ _ rfl (Grew.refl _)
            · refine plainG rfl ?_
              intro bA K Q' hK
              have e56 := hG 14 56 (by decide) (by kernel_rfl) (by kernel_rfl)
              change ρ (.tmp 56) = _ at e56
              simp only [execOp]
              go_simp
              exact hK _ _ (val_int (by rw [IntKind.wrap_i64]; omega)) (Grew.refl _)
            · refine plainG rfl ?_
              intro bA K Q' hK
              have e8 := hS 8 (by kernel_rfl)
              change ρ (.tmp 8) = _ at e8
              simp only [execOp]
              go_simp
              exact hK _ _ rfl (Grew.refl _)
            · refine plainG rfl ?_
              intro bA K Q' hK
              have e58 := hG 16 58 (by decide) (by kernel_rfl) (by kernel_rfl)
              change ρ (.tmp 58) = _ at e58
              simp only [execOp]
              go_simp
              exact hK _ _ rfl (Grew.refl _)
            · refine plainG rfl ?_
              intro bA K Q' hK
              have e59 := hG 17 59 (by decide) (by kernel_rfl) (by kernel_rfl)
              change ρ (.tmp 59) = _ at e59
              obtain ⟨f1, k0, k1, k2, k3, k4, k5, k6, k7⟩ := HCL.out w2 hR
              simp only [execOp]
              go_simp
              exact hK _ _ rfl (Grew.refl _)
            · refine plainG rfl ?_
              intro bA K Q' hK
              have e60 := hG 18 60 (by decide) (by kernel_rfl) (by kernel_rfl)
              change ρ (.tmp 60) = _ at e60
              simp only [execOp]
              go_simp
              exact hK _ _ (val_int (by rw [IntKind.wrap_i64]; omega)) (Grew.refl _)
            · refine plainG rfl ?_
              intro bA K Q' hK
              have e61 := hG 19 61 (by decide) (by kernel_rfl) (by kernel_rfl)
              change ρ (.tmp 61) = _ at e61
              simp only [execOp]
              go_simp
              exact hK _ _ (val_int (by rw [IntKind.wrap_i64]; omega)) (Grew.refl _)
            · refine plainG rfl ?_
              intro bA K Q' hK
              have e57 := hG 15 57 (by decide) (by kernel_rfl) (by kernel_rfl)
              have e62 := hG 20 62 (by decide) (by kernel_rfl) (by kernel_rfl)
              change ρ (.tmp 57) = _ at e57
              change ρ (.tmp 62) = _ at e62
              simp only [execOp]
              go_simp
              exact hK _ _ (val_int (by rw [IntKind.wrap_i64]; omega)) (Grew.refl _)
            · refine plainG rfl ?_
              intro bA K Q' hK
              have e8 := hS 8 (by kernel_rfl)
              change ρ (.tmp 8) = _ at e8
              simp only [execOp]
              go_simp
              exact hK _ _ rfl (Grew.refl _)
            · refine plainG rfl ?_
              intro bA K Q' hK
              have e64 := hG 22 64 (by decide) (by kernel_rfl) (by kernel_rfl)
              change ρ (.tmp 64) = _ at e64
              simp only [execOp]
              go_simp
              exact hK _ _ rfl (Grew.refl _)
            · refine plainG rfl ?_
              intro bA K Q' hK
              have e65 := hG 23 65 (by decide) (by kernel_rfl) (by kernel_rfl)
              change ρ (.tmp 65) = _ at e65
              obtain ⟨f1, k0, k1, k2, k3, k4, k5, k6, k7⟩ := HCL.out w2 hR
              simp only [execOp]
              go_simp
              exact hK _ _ rfl (Grew.refl _)
            · refine plainG rfl ?_
              intro bA K Q' hK
              have e66 := hG 24 66 (by decide) (by kernel_rfl) (by kernel_rfl)
              change ρ (.tmp 66) = _ at e66
              simp only [execOp]
              go_simp
              exact hK _ _ (val_int (by rw [IntKind.wrap_i64]; omega)) (Grew.refl _)
            · refine plainG rfl ?_
              intro bA K Q' hK
              have e8 := hS 8 (by kernel_rfl)
              change ρ (.tmp 8) = _ at e8
              simp only [execOp]
              go_simp
              exact hK _ _ rfl (Grew.refl _)
            · refine plainG rfl ?_
              intro bA K Q' hK
              have e68 := hG 26 68 (by decide) (by kernel_rfl) (by kernel_rfl)
              change ρ (.tmp 68) = _ at e68
              simp only [execOp]
              go_simp
              exact hK _ _ rfl (Grew.refl _)
            · refine plainG rfl ?_
              intro bA K Q' hK
              have e69 := hG 27 69 (by decide) (by kernel_rfl) (by kernel_rfl)
              change ρ (.tmp 69) = _ at e69
              obtain ⟨f1, k0, k1, k2, k3, k4, k5, k6, k7⟩ := HCL.out w2 hR
              simp only [execOp]
              go_simp
              exact hK _ _ rfl (Grew.refl _)
            · refine plainG rfl ?_
              intro bA K Q' hK
              have e70 := hG 28 70 (by decide) (by kernel_rfl) (by kernel_rfl)
              change ρ (.tmp 70) = _ at e70
              simp only [execOp]
              go_simp
              exact hK _ _ (val_int (by rw [IntKind.wrap_i64]; omega)) (Grew.refl _)
            · refine plainG rfl ?_
              intro bA K Q' hK
              have e71 := hG 29 71 (by decide) (by kernel_rfl) (by kernel_rfl)
              change ρ (.tmp 71) = _ at e71
              simp only [execOp]
              go_simp
              exact hK _ _ (val_int (by rw [IntKind.wrap_i64]; omega)) (Grew.refl _)
            · refine plainG rfl ?_
              intro bA K Q' hK
              have e67 := hG 25 67 (by decide) (by kernel_rfl) (by kernel_rfl)
              have e72 := hG 30 72 (by decide) (by kernel_rfl) (by kernel_rfl)
              change ρ (.tmp 67) = _ at e67
              change ρ (.tmp 72) = _ at e72
              simp only [execOp]
              go_simp
              exact hK _ _ (val_int (by rw [IntKind.wrap_i64]; omega)) (Grew.refl _)
            · refine plainG rfl ?_
              intro bA K Q' hK
              have e8 := hS 8 (by kernel_rfl)
              change ρ (.tmp 8) = _ at e8
              simp only [execOp]
              go_simp
              exact hK _ _ rfl (Grew.refl _)
            · refine plainG rfl ?_
              intro bA K Q' hK
              have e74 := hG 32 74 (by decide) (by kernel_rfl) (by kernel_rfl)
              change ρ (.tmp 74) = _ at e74
              simp only [execOp]
              go_simp
              exact hK _ _ rfl (Grew.refl _)
            · refine plainG rfl ?_
              intro bA K Q' hK
              have e75 := hG 33 75 (by decide) (by kernel_rfl) (by kernel_rfl)
              change ρ (.tmp 75) = _ at e75
              obtain ⟨f1, k0, k1, k2, k3, k4, k5, k6, k7⟩ := HCL.out w2 hR
              simp only [execOp]
              go_simp
              exact hK _ _ rfl (Grew.refl _)
            · refine plainG rfl ?_
              intro bA K Q' hK
              have e76 := hG 34 76 (by decide) (by kernel_rfl) (by kernel_rfl)
              change ρ (.tmp 76) = _ at e76
              simp only [execOp]
              go_simp
              exact hK _ _ (val_int (by rw [IntKind.wrap_i64]; omega)) (Grew.refl _)
            · refine plainG rfl ?_
              intro bA K Q' hK
              have e77 := hG 35 77 (by decide) (by kernel_rfl) (by kernel_rfl)
              change ρ (.tmp 77) = _ at e77
              simp only [execOp]
              go_simp
              exact hK _ _ (val_int (by rw [IntKind.wrap_i64]; omega)) (Grew.refl _)
            · refine plainG rfl ?_
              intro bA K Q' hK
              have e73 := hG 31 73 (by decide) (by kernel_rfl) (by kernel_rfl)
              have e78 := hG 36 78 (by decide) (by kernel_rfl) (by kernel_rfl)
              change ρ (.tmp 73) = _ at e73
              change ρ (.tmp 78) = _ at e78
              simp only [execOp]
              go_simp
              exact hK _ _ (val_int (by rw [IntKind.wrap_i64]; omega)) (Grew.refl _)
            · refine plainG rfl ?_
              intro bA K Q' hK
              have e8 := hS 8 (by kernel_rfl)
              change ρ (.tmp 8) = _ at e8
              simp only [execOp]
              go_simp
              exact hK _ _ rfl (Grew.refl _)
            · refine plainG rfl ?_
              intro bA K Q' hK
              have e80 := hG 38 80 (by decide) (by kernel_rfl) (by kernel_rfl)
              change ρ (.tmp 80) = _ at e80
              simp only [execOp]
              go_simp
              exact hK _ _ rfl (Grew.refl _)
            · refine plainG rfl ?_
              intro bA K Q' hK
              have e81 := hG 39 81 (by decide) (by kernel_rfl) (by kernel_rfl)
              change ρ (.tmp 81) = _ at e81
              obtain ⟨f1, k0, k1, k2, k3, k4, k5, k6, k7⟩ := HCL.out w2 hR
              simp only [execOp]
              go_simp
              exact hK _ _ rfl (Grew.refl _)
            · refine plainG rfl ?_
              intro bA K Q' hK
              have e82 := hG 40 82 (by decide) (by kernel_rfl) (by kernel_rfl)
              change ρ (.tmp 82) = _ at e82
              simp only [execOp]
              go_simp
              exact hK _ _ (val_int (by rw [IntKind.wrap_i64]; omega)) (Grew.refl _)
            · refine plainG rfl ?_
              intro bA K Q' hK
              have e83 := hG 41 83 (by decide) (by kernel_rfl) (by kernel_rfl)
              change ρ (.tmp 83) = _ at e83
              simp only [execOp]
              go_simp
              exact hK _ _ (val_int (by rw [IntKind.wrap_i64]; omega)) (Grew.refl _)
            · refine plainG rfl ?_
              intro bA K Q' hK
              have e79 := hG 37 79 (by decide) (by kernel_rfl) (by kernel_rfl)
              have e84 := hG 42 84 (by decide) (by kernel_rfl) (by kernel_rfl)
              change ρ (.tmp 79) = _ at e79
              change ρ (.tmp 84) = _ at e84
              simp only [execOp]
              go_simp
              exact hK _ _ (val_int (by rw [IntKind.wrap_i64]; omega)) (Grew.refl _)
            · refine plainG rfl ?_
              intro bA K Q' hK
              have e43 := hG 1 43 (by decide) (by kernel_rfl) (by kernel_rfl)
              have e53 := hG 11 53 (by decide) (by kernel_rfl) (by kernel_rfl)
              have e63 := hG 21 63 (by decide) (by kernel_rfl) (by kernel_rfl)
              have e85 := hG 43 85 (by decide) (by kernel_rfl) (by kernel_rfl)
              change ρ (.tmp 43) = _ at e43
              change ρ (.tmp 53) = _ at e53
              change ρ (.tmp 63) = _ at e63
              change ρ (.tmp 85) = _ at e85
              simp only [execOp]
              go_simp
              exact hK _ _ rfl (Grew.refl _)
            · refine plainG rfl ?_
              intro bA K Q' hK
              simp only [execOp]
              go_simp
              exact hK _ _ ⟨_, rfl, hR.size, heap_alloc_new w2 _⟩ ((Grew.refl _).alloc _)
          · intro v w5 hR hG
            obtain ⟨g5, hg9, hg5, hrow5⟩ := hG.2
            have h86 := hG.1.2
            change v 44 = _ at h86
            have HB5 : Hid (Below w.heap.size w w5) := hid (Grew.on HB4.out hR)
            have HR5 : Hid (w5.heap[w.heap.size]? = _) := hid (row_below (w := w4.drew) HR4.out hR)
            have hgne : w.heap.size < g5 := Nat.lt_of_lt_of_le (row_lt HR4.out) hg5
            have HG5 := hid hgne
            clear hG hR HB4 HR4 hg5 hgne HCL
            simp [stG, stU, dstAt, Act.put, hg9, h86]
            obtain ⟨n0, hn0⟩ : ∃ n : Nat, n = x0 + 256 * x1 := ⟨_, rfl⟩
            obtain ⟨n1, hn1⟩ : ∃ n : Nat, n = x2 + 256 * x3 := ⟨_, rfl⟩
            obtain ⟨n2, hn2⟩ : ∃ n : Nat, n = x4 + 256 * x5 + 65536 * x6 + 16777216 * x7 := ⟨_, rfl⟩
            have e0 : (x0 : Int) + 256 * (x1 : Int) = (n0 : Int) := by omega
            have e1 : (x2 : Int) + 256 * (x3 : Int) = (n1 : Int) := by omega
            have e2 : (x4 : Int) + 256 * (x5 : Int) + 65536 * (x6 : Int) + 16777216 * (x7 : Int) = (n2 : Int) := by omega
            rw [e0, e1, e2]
            rw [← hn0, ← hn1, ← hn2] at HNUMS
            have HSP : Hid (spOf F.e F.b = ⟨F.e, (n0 : Int), (n1 : Int), (n2 : Int)⟩) := hid (by unfold spOf; rw [HNUMS.out.1, HNUMS.out.2.1, HNUMS.out.2.2])
            have HGOOD : Hid (flE bs page = 0 → FlAns bs page (.returned (.tuple #[.agg #[.int .i64 F.e, .int .i64 (n0 : Int), .int .i64 (n1 : Int), .int .i64 (n2 : Int)], .int .i64 0]))) := hid (by
              have h := HGOOD.out
              rw [HNUMS.out.1, HNUMS.out.2.1, HNUMS.out.2.2] at h
              exact h)
            clear e0 e1 e2 hn0 hn1 hn2 HNUMS h86 hg9 hy0 hy1 hy2 hy3 hy4 hy5 hy6 hy7
            refine wpList_store_own rfl 23 _ _ rfl g5 #[.int .i64 F.e, .int .i64 (n0 : Int), .int .i64 (n1 : Int), .int .i64 (n2 : Int)] rfl rfl 23 _ hrow5 (by kernel_rfl) rfl (by simp [Value.oneCell']) ?_
            intro w7 hr7 hg7
            have HB7 : Hid (Below w.heap.size w w7) := hid (below_grown HB5.out hg7 (Nat.le_of_lt HG5.out) HB5.out.size)
            have HR7 : Hid (w7.heap[w.heap.size]? = _) := hid (row_grown HR5.out hg7 (by intro h; cases h; exact absurd HG5.out (Nat.lt_irrefl _)))
            have HS7 := hid hr7
            have s0 := cell_of_row w7 _ 0 _ _ _ hr7
            have s1 := cell_of_row w7 _ 1 _ _ _ hr7
            have s2 := cell_of_row w7 _ 2 _ _ _ hr7
            have s3 := cell_of_row w7 _ 3 _ _ _ hr7
            have HCK := hid (refFCheck_any F.e (n0 : Int) (n1 : Int) (n2 : Int) w7)
            clear hr7 hg7 hrow5 HB5 HR5
            go_wp2_with fail
            refine HCK.out.mono ?_
            clear HCK
            rintro x w8 ⟨rfl, hb8⟩
            have HB8 : Hid (Below w.heap.size w w8) := hid (HB7.out.trans (hb8.mono HB7.out.size))
            have HR8 := hid (row_below HR7.out hb8)
            have HS8 := hid (row_below HS7.out hb8)
            clear hb8 s0 s1 s2 s3 HB7 HR7 HS7
            cases hok : Sp.ok ⟨F.e, (n0 : Int), (n1 : Int), (n2 : Int)⟩
            · have HQ : Hid (flE bs page = 3) := hid (by rw [HFE.out, HSP.out, if_neg (by rw [hok]; simp)])
              rw [spChk_no hok]
              clear hok HFE HGOOD HSP
              go_upto_region 11 with fail
              refine wp_region_lit ?_
              refine wpList_plain rfl fun K hK => ?_
              go_simp
              refine hK _ _ ?_
              refine wpList_store_own rfl 23 _ _ rfl w.heap.size #[.int .i64 0, .int .i64 0, .int .i64 0, .int .i64 0] rfl rfl 23 _ HR8.out (by kernel_rfl) rfl (by simp [Value.oneCell']) ?_
              intro w9 hr9 hg9
              have HR9 := hid hr9
              have HB9 : Hid (Below w.heap.size w w9) := hid (below_grown HB8.out hg9 (Nat.le_refl _) HB8.out.size)
              clear hr9 hg9
              go_wp2_with fail
              exact bodyPost_ret (v := .tuple #[.agg #[.int .i64 0, .int .i64 0, .int .i64 0, .int .i64 0], .int .i64 3]) (res20 _ _ _ _ rfl HR9.out rfl) rfl ⟨FlAns.bad HQ.out (by decide) rfl, HB9.out⟩
            · rw [spChk_ok hok]
              have HQ : Hid (flE bs page = 0) := hid (by rw [HFE.out, HSP.out, if_pos hok])
              clear hok HFE HSP
              go_upto_region 12 with fail
              refine wp_region_lit ?_
              refine wpList_load_row rfl 23 _ rfl g5 rfl 23 _ _ _ HS8.out Try.underlying23 rfl (by kernel_rfl) ?_
              refine wpList_store_own rfl 23 _ _ rfl w.heap.size #[.int .i64 F.e, .int .i64 n0, .int .i64 n1, .int .i64 n2] rfl rfl 23 _ HR8.out (by kernel_rfl) rfl (by simp [Value.oneCell']) ?_
              intro w9 hr9 hg9
              have HR9 := hid hr9
              have HB9 : Hid (Below w.heap.size w w9) := hid (below_grown HB8.out hg9 (Nat.le_refl _) HB8.out.size)
              clear hr9 hg9
              go_wp2_with fail
              exact bodyPost_ret (v := .tuple #[.agg #[.int .i64 F.e, .int .i64 n0, .int .i64 n1, .int .i64 n2], .int .i64 0]) (res20 _ _ _ _ rfl HR9.out rfl) rfl ⟨HGOOD.out HQ.out, HB9.out⟩
        · have HQ : Hid (flE bs page = 3) := hid (by rw [HFE.out, if_neg (fun h => hp h.2.1)])
          have hp1 : (((slot F.e : Nat) : Int) != page) = true := by rw [bne_iff_ne]; exact hp
          rw [h8] at HW4 f3 ⊢
          clear hp h8 HFE HGOOD HS4 HC4 HFB hfl'
          go_wp2_with fail
          rw [← HW4.out]
          refine (refSlot_any F.e w4).mono ?_
          rintro x w4' ⟨rfl, rfl⟩
          go_upto_region 7 with fail
          refine wp_region_lit ?_
          refine wpList_plain rfl fun K hK => ?_
          go_simp
          refine hK _ _ ?_
          refine wpList_store_own rfl 23 _ _ rfl w.heap.size #[.int .i64 0, .int .i64 0, .int .i64 0, .int .i64 0] rfl rfl 23 _ HR4.out (by kernel_rfl) rfl (by simp [Value.oneCell']) ?_
          intro w9 hr9 hg9
          have HR9 := hid hr9
          have HB9 : Hid (Below w.heap.size w w9) := hid (below_grown HB4.out hg9 (Nat.le_refl _) HB4.out.size)
          clear hr9 hg9
          go_wp2_with fail
          exact bodyPost_ret (v := .tuple #[.agg #[.int .i64 0, .int .i64 0, .int .i64 0, .int .i64 0], .int .i64 3]) (res20 _ _ _ _ rfl HR9.out rfl) rfl ⟨FlAns.bad HQ.out (by decide) rfl, HB9.out⟩
      · have HQ : Hid (flE bs page = 3) := hid (by rw [HFE.out, if_neg (fun h => h8 h.1)])
        have h8' : ((F.b.length : Int) != 8) = true := by rw [bne_iff_ne]; omega
        clear h8 HFE HGOOD HS4 HC4 HFB
        go_upto_region 7 with fail
        rw [← HW4.out]
        refine wp_region_lit ?_
        refine wpList_plain rfl fun K hK => ?_
        go_simp
        refine hK _ _ ?_
        refine wpList_store_own rfl 23 _ _ rfl w.heap.size #[.int .i64 0, .int .i64 0, .int .i64 0, .int .i64 0] rfl rfl 23 _ HR4.out (by kernel_rfl) rfl (by simp [Value.oneCell']) ?_
        intro w9 hr9 hg9
        have HR9 := hid hr9
        have HB9 : Hid (Below w.heap.size w w9) := hid (below_grown HB4.out hg9 (Nat.le_refl _) HB4.out.size)
        clear hr9 hg9
        go_wp2_with fail
        exact bodyPost_ret (v := .tuple #[.agg #[.int .i64 0, .int .i64 0, .int .i64 0, .int .i64 0], .int .i64 3]) (res20 _ _ _ _ rfl HR9.out rfl) rfl ⟨FlAns.bad HQ.out (by decide) rfl, HB9.out⟩
    · have HE0 : Hid (flE bs page = q) := hid (by rw [HQ.out]; exact flE_opn ⟨h1', h2'⟩ (by rw [← HQ.out]; exact hq))
      have hq1 : ((q : Int) != 0) = true := by rw [bne_iff_ne]; omega
      have HNE := hid hq
      clear hq HQ HF HS4 HC4 HN4
      go_upto_region 5 with fail
      rw [← HW4.out]
      refine wp_region_lit ?_
      refine wpList_plain rfl fun K hK => ?_
      go_simp
      refine hK _ _ ?_
      refine wpList_plain rfl fun K hK => ?_
      go_simp
      refine hK _ _ ?_
      refine wpList_store_own rfl 23 _ _ rfl w.heap.size #[.int .i64 0, .int .i64 0, .int .i64 0, .int .i64 0] rfl rfl 23 _ HR4.out (by kernel_rfl) rfl (by simp [Value.oneCell']) ?_
      intro w9 hr9 hg9
      have HR9 := hid hr9
      have HB9 : Hid (Below w.heap.size w w9) := hid (below_grown HB4.out hg9 (Nat.le_refl _) HB4.out.size)
      clear hr9 hg9
      go_wp2_with fail
      exact bodyPost_ret (v := .tuple #[.agg #[.int .i64 0, .int .i64 0, .int .i64 0, .int .i64 0], .int .i64 (q : Nat)]) (res20 _ _ _ _ rfl HR9.out rfl) rfl ⟨FlAns.bad HE0.out HNE.out rfl, HB9.out⟩
end Go.Proofs.Ytebacgkeolofmaa
namespace Go.Proofs.Ytebacgkeolofmaa
open Go.RowKit Go.Inc

theorem resRefFind (w : World) (g : Nat) (cs : Array Value) (tmps : Array Value) (h2 : tmps.getD 4 undef = .pointer (some ⟨g, 0, none⟩)) (hg : w.heap[g]? = some (.cells cs 23 (0, 0))) (hs : cs.size = 4) :
    (results Try.f24 tmps).run Try.prog w = .ok (.tuple #[.agg cs, tmps.getD 5 undef]) w :=
  res_cell_tmp rfl tmps w g 23 cs (0, 0) _ h2 hg Try.underlying23 rfl (by rw [hs]; kernel_rfl)
def FiAns (A B : List Nat) (x : Ending) : Prop := x = .returned (.tuple #[.agg #[.int .i64 (fiS A B).e, .int .i64 (fiS A B).r, .int .i64 (fiS A B).s, .int .i64 (fiS A B).t], .int .i64 (fiE A B : Nat)])
theorem FiAns.none {A B : List Nat} (ha : flE A 0 ≠ 0) (hb : flE B 1 ≠ 0) : FiAns A B (.returned (.tuple #[.agg #[.int .i64 0, .int .i64 0, .int .i64 0, .int .i64 0], .int .i64 5])) := by
  unfold FiAns fiE fiS
  rw [if_pos ⟨ha, hb⟩, if_pos ⟨ha, hb⟩]
  rfl
theorem FiAns.fst {A B : List Nat} (ha : flE A 0 = 0) (hb : ¬ (flE B 1 = 0 ∧ (flS A 0).e < (flS B 1).e)) : FiAns A B (.returned (.tuple #[.agg #[.int .i64 (flS A 0).e, .int .i64 (flS A 0).r, .int .i64 (flS A 0).s, .int .i64 (flS A 0).t], .int .i64 0])) := by
  unfold FiAns fiE fiS
  rw [if_neg (by omega), if_neg (by omega), if_neg (by omega)]
  rfl
theorem FiAns.snd {A B : List Nat} (hb : flE B 1 = 0) (ha : flE A 0 ≠ 0 ∨ (flS A 0).e < (flS B 1).e) : FiAns A B (.returned (.tuple #[.agg #[.int .i64 (flS B 1).e, .int .i64 (flS B 1).r, .int .i64 (flS B 1).s, .int .i64 (flS B 1).t], .int .i64 0])) := by
  have h1 : ¬ (flE A 0 ≠ 0 ∧ flE B 1 ≠ 0) := fun h => h.2 hb
  have h2 : flE A 0 ≠ 0 ∨ flE B 1 = 0 ∧ (flS A 0).e < (flS B 1).e := ha.imp id fun h => ⟨hb, h⟩
  unfold FiAns fiE fiS
  rw [if_neg h1, if_neg h1, if_pos h2]
  rfl
set_option maxRecDepth 20000 in
set_option maxHeartbeats 4000000 in
theorem refFind_any (ok ok' : Nat → Prop) (a a' : Option Addr) (c c' : Nat) (A B : List Nat) (w : World) (hs : Sl ok w a A) (hs' : Sl ok' w a' B) (hA : Bytes A) (hB : Bytes B) (hc : A.length ≤ c ∧ c ≤ maxLen) (hc' : B.length ≤ c' ∧ c' ≤ maxLen) :
    Calls Try.prog 24 #[.slice a A.length c, .slice a' B.length c'] w fun x w' => FiAns A B x ∧ Below w.heap.size w w' := by
  obtain ⟨wb, hwb⟩ : ∃ y, y = w.alloc (.cells #[.int .i64 0, .int .i64 0, .int .i64 0, .int .i64 0] 23) := ⟨_, rfl⟩
  have hb : Below w.heap.size w wb := by rw [hwb]; exact (Below.refl _ _).alloc (Nat.le_refl _) _
  have HR := hid (show wb.heap[w.heap.size]? = some (.cells #[.int .i64 0, .int .i64 0, .int .i64 0, .int .i64 0] 23 (0, 0)) by rw [hwb]; exact heap_alloc_new w _)
  have HB := hid hb
  have HWB := hid hwb
  have HD1 := hid (refFDec_any ok a c A 0 wb (hs.below hb) hA hc)
  have HD2 : Hid (∀ z, Sl ok' z a' B → Calls Try.prog 20 _ z _) := hid fun z hz => refFDec_any ok' a' c' B 1 z hz hB hc'
  have HS' := hid (hs'.below hb)
  have HN : Hid (flE A 0 ≠ 0 → flE B 1 ≠ 0 → FiAns A B _) := hid FiAns.none
  have HF : Hid (flE A 0 = 0 → ¬ (flE B 1 = 0 ∧ (flS A 0).e < (flS B 1).e) → FiAns A B _) := hid FiAns.fst
  have HS : Hid (flE B 1 = 0 → (flE A 0 ≠ 0 ∨ (flS A 0).e < (flS B 1).e) → FiAns A B _) := hid FiAns.snd
  unfold FlAns at HD1 HD2
  clear hs hs' hA hB hc hc' hb hwb
  generalize flE A 0 = p at *
  generalize flE B 1 = q at *
  generalize flS A 0 = X at *
  generalize flS B 1 = Y at *
  go_enter Try.func24, Try.ntmps24
  go_wp2_with fail
  rw [← HWB.out]
  refine HD1.out.mono ?_
  clear HD1 HWB
  rintro x w1 ⟨rfl, hb1⟩
  obtain ⟨w2, hw2⟩ : ∃ y, y = w1.alloc (.cells #[.int .i64 (X).e, .int .i64 (X).r, .int .i64 (X).s, .int .i64 (X).t] 23) := ⟨_, rfl⟩
  have hb2 : Below w1.heap.size w1 w2 := by rw [hw2]; exact (Below.refl _ _).alloc (Nat.le_refl _) _
  have HX2 : Hid (w2.heap[w1.heap.size]? = some (.cells #[.int .i64 (X).e, .int .i64 (X).r, .int .i64 (X).s, .int .i64 (X).t] 23 (0, 0))) := hid (by rw [hw2]; exact heap_alloc_new w1 _)
  have HB1 : Hid (Below w.heap.size w w1) := hid (HB.out.trans (hb1.mono HB.out.size))
  have HB2 : Hid (Below w.heap.size w w2) := hid (HB1.out.trans (hb2.mono HB1.out.size))
  have HR2 := hid (row_below (row_below HR.out hb1) hb2)
  have HD2 := hid (HD2.out w2 ((HS'.out.below hb1).below hb2))
  have HW2 := hid hw2
  clear hb1 hb2 hw2 HB HB1 HR HS'
  go_upto_region 2 with fail
  rw [← HW2.out]
  clear HW2
  go_wp2_with fail
  refine HD2.out.mono ?_
  clear HD2
  rintro x w3 ⟨rfl, hb3⟩
  obtain ⟨w4, hw4⟩ : ∃ y, y = w3.alloc (.cells #[.int .i64 (Y).e, .int .i64 (Y).r, .int .i64 (Y).s, .int .i64 (Y).t] 23) := ⟨_, rfl⟩
  have hb4 : Below w3.heap.size w3 w4 := by rw [hw4]; exact (Below.refl _ _).alloc (Nat.le_refl _) _
  have hy4 : w4.heap[w3.heap.size]? = some (.cells #[.int .i64 (Y).e, .int .i64 (Y).r, .int .i64 (Y).s, .int .i64 (Y).t] 23 (0, 0)) := by rw [hw4]; exact heap_alloc_new w3 _
  have HB3 : Hid (Below w.heap.size w w3) := hid (HB2.out.trans (hb3.mono HB2.out.size))
  have HB4 : Hid (Below w.heap.size w w4) := hid (HB3.out.trans (hb4.mono HB3.out.size))
  have HR4 := hid (row_below (row_below HR2.out hb3) hb4)
  have hx4 : w4.heap[w1.heap.size]? = _ := row_below (row_below HX2.out hb3) hb4
  have x0 := cell_of_row w4 _ 0 _ _ _ hx4
  have y0 := cell_of_row w4 _ 0 _ _ _ hy4
  have HX4 := hid hx4
  have HY4 := hid hy4
  have HW4 := hid hw4
  clear hb3 hb4 hw4 hx4 hy4 HB2 HB3 HR2 HX2
  go_upto_region 3 with fail
  rw [← HW4.out]
  clear HW4
  by_cases hp : p = 0
  · by_cases hq : q = 0
    · by_cases hxy : X.e < Y.e
      · have HANS := hid (HS.out hq (.inr hxy))
        rw [hp, hq]
        clear hp hq HN HF HS
        go_upto_region 6 with fail
        refine wp_region_lit ?_
        refine wpList_load_row rfl 23 _ rfl _ rfl 23 _ _ _ HY4.out Try.underlying23 rfl (by kernel_rfl) ?_
        refine wpList_store_own rfl 23 _ _ rfl w.heap.size #[.int .i64 (Y).e, .int .i64 (Y).r, .int .i64 (Y).s, .int .i64 (Y).t] rfl rfl 23 _ HR4.out (by kernel_rfl) rfl (by simp [Value.oneCell']) ?_
        intro w9 hr9 hg9
        have HR9 := hid hr9
        have HB9 : Hid (Below w.heap.size w w9) := hid (below_grown HB4.out hg9 (Nat.le_refl _) HB4.out.size)
        clear hr9 hg9
        go_wp2_with fail
        exact bodyPost_ret (v := .tuple #[.agg #[.int .i64 (Y).e, .int .i64 (Y).r, .int .i64 (Y).s, .int .i64 (Y).t], .int .i64 0]) (resRefFind _ _ _ _ rfl HR9.out rfl) rfl ⟨HANS.out, HB9.out⟩
      · have HANS := hid (HF.out hp (fun h => hxy h.2))
        have hxy' : (X.e < Y.e) = False := eq_false hxy
        rw [hp, hq]
        clear hp hq hxy HN HF HS
        go_upto_region 7 with fail
        refine wp_region_lit ?_
        refine wpList_load_row rfl 23 _ rfl _ rfl 23 _ _ _ HX4.out Try.underlying23 rfl (by kernel_rfl) ?_
        refine wpList_store_own rfl 23 _ _ rfl w.heap.size #[.int .i64 (X).e, .int .i64 (X).r, .int .i64 (X).s, .int .i64 (X).t] rfl rfl 23 _ HR4.out (by kernel_rfl) rfl (by simp [Value.oneCell']) ?_
        intro w9 hr9 hg9
        have HR9 := hid hr9
        have HB9 : Hid (Below w.heap.size w w9) := hid (below_grown HB4.out hg9 (Nat.le_refl _) HB4.out.size)
        clear hr9 hg9
        go_wp2_with fail
        exact bodyPost_ret (v := .tuple #[.agg #[.int .i64 (X).e, .int .i64 (X).r, .int .i64 (X).s, .int .i64 (X).t], .int .i64 0]) (resRefFind _ _ _ _ rfl HR9.out rfl) rfl ⟨HANS.out, HB9.out⟩
    · have HANS := hid (HF.out hp (fun h => hq h.1))
      have hq1 : ((q : Int) == 0) = false := by rw [beq_eq_false_iff_ne]; omega
      rw [hp]
      clear hp hq HN HF HS
      go_upto_region 7 with fail
      refine wp_region_lit ?_
      refine wpList_load_row rfl 23 _ rfl _ rfl 23 _ _ _ HX4.out Try.underlying23 rfl (by kernel_rfl) ?_
      refine wpList_store_own rfl 23 _ _ rfl w.heap.size #[.int .i64 (X).e, .int .i64 (X).r, .int .i64 (X).s, .int .i64 (X).t] rfl rfl 23 _ HR4.out (by kernel_rfl) rfl (by simp [Value.oneCell']) ?_
      intro w9 hr9 hg9
      have HR9 := hid hr9
      have HB9 : Hid (Below w.heap.size w w9) := hid (below_grown HB4.out hg9 (Nat.le_refl _) HB4.out.size)
      clear hr9 hg9
      go_wp2_with fail
      exact bodyPost_ret (v := .tuple #[.agg #[.int .i64 (X).e, .int .i64 (X).r, .int .i64 (X).s, .int .i64 (X).t], .int .i64 0]) (resRefFind _ _ _ _ rfl HR9.out rfl) rfl ⟨HANS.out, HB9.out⟩
  · have hp1 : ((p : Int) != 0) = true := by rw [bne_iff_ne]; omega
    by_cases hq : q = 0
    · have HANS := hid (HS.out hq (.inl hp))
      rw [hq]
      clear hp hq HN HF HS
      go_upto_region 6 with fail
      refine wp_region_lit ?_
      refine wpList_load_row rfl 23 _ rfl _ rfl 23 _ _ _ HY4.out Try.underlying23 rfl (by kernel_rfl) ?_
      refine wpList_store_own rfl 23 _ _ rfl w.heap.size #[.int .i64 (Y).e, .int .i64 (Y).r, .int .i64 (Y).s, .int .i64 (Y).t] rfl rfl 23 _ HR4.out (by kernel_rfl) rfl (by simp [Value.oneCell']) ?_
      intro w9 hr9 hg9
      have HR9 := hid hr9
      have HB9 : Hid (Below w.heap.size w w9) := hid (below_grown HB4.out hg9 (Nat.le_refl _) HB4.out.size)
      clear hr9 hg9
      go_wp2_with fail
      exact bodyPost_ret (v := .tuple #[.agg #[.int .i64 (Y).e, .int .i64 (Y).r, .int .i64 (Y).s, .int .i64 (Y).t], .int .i64 0]) (resRefFind _ _ _ _ rfl HR9.out rfl) rfl ⟨HANS.out, HB9.out⟩
    · have HANS := hid (HN.out hp hq)
      have hq1 : ((q : Int) != 0) = true := by rw [bne_iff_ne]; omega
      clear hp hq HN HF HS
      go_upto_region 4 with fail
      refine wp_region_lit ?_
      refine wpList_plain rfl fun K hK => ?_
      go_simp
      refine hK _ _ ?_
      refine wpList_store_own rfl 23 _ _ rfl w.heap.size #[.int .i64 0, .int .i64 0, .int .i64 0, .int .i64 0] rfl rfl 23 _ HR4.out (by kernel_rfl) rfl (by simp [Value.oneCell']) ?_
      intro w9 hr9 hg9
      have HR9 := hid hr9
      have HB9 : Hid (Below w.heap.size w w9) := hid (below_grown HB4.out hg9 (Nat.le_refl _) HB4.out.size)
      clear hr9 hg9
      go_wp2_with fail
      exact bodyPost_ret (v := .tuple #[.agg #[.int .i64 0, .int .i64 0, .int .i64 0, .int .i64 0], .int .i64 5]) (resRefFind _ _ _ _ rfl HR9.out rfl) rfl ⟨HANS.out, HB9.out⟩
end Go.Proofs.Ytebacgkeolofmaa
