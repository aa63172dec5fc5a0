/- CONTRACTS: where a key is: sort.Search with its closure; Find, Child. -/
import Derived.Test.YtokeihpmagcneaaPnC
namespace Go.Inc
open Go.RowKit
theorem lessK_trans {a b c : Ky} (h : lessK a b = true) (h2 : lessK b c = true) : lessK a c = true := by
  unfold lessK at *
  simp only [Bool.or_eq_true, Bool.and_eq_true, decide_eq_true_eq] at *
  omega
theorem getD_ok {es : List Et} (h : badN es = false) {i : Nat} (hi : i < es.length) : okK (es.getD i et0).1 = true := okE_key (badN_false.1 h _ (memGetD hi))
/-- Is a place's key not less? -/
def geK (es : List Et) (k : Ky) (i : Nat) : Bool := !lessK (es.getD i et0).1 k
theorem geK_mono {es : List Et} {k : Ky} (hb : badN es = false) (hf : fallN es = false) {i : Nat} (hi : i + 1 < es.length) (h : geK es k i = true) : geK es k (i + 1) = true := by
  unfold geK at *
  cases hh : lessK (es.getD (i + 1) et0).1 k
  · rfl
  · have h1 := fallN_false.1 hf (i + 1) (by omega) hi
    unfold riseAt at h1
    rw [Nat.add_sub_cancel, ← less_pl (getD_ok hb (by omega)) (getD_ok hb hi)] at h1
    rw [lessK_trans h1 hh] at h
    cases h
theorem at_is {es : List Et} {k : Ky} (hb : badN es = false) (hk : okK k = true) {r : Nat} (hr : r ≤ es.length) (h1 : ∀ i, i < r → geK es k i = false) (h2 : r < es.length → geK es k r = true) : r = atK es k := by
  refine (atK_is hr (fun i hi => ?_) fun hl hh => ?_).symm
  · have h := h1 i hi
    unfold geK at h
    rw [less_pl (getD_ok hb (by omega)) hk] at h
    simpa using h
  · have h := h2 hl
    unfold geK at h
    rw [less_pl (getD_ok hb hl) hk] at h
    rw [decide_eq_true hh] at h
    cases h
theorem inK_none {es : List Et} {k : Ky} (hb : badN es = false) (hk : okK k = false) : inK es k = false := by
  cases h : inK es k
  · rfl
  · obtain ⟨h1, h2⟩ := inK_lt h
    have := getD_ok hb h1
    rw [h2, hk] at this
    cases this
/-- What Find tells. -/
def FdK (es : List Et) (k : Ky) (r : Nat) (B : Bool) : Prop := r ≤ es.length ∧ B = (decide (r < es.length) && decide ((es.getD r et0).1 = k)) ∧ (okK k = true → r = atK es k)
theorem FdK.ok {es : List Et} {k : Ky} {r : Nat} {B : Bool} (h : FdK es k r B) (hk : okK k = true) : r = atK es k ∧ B = inK es k := by
  obtain ⟨h1, h2, h3⟩ := h
  obtain rfl := h3 hk
  exact ⟨rfl, by rw [h2]; rfl⟩
theorem FdK.is {es : List Et} {k : Ky} {r : Nat} {B : Bool} (hb : badN es = false) (h : FdK es k r B) : B = inK es k := by
  cases hk : okK k
  · rw [inK_none hb hk]
    obtain ⟨h1, h2, -⟩ := h
    cases hB : B
    · rfl
    · rw [hB] at h2
      have h2 := h2.symm
      rw [Bool.and_eq_true, decide_eq_true_eq, decide_eq_true_eq] at h2
      have := getD_ok hb h2.1
      rw [h2.2, hk] at this
      cases this
  · exact (h.ok hk).2
end Go.Inc
namespace Go.Proofs.Ytokeihpmagcneaa
open Go.RowKit Go.Inc

set_option maxRecDepth 20000 in
set_option maxHeartbeats 2000000 in
theorem closure_any (ok : Nat → Prop) (g1 g2 i : Nat) (a : Option Addr) (n c : Nat) (lf : Bool) (es : List Et) (s z : Int) (w : World) (h1 : w.heap[g1]? = some (.cells #[.bool lf, .slice a n c] 27 (0, 0))) (h2 : w.heap[g2]? = some (.cells #[.int .i64 s, .int .i64 z] 50 (0, 0))) (hs : EtS ok w a es) (hn : n = es.length) (hi : i < n) :
    Calls Try.prog 41 #[.int .i64 (i : Int), .pointer (some ⟨g1, 0, none⟩), .pointer (some ⟨g2, 0, none⟩)] w fun e w' => e = .returned (.bool (geK es (s, z) i)) ∧ Below w.heap.size w w' := by
  obtain ⟨b, o, rfl, q⟩ := hs.cell (i := i) (by omega)
  obtain ⟨L, hL⟩ : ∃ L, L = lessK (es.getD i et0).1 (s, z) := ⟨_, rfl⟩
  have HG : Hid (geK es (s, z) i = !L) := hid (by rw [hL]; rfl)
  obtain ⟨⟨⟨s1, z1⟩, p1⟩, hx⟩ : ∃ x, x = es.getD i et0 := ⟨_, rfl⟩
  rw [← hx] at hL q
  have HLESS : Hid (∀ y, Calls Try.prog 23 #[.agg #[.int .i64 s1, .int .i64 z1], .agg #[.int .i64 s, .int .i64 z]] y fun e w' => e = .returned (.bool L) ∧ Below y.heap.size y w') := hid fun y => by rw [hL]; exact less_any s1 z1 s z y
  have HC : Hid (∀ x, Grew w.drew x → x.cell? ⟨g1, 1, none⟩ = some (.slice (some ⟨b, o, none⟩) n c) ∧ x.cell? ⟨g2, 0, none⟩ = some (.int .i64 s) ∧ x.cell? ⟨g2, 1, none⟩ = some (.int .i64 z) ∧ x.cell? ⟨b, o + i * 3, none⟩ = some (.int .i64 s1) ∧ x.cell? ⟨b, o + i * 3 + 1, none⟩ = some (.int .i64 z1)) := hid fun x hg => by
    have hb : Below w.heap.size w x := ⟨hg.os, hg.tape, hg.output, hg.size, hg.block⟩
    have r1 := row_below h1 hb
    have r2 := row_below h2 hb
    exact ⟨by rw [cell_of_row _ _ _ _ _ _ r1]; rfl, by rw [cell_of_row _ _ _ _ _ _ r2]; rfl, by rw [cell_of_row _ _ _ _ _ _ r2]; rfl, (hb.cell (cell_lt q.1)).trans q.1, (hb.cell (cell_lt q.2.1)).trans q.2.1⟩
  rw [HG.out]
  have hin : (i < n) = True := eq_true hi
  have hin2 : (i : Int) < n := by omega
  clear h1 h2 hs hn hL hx q HG
  go_enter Try.func41, Try.ntmps41
  go_wp2_with fail
  refine wp_region_grows 9 [EqN (.pointer (some ⟨g1, 1, none⟩)), EqN (.slice (some ⟨b, o, none⟩) n c), EqN (.int .i64 (i : Int)), EqN (.pointer (some ⟨b, o + i * 3, none⟩)), EqN (.pointer (some ⟨b, o + i * 3, none⟩)), EqN (.agg #[.int .i64 s1, .int .i64 z1]), EqN (.agg #[.int .i64 s, .int .i64 z]), EqN (.bool L), EqN (.bool (!L))] (by kernel_rfl) (by decide) (by kernel_rfl) ?_ ?_ ?_
  · repeat' (first | exact List.forall_mem_nil _ | refine List.forall_mem_cons.2 ⟨?_, ?_⟩)
    all_goals
      intro w w' v hw h
      first | exact h | exact h
  · simp only [AllLt]
    refine ⟨⟨⟨⟨⟨⟨⟨⟨⟨trivial, ?_⟩, ?_⟩, ?_⟩, ?_⟩, ?_⟩, ?_⟩, ?_⟩, ?_⟩, ?_⟩
    all_goals
      intro o' ho
      simp at ho
      subst ho
      intro ρ w5 hR hL hS hG
      obtain ⟨hl1, hl2, -⟩ := hL
    · refine plainG rfl ?_
      intro bA K Q' hK
      have e1 := hS 1 (by kernel_rfl)
      change ρ (.tmp 1) = _ at e1
      simp only [execOp]
      go_simp
      exact hK _ _ rfl (Grew.refl _)
    · refine plainG rfl ?_
      intro bA K Q' hK
      have e5 := hG 0 5 (by decide) (by kernel_rfl) (by kernel_rfl)
      change ρ (.tmp 5) = _ at e5
      obtain ⟨y1, y2, y3, y4, y5⟩ := HC.out w5 hR
      simp only [execOp]
      go_simp
      exact hK _ _ rfl (Grew.refl _)
    · refine plainG rfl ?_
      intro bA K Q' hK
      have e0 := hS 0 (by kernel_rfl)
      change ρ (.tmp 0) = _ at e0
      simp only [execOp]
      go_simp
      exact hK _ _ rfl (Grew.refl _)
    · refine plainG rfl ?_
      intro bA K Q' hK
      have e6 := hG 1 6 (by decide) (by kernel_rfl) (by kernel_rfl)
      have e7 := hG 2 7 (by decide) (by kernel_rfl) (by kernel_rfl)
      change ρ (.tmp 6) = _ at e6
      change ρ (.tmp 7) = _ at e7
      simp only [execOp]
      go_simp
      exact hK _ _ rfl (Grew.refl _)
    · refine plainG rfl ?_
      intro bA K Q' hK
      have e8 := hG 3 8 (by decide) (by kernel_rfl) (by kernel_rfl)
      change ρ (.tmp 8) = _ at e8
      simp only [execOp]
      go_simp
      exact hK _ _ rfl (Grew.refl _)
    · refine plainG rfl ?_
      intro bA K Q' hK
      have e9 := hG 4 9 (by decide) (by kernel_rfl) (by kernel_rfl)
      change ρ (.tmp 9) = _ at e9
      obtain ⟨y1, y2, y3, y4, y5⟩ := HC.out w5 hR
      simp only [execOp]
      go_simp
      exact hK _ _ rfl (Grew.refl _)
    · refine plainG rfl ?_
      intro bA K Q' hK
      have e2 := hS 2 (by kernel_rfl)
      change ρ (.tmp 2) = _ at e2
      obtain ⟨y1, y2, y3, y4, y5⟩ := HC.out w5 hR
      simp only [execOp]
      go_simp
      exact hK _ _ rfl (Grew.refl _)
    · refine plainG rfl ?_
      intro bA K Q' hK
      have e10 := hG 5 10 (by decide) (by kernel_rfl) (by kernel_rfl)
      have e11 := hG 6 11 (by decide) (by kernel_rfl) (by kernel_rfl)
      change ρ (.tmp 10) = _ at e10
      change ρ (.tmp 11) = _ at e11
      simp only [execOp]
      go_simp
      refine (HLESS.out w5).mono ?_
      rintro r9 w9 ⟨rfl, hb9⟩
      exact hK _ _ rfl hb9
    · refine plainG rfl ?_
      intro bA K Q' hK
      have e12 := hG 7 12 (by decide) (by kernel_rfl) (by kernel_rfl)
      change ρ (.tmp 12) = _ at e12
      simp only [execOp]
      go_simp
      exact hK _ _ rfl (Grew.refl _)
  · intro vv w5 hR hG
    have h8 : vv 8 = .bool (!L) := hG.2
    have hb : Below w.heap.size w w5 := ⟨hR.os, hR.tape, hR.output, hR.size, hR.block⟩
    have HB5 := hid hb
    clear hG hR hb HC HLESS
    simp [stG, stU, dstAt, Act.put, h8]
    clear h8
    go_wp2_with fail
    go_ret
    exact ⟨rfl, HB5.out⟩
set_option maxRecDepth 20000 in
set_option maxHeartbeats 2000000 in
theorem search_any (n : Nat) (F : Value) (p : Nat → Bool) (w : World) (hl : (n : Int) ≤ 1000) (g1 g2 : Nat) (hF : F = .func (Fn.func 41) #[] #[.pointer (some ⟨g1, 0, none⟩), .pointer (some ⟨g2, 0, none⟩)]) (hp : ∀ i, i + 1 < n → p i = true → p (i + 1) = true)
    (hc : ∀ y i, i < n → Below w.heap.size w y → Calls Try.prog 41 #[.int .i64 ((i : Nat) : Int), .pointer (some ⟨g1, 0, none⟩), .pointer (some ⟨g2, 0, none⟩)] y fun e w' => e = .returned (.bool (p i)) ∧ Below y.heap.size y w') :
    Calls Try.prog 40 #[.int .i64 (n : Int), F] w fun e w' => (∃ r : Nat, e = .returned (.int .i64 (r : Int)) ∧ r ≤ n ∧ (∀ i, i < r → p i = false) ∧ (r < n → p r = true)) ∧ Below w.heap.size w w' := by
  subst hF
  have HP : Hid (∀ i, p i = true → ∀ d, i + d < n → p (i + d) = true) := hid fun i hi d => by
    induction d with
    | zero => intro _; exact hi
    | succ d ih => intro h; exact hp (i + d) (by omega) (ih (by omega))
  have HC := hid hc
  clear hp hc
  go_enter Try.func40, Try.ntmps40
  go_wp2_with fail
  go_loopw [5, 6] (fun a b wr => ∃ i j : Nat, a = .int .i64 (i : Int) ∧ b = .int .i64 (j : Int) ∧ i ≤ j ∧ j ≤ n ∧ (∀ x, x < i → p x = false) ∧ (j < n → p j = true) ∧ Below w.heap.size w wr) (fun a b _ => (intOf b).toNat - (intOf a).toNat)
  case atStart => exact ⟨0, n, rfl, rfl, Nat.zero_le _, Nat.le_refl _, fun x h => by omega, fun h => by omega, Below.refl _ _⟩
  case round =>
    obtain ⟨i, j, rfl, rfl, hij, hjn, hlo, hhi, hb⟩ := hrel
    have HLO := hid hlo
    have HHI := hid hhi
    have HB := hid hb
    clear hlo hhi hb
    by_cases hlt : (i : Int) < j
    · have hkn : (i < j) = True := eq_true (by omega)
      obtain ⟨h, hh⟩ : ∃ h, h = (i + j) / 2 := ⟨_, rfl⟩
      have hh1 : ((i : Int) + (j : Int)) / 2 = (h : Int) := by omega
      have hih : i ≤ h := by omega
      have hhj : h < j := by omega
      have HCL := hid (HC.out wr h (by omega) HB.out)
      clear hh
      go_wp2_with fail
      refine HCL.out.mono ?_
      clear HCL
      rintro e w1 ⟨rfl, hb1⟩
      have HB1 : Hid (Below w.heap.size w w1) := hid (HB.out.trans (hb1.mono HB.out.size))
      obtain ⟨Q, hQ⟩ : ∃ Q, Q = p h := ⟨_, rfl⟩
      have HQ := hid hQ
      rw [← hQ]
      clear hb1 HB hQ hh1
      cases Q with
      | false =>
        have HLN : Hid (∀ x, x < h + 1 → p x = false) := hid fun x hx => by
          cases hpx : p x
          · rfl
          · obtain ⟨d, rfl⟩ : ∃ d, h = x + d := ⟨h - x, by omega⟩
            have h9 := HP.out x hpx d (by omega)
            rw [← HQ.out] at h9
            cases h9
        go_wp2_with fail
        go_roundw
        case rel => exact ⟨h + 1, j, by go_num, rfl, by omega, hjn, HLN.out, HHI.out, HB1.out⟩
        case measure => simp [intOf]; omega
      | true =>
        go_wp2_with fail
        go_roundw
        case rel => exact ⟨i, h, rfl, by go_num, hih, by omega, HLO.out, fun _ => HQ.out.symm, HB1.out⟩
        case measure => simp [intOf]; omega
    · have hkf : (i < j) = False := eq_false (by omega)
      have he : i = j := by omega
      subst he
      clear hlt
      go_wp2_with fail
      go_ret
      exact ⟨⟨i, rfl, hjn, HLO.out, HHI.out⟩, HB.out⟩
set_option maxRecDepth 20000 in
set_option maxHeartbeats 4000000 in
theorem find_any (a : Option Addr) (n c : Nat) (lf : Bool) (es : List Et) (s z : Int) (w : World) (hnd : NdOk w a n c es) (hl : es.length ≤ 16) (hbd : badN es = false) (hfl : fallN es = false) :
    Calls Try.prog 24 #[.agg #[.bool lf, .slice a n c], .agg #[.int .i64 s, .int .i64 z]] w fun e w' => (∃ (r : Nat) (B : Bool), e = .returned (.tuple #[.int .i64 (r : Int), .bool B]) ∧ FdK es (s, z) r B) ∧ Below w.heap.size w w' := by
  have hn := hnd.1
  have HS := hid hnd.2.1
  have HN := hid hn
  have HBD := hid hbd
  have HFL := hid hfl
  have hln : (n : Int) ≤ 16 := by omega
  obtain ⟨g, hg⟩ : ∃ g, g = w.heap.size := ⟨_, rfl⟩
  have HG := hid hg
  obtain ⟨w0, hw0⟩ : ∃ w0, w0 = (w.alloc (.cells #[.bool lf, .slice a n c] 27)).alloc (.cells #[.int .i64 s, .int .i64 z] 50) := ⟨_, rfl⟩
  have HW0 := hid hw0
  have HB0 : Hid (Below w.heap.size w w0) := hid (by rw [hw0]; exact ((Below.refl _ _).alloc (Nat.le_refl _) _).alloc (by simp) _)
  have HX1 : Hid (w0.heap[g]? = some (.cells #[.bool lf, .slice a n c] 27 (0, 0))) := hid (by rw [hw0, hg]; exact heap_alloc2_old w _ _)
  have HX2 : Hid (w0.heap[g + 1]? = some (.cells #[.int .i64 s, .int .i64 z] 50 (0, 0))) := hid (by rw [hw0, hg]; exact heap_alloc2_new w _ _)
  have HSE := hid (search_any n _ (geK es (s, z)) w0 (by omega) g (g + 1) rfl (fun i hi => geK_mono hbd hfl (by omega)) fun y i hi hb => closure_any _ g (g + 1) i a n c lf es s z y (row_below HX1.out hb) (row_below HX2.out hb) (HS.out.below (HB0.out.trans (hb.mono HB0.out.size))) hn hi)
  clear hnd hn hbd hfl hg hw0 hl
  have hc1 : w0.cell? ⟨g, 1, none⟩ = some (.slice a n c) := by rw [cell_of_row _ _ _ _ _ _ HX1.out]; rfl
  go_enter Try.func24, Try.ntmps24
  go_upto_region 1 with fail
  rw [← HW0.out, ← HG.out]
  go_wp2_with fail
  refine HSE.out.mono ?_
  clear HSE
  rintro e w1 ⟨⟨r, rfl, hrn, hlo, hhi⟩, hb1⟩
  have HB1 : Hid (Below w.heap.size w w1) := hid (HB0.out.trans (hb1.mono HB0.out.size))
  have hx1 := row_below HX1.out hb1
  have hx2 := row_below HX2.out hb1
  have HX11 := hid hx1
  have HAT : Hid (okK (s, z) = true → r = atK es (s, z)) := hid fun hk => at_is HBD.out hk (by have := HN.out; omega) hlo fun h => hhi (by have := HN.out; omega)
  clear hlo hhi hb1 HB0 HX1 HX2 hc1 HW0
  have hc1 : w1.cell? ⟨g, 1, none⟩ = some (.slice a n c) := by rw [cell_of_row _ _ _ _ _ _ hx1]; rfl
  have hk0 : w1.cell? ⟨g + 1, 0, none⟩ = some (.int .i64 s) := by rw [cell_of_row _ _ _ _ _ _ hx2]; rfl
  have hk1 : w1.cell? ⟨g + 1, 1, none⟩ = some (.int .i64 z) := by rw [cell_of_row _ _ _ _ _ _ hx2]; rfl
  clear hx1 hx2
  by_cases hlt : r < n
  · have hd : (r < n) = True := eq_true hlt
    have hlt2 : (r : Int) < n := by omega
    obtain ⟨b, o, rfl, hx1, hx2, hx3⟩ := (HS.out.below HB1.out).cell (i := r) (by have := HN.out; omega)
    obtain ⟨⟨⟨s1, z1⟩, p1⟩, hx⟩ : ∃ x, x = es.getD r et0 := ⟨_, rfl⟩
    rw [← hx] at hx1 hx2
    simp only at hx1 hx2
    have HE : Hid (∀ B : Bool, B = decide ((s1, z1) = (s, z)) → FdK es (s, z) r B) := hid fun B hB => ⟨by have := HN.out; omega, by rw [← hx, hB, decide_eq_true (show r < es.length by have := HN.out; omega)]; rfl, HAT.out⟩
    clear hx hx3 hlt
    by_cases e1 : s1 = s
    · subst e1
      by_cases e2 : z1 = z
      · subst e2
        have t1 : ((s1 : Int) == s1) = true := by simp
        have t2 : ((z1 : Int) == z1) = true := by simp
        go_wp2_with fail
        go_quiet (fail)
        have HBQ : Hid (Below w.heap.size w (w1.drewN nq)) := hid (HB1.out.trans ((belowDrew w1 nq).mono HB1.out.size))
        generalize w1.drewN nq = wq at *
        clear hc1 hk0 hk1 hx1 hx2
        go_wp2_with fail
        go_ret2
        exact ⟨⟨r, true, rfl, HE.out _ (by simp)⟩, HBQ.out⟩
      · have t1 : ((s1 : Int) == s1) = true := by simp
        have t2 : ((z1 : Int) == z) = false := beq_eq_false_iff_ne.2 e2
        go_wp2_with fail
        go_quiet (fail)
        have HBQ : Hid (Below w.heap.size w (w1.drewN nq)) := hid (HB1.out.trans ((belowDrew w1 nq).mono HB1.out.size))
        generalize w1.drewN nq = wq at *
        clear hc1 hk0 hk1 hx1 hx2
        go_wp2_with fail
        go_ret2
        exact ⟨⟨r, false, rfl, HE.out _ (by simp [e2])⟩, HBQ.out⟩
    · have t1 : ((s1 : Int) == s) = false := beq_eq_false_iff_ne.2 e1
      go_wp2_with fail
      go_quiet (fail)
      have HBQ : Hid (Below w.heap.size w (w1.drewN nq)) := hid (HB1.out.trans ((belowDrew w1 nq).mono HB1.out.size))
      generalize w1.drewN nq = wq at *
      clear hc1 hk0 hk1 hx1 hx2
      go_wp2_with fail
      go_ret2
      exact ⟨⟨r, false, rfl, HE.out _ (by simp [e1])⟩, HBQ.out⟩
  · have hd : (r < n) = False := eq_false hlt
    have HE : Hid (FdK es (s, z) r false) := hid ⟨by have := HN.out; omega, by rw [decide_eq_false (show ¬ r < es.length by have := HN.out; omega)]; rfl, HAT.out⟩
    clear hlt
    go_wp2_with fail
    go_quiet (fail)
    have HBQ : Hid (Below w.heap.size w (w1.drewN nq)) := hid (HB1.out.trans ((belowDrew w1 nq).mono HB1.out.size))
    generalize w1.drewN nq = wq at *
    clear hc1 hk0 hk1
    go_wp2_with fail
    go_ret2
    exact ⟨⟨r, false, rfl, HE.out⟩, HBQ.out⟩
set_option maxRecDepth 20000 in
set_option maxHeartbeats 2000000 in
theorem child_any (a : Option Addr) (n c : Nat) (lf : Bool) (es : List Et) (s z : Int) (w : World) (hnd : NdOk w a n c es) (hck : chkN lf es = 0) (hk : okK (s, z) = true) :
    Calls Try.prog 25 #[.agg #[.bool lf, .slice a n c], .agg #[.int .i64 s, .int .i64 z]] w fun e w' => (∃ i, e = .returned (.tuple #[.int .i64 i, .int .i64 (if lf = true then 11 else 0)]) ∧ (lf = false → i = (childK es (s, z) : Nat))) ∧ Below w.heap.size w w' := by
  obtain ⟨c1, c2, c3, c4⟩ := chkN_zero hck
  have HN := hid hnd.1
  have hln : (n : Int) ≤ 16 := by have := hnd.1; omega
  obtain ⟨g, hg⟩ : ∃ g, g = w.heap.size := ⟨_, rfl⟩
  have HG := hid hg
  obtain ⟨w0, hw0⟩ : ∃ w0, w0 = (w.alloc (.cells #[.bool lf, .slice a n c] 27)).alloc (.cells #[.int .i64 s, .int .i64 z] 50) := ⟨_, rfl⟩
  have HW0 := hid hw0
  have HB0 : Hid (Below w.heap.size w w0) := hid (by rw [hw0]; exact ((Below.refl _ _).alloc (Nat.le_refl _) _).alloc (by simp) _)
  have hx1 : w0.heap[g]? = some (.cells #[.bool lf, .slice a n c] 27 (0, 0)) := by rw [hw0, hg]; exact heap_alloc2_old w _ _
  have hx2 : w0.heap[g + 1]? = some (.cells #[.int .i64 s, .int .i64 z] 50 (0, 0)) := by rw [hw0, hg]; exact heap_alloc2_new w _ _
  have HFD := hid (find_any a n c lf es s z w0 (hnd.below HB0.out) c1 c2 c3)
  have hc0 : w0.cell? ⟨g, 0, none⟩ = some (.bool lf) := by rw [cell_of_row _ _ _ _ _ _ hx1]; rfl
  have hc1 : w0.cell? ⟨g, 1, none⟩ = some (.slice a n c) := by rw [cell_of_row _ _ _ _ _ _ hx1]; rfl
  have hk0 : w0.cell? ⟨g + 1, 0, none⟩ = some (.int .i64 s) := by rw [cell_of_row _ _ _ _ _ _ hx2]; rfl
  have hk1 : w0.cell? ⟨g + 1, 1, none⟩ = some (.int .i64 z) := by rw [cell_of_row _ _ _ _ _ _ hx2]; rfl
  have HKO := hid hk
  have HC4 := hid c4
  obtain ⟨V, hV⟩ : ∃ V : Int, V = if lf = true then 11 else 0 := ⟨_, rfl⟩
  rw [← hV]
  clear hnd hck hk hg hw0 hx1 hx2 c1 c2 c3 c4
  cases lf with
  | true =>
    have HV : Hid (V = 11) := hid (by rw [hV]; rfl)
    clear hV
    go_enter Try.func25, Try.ntmps25
    go_upto_region 1 with fail
    rw [← HW0.out, ← HG.out]
    go_wp2_with fail
    go_ret2
    exact ⟨⟨0, by rw [HV.out]; rfl, fun h => by cases h⟩, HB0.out⟩
  | false =>
    have HV : Hid (V = 0) := hid (by rw [hV]; rfl)
    clear hV
    have hn0 : ((n : Int) == 0) = false := by
      rw [beq_eq_false_iff_ne]
      intro h
      exact HC4.out ⟨rfl, List.eq_nil_of_length_eq_zero (by have := HN.out; omega)⟩
    have hn1 : (n = 0) = False := eq_false (fun h => HC4.out ⟨rfl, List.eq_nil_of_length_eq_zero (by have := HN.out; omega)⟩)
    go_enter Try.func25, Try.ntmps25
    go_upto_region 1 with fail
    rw [← HW0.out, ← HG.out]
    go_wp2_with fail
    refine HFD.out.mono ?_
    clear HFD
    rintro e w1 ⟨⟨r, B, rfl, hf⟩, hb1⟩
    have HB1 : Hid (Below w.heap.size w w1) := hid (HB0.out.trans (hb1.mono HB0.out.size))
    obtain ⟨e1, e2⟩ := hf.ok HKO.out
    have hrn := hf.1
    have hrl : (r : Int) ≤ 16 := by have := HN.out; omega
    have HCH : Hid (childK es (s, z) = if B = true then r else r - 1) := hid (by rw [e1, e2]; rfl)
    clear hb1 hf e1 e2 hrn hc0 hc1 hk0 hk1 HB0 hn0 hn1
    cases B with
    | true =>
      go_wp2_with fail
      go_ret2
      exact ⟨⟨_, by rw [HV.out]; rfl, fun _ => by rw [HCH.out]; rfl⟩, HB1.out⟩
    | false =>
      by_cases h0 : r = 0
      · subst h0
        go_wp2_with fail
        go_ret2
        exact ⟨⟨_, by rw [HV.out]; rfl, fun _ => by rw [HCH.out]; rfl⟩, HB1.out⟩
      · have h1 : (0 < r) = True := eq_true (by omega)
        have h2 : (0 : Int) < r := by omega
        have h3 : ((r - 1 : Nat) : Int) = (r : Int) - 1 := by omega
        clear h0
        go_wp2_with fail
        go_ret2
        exact ⟨⟨_, by rw [HV.out]; rfl, fun _ => by rw [HCH.out]; simp; omega⟩, HB1.out⟩
end Go.Proofs.Ytokeihpmagcneaa
