/- CONTRACTS: do keys rise; what is wrong with a node. -/
import Derived.Test.YtokeihpmagcneaaPnA
namespace Go.Proofs.Ytokeihpmagcneaa
open Go.RowKit Go.Inc

theorem rise_less {es : List Et} (hg : ∀ e ∈ es, okE e = true) {j : Nat} (h : j + 1 < es.length) : riseAt es (j + 1) = lessK (es.getD j et0).1 (es.getD (j + 1) et0).1 := by
  unfold riseAt
  rw [Nat.add_sub_cancel, less_pl (okE_key (hg _ (memGetD (by omega)))) (okE_key (hg _ (memGetD h)))]
set_option maxRecDepth 20000 in
set_option maxHeartbeats 4000000 in
theorem rise_any (ok : Nat → Prop) (a : Option Addr) (n c : Nat) (es : List Et) (w : World) (hs : EtS ok w a es) (hn : n = es.length) (hl : (n : Int) ≤ 1000000) (hg : badN es = false) :
    Calls Try.prog 35 #[.slice a n c] w fun e w' => e = .returned (.bool (!fallN es)) ∧ Below w.heap.size w w' := by
  have HS := hid hs.old
  have HN := hid hn
  have HGA := hid (badN_false.1 hg)
  clear hs hn hg
  go_enter Try.func35, Try.ntmps35
  go_wp2_with fail
  go_loopw [3] (fun i wr => ∃ k : Nat, 1 ≤ k ∧ i = .int .i64 (k : Int) ∧ (k ≤ n ∨ k = 1) ∧ (∀ j, 0 < j → j < k → j < n → riseAt es j = true) ∧ Below w.heap.size w wr) (fun i _ => n - (intOf i).toNat)
  case atStart => exact ⟨1, Nat.le_refl _, rfl, .inr rfl, fun j h0 h1 => by omega, Below.refl _ _⟩
  case round =>
    obtain ⟨k, hk1, rfl, hkn0, ht, hb⟩ := hrel
    have HT := hid ht
    have HB := hid hb
    clear ht hb
    by_cases hlt : (k : Int) < n
    · have hkn : (k < n) = True := eq_true (by omega)
      obtain ⟨j, rfl⟩ : ∃ j, k = j + 1 := ⟨k - 1, by omega⟩
      obtain ⟨b, o, rfl, -⟩ := (HS.out.below HB.out).cell (i := j + 1) (by have := HN.out; omega)
      have hra := rise_less HGA.out (j := j) (by have := HN.out; omega)
      obtain ⟨⟨⟨s1, z1⟩, p1⟩, hx⟩ : ∃ x, x = es.getD j et0 := ⟨_, rfl⟩
      obtain ⟨⟨⟨s2, z2⟩, p2⟩, hx'⟩ : ∃ x, x = es.getD (j + 1) et0 := ⟨_, rfl⟩
      rw [← hx, ← hx'] at hra
      have HC : Hid (∀ x, Grew wr.drew x → x.cell? ⟨b, o + j * 3, none⟩ = some (.int .i64 s1) ∧ x.cell? ⟨b, o + j * 3 + 1, none⟩ = some (.int .i64 z1) ∧ x.cell? ⟨b, o + (j + 1) * 3, none⟩ = some (.int .i64 s2) ∧ x.cell? ⟨b, o + (j + 1) * 3 + 1, none⟩ = some (.int .i64 z2)) := hid fun x hg => by
        have hb : Below wr.heap.size wr x := ⟨hg.os, hg.tape, hg.output, hg.size, hg.block⟩
        have hS := (HS.out.below HB.out).below hb
        obtain ⟨b1, o1, e1, q1, q2, -⟩ := hS.cell (i := j) (by have := HN.out; omega)
        cases e1
        obtain ⟨b2, o2, e2, r1, r2, -⟩ := hS.cell (i := j + 1) (by have := HN.out; omega)
        cases e2
        rw [← hx] at q1 q2
        rw [← hx'] at r1 r2
        exact ⟨q1, q2, r1, r2⟩
      obtain ⟨L, hL⟩ : ∃ L, L = lessK (s1, z1) (s2, z2) := ⟨_, rfl⟩
      have HLESS : Hid (∀ y, Calls Try.prog 23 #[.agg #[.int .i64 s1, .int .i64 z1], .agg #[.int .i64 s2, .int .i64 z2]] y fun e w' => e = .returned (.bool L) ∧ Below y.heap.size y w') := hid fun y => by rw [hL]; exact less_any s1 z1 s2 z2 y
      simp only at hra
      rw [← hL] at hra
      have HRA := hid hra
      have hkj : ((j + 1 : Nat) : Int) - 1 = (j : Int) := by omega
      have hjn : (j < n) = True := eq_true (by omega)
      have hjn2 : (j : Int) < (n : Int) := by omega
      have hjn3 : (j : Int) + 1 < (n : Int) := by omega
      have hjc : ((j + 1 : Nat) : Int) = (j : Int) + 1 := by omega
      have hwj : IntKind.i64.wrap (j : Int) = (j : Int) := by
        have h1 : (j : Int) < 9223372036854775808 := by omega
        rw [IntKind.wrap_i64]
        omega
      clear hx hx' hra hL
      go_wp2_with fail
      refine wp_region_grows 13 [EqN (.slice (some ⟨b, o, none⟩) n c), EqN (.int .i64 ((j + 1 : Nat) : Int)), EqN (.int .i64 (j : Int)), EqN (.pointer (some ⟨b, o + j * 3, none⟩)), EqN (.pointer (some ⟨b, o + j * 3, none⟩)), EqN (.agg #[.int .i64 s1, .int .i64 z1]), EqN (.slice (some ⟨b, o, none⟩) n c), EqN (.int .i64 ((j + 1 : Nat) : Int)), EqN (.pointer (some ⟨b, o + (j + 1) * 3, none⟩)), EqN (.pointer (some ⟨b, o + (j + 1) * 3, none⟩)), EqN (.agg #[.int .i64 s2, .int .i64 z2]), EqN (.bool L), EqN (.bool (!L))] (by kernel_rfl) (by decide) (by kernel_rfl) ?_ ?_ ?_
      · repeat' (first | exact List.forall_mem_nil _ | refine List.forall_mem_cons.2 ⟨?_, ?_⟩)
        all_goals
          intro w w' v hw h
          first | exact h | exact h
      · simp only [AllLt]
        refine ⟨⟨⟨⟨⟨⟨⟨⟨⟨⟨⟨⟨⟨trivial, ?_⟩, ?_⟩, ?_⟩, ?_⟩, ?_⟩, ?_⟩, ?_⟩, ?_⟩, ?_⟩, ?_⟩, ?_⟩, ?_⟩, ?_⟩
        all_goals
          intro o' ho
          simp at ho
          subst ho
          intro ρ w5 hR hL hS hG
          obtain ⟨hl1, hl2, -⟩ := hL
        · refine plainG rfl ?_
          intro bA K Q' hK
          have e0 := hS 0 (by kernel_rfl)
          change ρ (.tmp 0) = _ at e0
          simp only [execOp]
          go_simp
          exact hK _ _ rfl (Grew.refl _)
        · refine plainG rfl ?_
          intro bA K Q' hK
          have e3 := hS 3 (by kernel_rfl)
          change ρ (.tmp 3) = _ at e3
          simp only [execOp]
          go_simp
          exact hK _ _ rfl (Grew.refl _)
        · refine plainG rfl ?_
          intro bA K Q' hK
          have e11 := hG 1 11 (by decide) (by kernel_rfl) (by kernel_rfl)
          change ρ (.tmp 11) = _ at e11
          simp only [execOp]
          go_simp
          exact hK _ _ rfl (Grew.refl _)
        · refine plainG rfl ?_
          intro bA K Q' hK
          have e10 := hG 0 10 (by decide) (by kernel_rfl) (by kernel_rfl)
          have e12 := hG 2 12 (by decide) (by kernel_rfl) (by kernel_rfl)
          change ρ (.tmp 10) = _ at e10
          change ρ (.tmp 12) = _ at e12
          simp only [execOp]
          go_simp
          exact hK _ _ rfl (Grew.refl _)
        · refine plainG rfl ?_
          intro bA K Q' hK
          have e13 := hG 3 13 (by decide) (by kernel_rfl) (by kernel_rfl)
          change ρ (.tmp 13) = _ at e13
          simp only [execOp]
          go_simp
          exact hK _ _ rfl (Grew.refl _)
        · refine plainG rfl ?_
          intro bA K Q' hK
          have e14 := hG 4 14 (by decide) (by kernel_rfl) (by kernel_rfl)
          change ρ (.tmp 14) = _ at e14
          obtain ⟨y1, y2, y3, y4⟩ := HC.out w5 hR
          simp only [execOp]
          go_simp
          exact hK _ _ rfl (Grew.refl _)
        · refine plainG rfl ?_
          intro bA K Q' hK
          have e0 := hS 0 (by kernel_rfl)
          change ρ (.tmp 0) = _ at e0
          simp only [execOp]
          go_simp
          exact hK _ _ rfl (Grew.refl _)
        · refine plainG rfl ?_
          intro bA K Q' hK
          have e3 := hS 3 (by kernel_rfl)
          change ρ (.tmp 3) = _ at e3
          simp only [execOp]
          go_simp
          exact hK _ _ rfl (Grew.refl _)
        · refine plainG rfl ?_
          intro bA K Q' hK
          have e16 := hG 6 16 (by decide) (by kernel_rfl) (by kernel_rfl)
          have e17 := hG 7 17 (by decide) (by kernel_rfl) (by kernel_rfl)
          change ρ (.tmp 16) = _ at e16
          change ρ (.tmp 17) = _ at e17
          simp only [execOp]
          go_simp
          exact hK _ _ rfl (Grew.refl _)
        · refine plainG rfl ?_
          intro bA K Q' hK
          have e18 := hG 8 18 (by decide) (by kernel_rfl) (by kernel_rfl)
          change ρ (.tmp 18) = _ at e18
          simp only [execOp]
          go_simp
          exact hK _ _ rfl (Grew.refl _)
        · refine plainG rfl ?_
          intro bA K Q' hK
          have e19 := hG 9 19 (by decide) (by kernel_rfl) (by kernel_rfl)
          change ρ (.tmp 19) = _ at e19
          obtain ⟨y1, y2, y3, y4⟩ := HC.out w5 hR
          simp only [execOp]
          go_simp
          exact hK _ _ rfl (Grew.refl _)
        · refine plainG rfl ?_
          intro bA K Q' hK
          have e15 := hG 5 15 (by decide) (by kernel_rfl) (by kernel_rfl)
          have e20 := hG 10 20 (by decide) (by kernel_rfl) (by kernel_rfl)
          change ρ (.tmp 15) = _ at e15
          change ρ (.tmp 20) = _ at e20
          simp only [execOp]
          go_simp
          refine (HLESS.out w5).mono ?_
          rintro r9 w9 ⟨rfl, hb9⟩
          exact hK _ _ rfl hb9
        · refine plainG rfl ?_
          intro bA K Q' hK
          have e21 := hG 11 21 (by decide) (by kernel_rfl) (by kernel_rfl)
          change ρ (.tmp 21) = _ at e21
          simp only [execOp]
          go_simp
          exact hK _ _ rfl (Grew.refl _)
      · intro vv w5 hR hG
        have h12 : vv 12 = .bool (!L) := hG.2
        have hb : Below wr.heap.size wr w5 := ⟨hR.os, hR.tape, hR.output, hR.size, hR.block⟩
        have HB5 : Hid (Below w.heap.size w w5) := hid (HB.out.trans (hb.mono HB.out.size))
        clear hG hR hb HC HLESS
        simp [stG, stU, dstAt, Act.put, h12]
        clear h12
        cases L with
        | true =>
          go_wp2_with fail
          go_roundw
          case rel => exact ⟨j + 1 + 1, by omega, by go_num, .inl (by have := of_eq_true hkn; omega), fun i h0 h1 h2 => by
            by_cases e : i = j + 1
            · subst e; exact HRA.out
            · exact HT.out i h0 (by omega) h2, HB5.out⟩
          case measure => simp [intOf]; omega
        | false =>
          have HO : Hid (fallN es = true) := hid (fallN_true (i := j + 1) (by have := HN.out; have := of_eq_true hkn; omega) (by omega) HRA.out)
          go_wp2_with fail
          go_ret
          exact ⟨by rw [HO.out]; rfl, HB5.out⟩
    · have hkf2 : (k < n) = False := eq_false (by omega)
      have HFF : Hid (fallN es = false) := hid (fallN_false.2 fun i h0 hi => HT.out i h0 (by have := HN.out; omega) (by have := HN.out; omega))
      clear hlt
      go_wp2_with fail
      go_ret
      exact ⟨by rw [HFF.out]; rfl, HB.out⟩
set_option maxRecDepth 20000 in
set_option maxHeartbeats 4000000 in
theorem check_any (a : Option Addr) (n c : Nat) (lf : Bool) (es : List Et) (w : World) (hnd : NdOk w a n c es) :
    Calls Try.prog 12 #[.agg #[.bool lf, .slice a n c]] w fun e w' => e = .returned (.int .i64 (chkN lf es)) ∧ Below w.heap.size w w' := by
  obtain ⟨hn, hs, hl0, -⟩ := hnd
  have hl : (n : Int) ≤ 1000000 := by omega
  have HS := hid hs
  have HN := hid hn
  obtain ⟨g, hg⟩ : ∃ g, g = w.heap.size := ⟨_, rfl⟩
  have HG := hid hg
  obtain ⟨w0, hw0⟩ : ∃ w0, w0 = w.alloc (.cells #[.bool lf, .slice a n c] 27) := ⟨_, rfl⟩
  have HW0 := hid hw0
  have HB0 : Hid (Below w.heap.size w w0) := hid (by rw [hw0]; exact allocBelow w _)
  have HX0 : Hid (w0.heap[g]? = some (.cells #[.bool lf, .slice a n c] 27 (0, 0))) := hid (by rw [hw0, hg]; exact heap_alloc_new w _)
  have hb0 : w0.cell? ⟨g, 0, none⟩ = some (.bool lf) := by rw [cell_of_row _ _ _ _ _ _ HX0.out]; rfl
  have hb1 : w0.cell? ⟨g, 1, none⟩ = some (.slice a n c) := by rw [cell_of_row _ _ _ _ _ _ HX0.out]; rfl
  have HCON := hid (containsW_any _ a n c es w0 (HS.out.below HB0.out) hn hl)
  clear hs hn hg hw0 hl0
  by_cases hlong : (16 : Int) < n
  · have hd : decide ((16 : Int) < n) = true := decide_eq_true hlong
    have hd2 : (16 < n) = True := eq_true (by omega)
    have HO : Hid (chkN lf es = 2) := hid (chkN_long (by have := HN.out; omega))
    clear hlong HCON
    go_enter Try.func12, Try.ntmps12
    go_upto_region 1 with fail
    rw [← HW0.out, ← HG.out]
    go_wp2_with fail
    go_ret
    exact ⟨by rw [HO.out]; rfl, HB0.out⟩
  have hd : decide ((16 : Int) < n) = false := decide_eq_false hlong
  have hd2 : (16 < n) = False := eq_false (by omega)
  have HSH : Hid (es.length ≤ 16) := hid (by have := HN.out; omega)
  clear hlong
  go_enter Try.func12, Try.ntmps12
  go_upto_region 1 with fail
  rw [← HW0.out, ← HG.out]
  go_wp2_with fail
  refine HCON.out.mono ?_
  clear HCON
  rintro e w1 ⟨rfl, hb⟩
  have HB1 : Hid (Below w.heap.size w w1) := hid (HB0.out.trans (hb.mono HB0.out.size))
  have HX1 := hid (row_below HX0.out hb)
  clear hb hb0 hb1 HB0 HX0 HW0
  have hb0 : w1.cell? ⟨g, 0, none⟩ = some (.bool lf) := by rw [cell_of_row _ _ _ _ _ _ HX1.out]; rfl
  have hb1 : w1.cell? ⟨g, 1, none⟩ = some (.slice a n c) := by rw [cell_of_row _ _ _ _ _ _ HX1.out]; rfl
  obtain ⟨BD, hbd⟩ : ∃ x, x = badN es := ⟨_, rfl⟩
  rw [← hbd]
  cases BD with
  | true =>
    have HO : Hid (chkN lf es = 10) := hid (chkN_bad HSH.out hbd.symm)
    clear hbd
    go_wp2_with fail
    go_ret
    exact ⟨by rw [HO.out]; rfl, HB1.out⟩
  | false =>
    have HBF := hid hbd.symm
    have HRI := hid (rise_any _ a n c es w1 (HS.out.below HB1.out) HN.out hl HBF.out)
    clear hbd
    go_wp2_with fail
    refine HRI.out.mono ?_
    clear HRI
    rintro e w2 ⟨rfl, hb⟩
    have HB2 : Hid (Below w.heap.size w w2) := hid (HB1.out.trans (hb.mono HB1.out.size))
    have HX2 := hid (row_below HX1.out hb)
    clear hb hb0 hb1 HB1 HX1
    have hb0 : w2.cell? ⟨g, 0, none⟩ = some (.bool lf) := by rw [cell_of_row _ _ _ _ _ _ HX2.out]; rfl
    have hb1 : w2.cell? ⟨g, 1, none⟩ = some (.slice a n c) := by rw [cell_of_row _ _ _ _ _ _ HX2.out]; rfl
    obtain ⟨FL, hfl⟩ : ∃ x, x = fallN es := ⟨_, rfl⟩
    rw [← hfl]
    cases FL with
    | true =>
      have HO : Hid (chkN lf es = 3) := hid (chkN_fall HSH.out HBF.out hfl.symm)
      clear hfl
      go_wp2_with fail
      go_ret
      exact ⟨by rw [HO.out]; rfl, HB2.out⟩
    | false =>
      have HFF := hid hfl.symm
      clear hfl
      by_cases hnone : lf = false ∧ es = []
      · have HO : Hid (chkN lf es = 3) := hid (chkN_none HSH.out HBF.out HFF.out hnone)
        have hl0 : lf = false := hnone.1
        have hn0 : n = 0 := by rw [HN.out, hnone.2]; rfl
        subst hl0 hn0
        clear hnone
        go_wp2_with fail
        go_ret
        exact ⟨by rw [HO.out]; rfl, HB2.out⟩
      · have HO : Hid (chkN lf es = 0) := hid (chkN_ok HSH.out HBF.out HFF.out hnone)
        cases lf
        · have hn0 : ((n : Int) == 0) = false := by
            rw [beq_eq_false_iff_ne]
            intro h
            exact hnone ⟨rfl, List.eq_nil_of_length_eq_zero (by have := HN.out; omega)⟩
          have hn1 : (n = 0) = False := eq_false (fun h => hnone ⟨rfl, List.eq_nil_of_length_eq_zero (by have := HN.out; omega)⟩)
          clear hnone
          go_wp2_with fail
          go_ret
          exact ⟨by rw [HO.out]; rfl, HB2.out⟩
        · clear hnone
          go_wp2_with fail
          go_ret
          exact ⟨by rw [HO.out]; rfl, HB2.out⟩
end Go.Proofs.Ytokeihpmagcneaa
