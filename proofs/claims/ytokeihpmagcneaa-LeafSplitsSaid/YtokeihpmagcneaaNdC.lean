/- CONTRACTS: the document's Check, Same of nodes. -/
import Derived.Test.YtokeihpmagcneaaNdB
namespace Go.Proofs.Ytokeihpmagcneaa
open Go.RowKit Go.Inc

set_option maxRecDepth 20000 in
set_option maxHeartbeats 4000000 in
theorem rCheck_any (ok : Nat → Prop) (a : Option Addr) (c : Nat) (lf : Bool) (es : List Et) (w : World) (hs : EtS ok w a es) (hl : (es.length : Int) ≤ 1000000) :
    Calls Try.prog 11 #[.agg #[.bool lf, .slice a es.length c]] w fun e w' => e = .returned (.int .i64 (chkN lf es)) ∧ Below w.heap.size w w' := by
  have HS := hid hs.old
  obtain ⟨n, hn⟩ : ∃ n, n = es.length := ⟨_, rfl⟩
  have HN := hid hn
  obtain ⟨g, hg⟩ : ∃ g, g = w.heap.size := ⟨_, rfl⟩
  have HG := hid hg
  obtain ⟨w0, hw0⟩ : ∃ w0, w0 = w.alloc (.cells #[.bool lf, .slice a n c] 24) := ⟨_, rfl⟩
  have HW0 := hid hw0
  have HB0 : Hid (Below w.heap.size w w0) := hid (by rw [hw0]; exact allocBelow w _)
  have HX0 : Hid (w0.heap[g]? = some (.cells #[.bool lf, .slice a n c] 24 (0, 0))) := hid (by rw [hw0, hg]; exact heap_alloc_new w _)
  rw [← hn] at hl ⊢
  clear hs hn hg hw0
  by_cases hlong : (16 : Int) < n
  · have hd : decide ((16 : Int) < n) = true := decide_eq_true hlong
    have hd2 : (16 < n) = True := eq_true (by omega)
    have HO : Hid (chkN lf es = 2) := hid (chkN_long (by have := HN.out; omega))
    clear hlong
    go_enter Try.func11, Try.ntmps11
    go_wp2_with fail
    rw [← HW0.out]
    go_ret
    exact ⟨by rw [HO.out]; rfl, HB0.out⟩
  have hd2 : (16 < n) = False := eq_false (by omega)
  have HSH : Hid (es.length ≤ 16) := hid (by have := HN.out; omega)
  go_enter Try.func11, Try.ntmps11
  go_wp2_with fail
  rw [← HW0.out, ← HG.out]
  clear hlong
  go_loopw [3] (fun i wr => ∃ k : Nat, k ≤ n ∧ i = .int .i64 (k : Int) ∧ (∀ e ∈ es.take k, okE e = true) ∧ wr.heap[g]? = some (.cells #[.bool lf, .slice a n c] 24 (0, 0)) ∧ Below w.heap.size w wr) (fun i _ => n - (intOf i).toNat)
  case atStart => exact ⟨0, Nat.zero_le _, rfl, by simp, HX0.out, HB0.out⟩
  case round =>
    clear HX0 HB0
    obtain ⟨k, hk, rfl, hgd, hx, hb⟩ := hrel
    have HGD := hid hgd
    have HX := hid hx
    have HB := hid hb
    have hb0 : wr.cell? ⟨g, 0, none⟩ = some (.bool lf) := by rw [cell_of_row _ _ _ _ _ _ hx]; rfl
    have hb1 : wr.cell? ⟨g, 1, none⟩ = some (.slice a n c) := by rw [cell_of_row _ _ _ _ _ _ hx]; rfl
    clear hgd hx hb
    by_cases hlt : (k : Int) < n
    · have hkn : (k < n) = True := eq_true (by omega)
      obtain ⟨b, o, rfl, hx1, hx2, hx3⟩ := (HS.out.below HB.out).cell (i := k) (by have := HN.out; omega)
      have HSN := hid (takeSnoc (bs := es) (d := et0) (k := k) (by have := HN.out; omega))
      have HM := hid (memGetD (zs := es) (d := et0) (k := k) (by have := HN.out; omega))
      obtain ⟨⟨⟨s, z⟩, p⟩, hx⟩ : ∃ x, x = es.getD k et0 := ⟨_, rfl⟩
      rw [← hx] at hx1 hx2 hx3 HSN HM
      simp only at hx1 hx2 hx3
      have HR := hid (refRight_any s z p wr)
      clear hx
      by_cases hox : okE ((s, z), p) = true
      · rw [hox] at HR
        have HOX := hid hox
        clear hox
        go_wp2_with fail
        refine HR.out.mono ?_
        clear HR
        rintro e w1 ⟨rfl, hb1'⟩
        have HB1 : Hid (Below w.heap.size w w1) := hid (HB.out.trans (hb1'.mono HB.out.size))
        have HX1 := hid (row_below HX.out hb1')
        clear hb1' hb0 hb1 hx1 hx2 hx3 HB HX
        go_wp2_with fail
        go_roundw
        case rel => exact ⟨k + 1, by omega, by go_num, by rw [HSN.out]; intro x hx; rcases snocMem.1 hx with h | h; exact HGD.out x h; subst h; exact HOX.out, HX1.out, HB1.out⟩
        case measure => simp [intOf]; omega
      · have HO : Hid (chkN lf es = 10) := hid (chkN_bad HSH.out (badN_true HM.out (by simpa using hox)))
        rw [show okE ((s, z), p) = false by simpa using hox] at HR
        clear hox
        go_wp2_with fail
        refine HR.out.mono ?_
        clear HR
        rintro e w1 ⟨rfl, hb1'⟩
        have HB1 : Hid (Below w.heap.size w w1) := hid (HB.out.trans (hb1'.mono HB.out.size))
        clear hb1' hb0 hb1 hx1 hx2 hx3
        go_wp2_with fail
        go_ret
        exact ⟨by rw [HO.out]; rfl, HB1.out⟩
    · have hkf : (k < n) = False := eq_false (by omega)
      have HGA : Hid (∀ e ∈ es, okE e = true) := hid (by have h := HGD.out; rw [show k = n by omega, HN.out, List.take_length] at h; exact h)
      have HBF : Hid (badN es = false) := hid (badN_false.2 HGA.out)
      clear hlt HGD
      go_wp2_with fail
      go_loopw [4] (fun i wr => ∃ k : Nat, 1 ≤ k ∧ i = .int .i64 (k : Int) ∧ (k ≤ n ∨ k = 1) ∧ (∀ j, 0 < j → j < k → j < n → riseAt es j = true) ∧ wr.heap[g]? = some (.cells #[.bool lf, .slice a n c] 24 (0, 0)) ∧ Below w.heap.size w wr) (fun i _ => n - (intOf i).toNat)
      case atStart => exact ⟨1, Nat.le_refl _, rfl, .inr rfl, fun j h0 h1 => by omega, HX.out, HB.out⟩
      case round =>
        clear HX HB hb0 hb1
        obtain ⟨k, hk1, rfl, hkn0, ht, hx, hb⟩ := hrel
        have HT := hid ht
        have HX := hid hx
        have HB := hid hb
        have hb0 : wr.cell? ⟨g, 0, none⟩ = some (.bool lf) := by rw [cell_of_row _ _ _ _ _ _ hx]; rfl
        have hb1 : wr.cell? ⟨g, 1, none⟩ = some (.slice a n c) := by rw [cell_of_row _ _ _ _ _ _ hx]; rfl
        clear ht hx hb
        by_cases hlt : (k : Int) < n
        · have hkn : (k < n) = True := eq_true (by omega)
          obtain ⟨j, rfl⟩ : ∃ j, k = j + 1 := ⟨k - 1, by omega⟩
          obtain ⟨b, o, rfl, -⟩ := (HS.out.below HB.out).cell (i := j + 1) (by have := HN.out; omega)
          have HM1 := hid (memGetD (zs := es) (d := et0) (k := j) (by have := HN.out; omega))
          have HM2 := hid (memGetD (zs := es) (d := et0) (k := j + 1) (by have := HN.out; omega))
          have hra : riseAt es (j + 1) = decide (plK (es.getD j et0).1 < plK (es.getD (j + 1) et0).1) := by unfold riseAt; rw [Nat.add_sub_cancel]
          obtain ⟨⟨⟨s1, z1⟩, p1⟩, hx⟩ : ∃ x, x = es.getD j et0 := ⟨_, rfl⟩
          obtain ⟨⟨⟨s2, z2⟩, p2⟩, hx'⟩ : ∃ x, x = es.getD (j + 1) et0 := ⟨_, rfl⟩
          rw [← hx] at HM1 hra
          rw [← hx'] at HM2 hra
          have HO1 : Hid (okK (s1, z1) = true) := hid (okE_key (HGA.out _ HM1.out))
          have HO2 : Hid (okK (s2, z2) = true) := hid (okE_key (HGA.out _ HM2.out))
          have HC : Hid (∀ x, Grew wr.drew x → x.cell? ⟨g, 1, none⟩ = some (.slice (some ⟨b, o, none⟩) n c) ∧ x.cell? ⟨b, o + j * 3, none⟩ = some (.int .i64 s1) ∧ x.cell? ⟨b, o + j * 3 + 1, none⟩ = some (.int .i64 z1) ∧ x.cell? ⟨b, o + (j + 1) * 3, none⟩ = some (.int .i64 s2) ∧ x.cell? ⟨b, o + (j + 1) * 3 + 1, none⟩ = some (.int .i64 z2)) := hid fun x hg => by
            have hb : Below wr.heap.size wr x := ⟨hg.os, hg.tape, hg.output, hg.size, hg.block⟩
            have hS := (HS.out.below HB.out).below hb
            obtain ⟨b1, o1, e1, q1, q2, -⟩ := hS.cell (i := j) (by have := HN.out; omega)
            cases e1
            obtain ⟨b2, o2, e2, r1, r2, -⟩ := hS.cell (i := j + 1) (by have := HN.out; omega)
            cases e2
            rw [← hx] at q1 q2
            rw [← hx'] at r1 r2
            exact ⟨(hb.cell (cell_lt hb1)).trans hb1, q1, q2, r1, r2⟩
          have HRA := hid hra
          have hkj : ((j + 1 : Nat) : Int) - 1 = (j : Int) := by omega
          have hjn : (j < n) = True := eq_true (by omega)
          have hjn2 : (j : Int) < (n : Int) := by omega
          have hjn3 : (j : Int) + 1 < (n : Int) := by omega
          have hjc : ((j + 1 : Nat) : Int) = (j : Int) + 1 := by omega
          have hwj : IntKind.i64.wrap (j : Int) = (j : Int) := by
            have h1 : (j : Int) < 9223372036854775808 := by omega
            rw [IntKind.wrap_i64]
            omega
          clear hx hx' hra hb0
          by_cases hrise : plK (s1, z1) < plK (s2, z2)
          · have hdd : decide (plK (s2, z2) ≤ plK (s1, z1)) = false := decide_eq_false (by omega)
            have HRT : Hid (riseAt es (j + 1) = true) := hid (by rw [HRA.out]; exact decide_eq_true hrise)
            clear hrise HRA
            go_wp2_with fail
            refine wp_region_grows 16 [EqN (.pointer (some ⟨g, 1, none⟩)), EqN (.slice (some ⟨b, o, none⟩) n c), EqN (.int .i64 ((j + 1 : Nat) : Int)), EqN (.int .i64 (j : Int)), EqN (.pointer (some ⟨b, o + j * 3, none⟩)), EqN (.pointer (some ⟨b, o + j * 3, none⟩)), EqN (.agg #[.int .i64 s1, .int .i64 z1]), EqN (.int .i64 (plK (s1, z1))), EqN (.pointer (some ⟨g, 1, none⟩)), EqN (.slice (some ⟨b, o, none⟩) n c), EqN (.int .i64 ((j + 1 : Nat) : Int)), EqN (.pointer (some ⟨b, o + (j + 1) * 3, none⟩)), EqN (.pointer (some ⟨b, o + (j + 1) * 3, none⟩)), EqN (.agg #[.int .i64 s2, .int .i64 z2]), EqN (.int .i64 (plK (s2, z2))), EqN (.bool false)] (by kernel_rfl) (by decide) (by kernel_rfl) ?_ ?_ ?_
            · repeat' (first | exact List.forall_mem_nil _ | refine List.forall_mem_cons.2 ⟨?_, ?_⟩)
              all_goals
                intro w w' v hw h
                first | exact h | exact h
            · simp only [AllLt]
              refine ⟨⟨⟨⟨⟨⟨⟨⟨⟨⟨⟨⟨⟨⟨⟨⟨trivial, ?_⟩, ?_⟩, ?_⟩, ?_⟩, ?_⟩, ?_⟩, ?_⟩, ?_⟩, ?_⟩, ?_⟩, ?_⟩, ?_⟩, ?_⟩, ?_⟩, ?_⟩, ?_⟩
              all_goals
                intro o' ho
                simp at ho
                subst ho
                intro ρ w5 hR hL hS hG
                obtain ⟨hl1, hl2, -⟩ := hL
              · refine plainG rfl ?_
                intro bA K Q' hK
                have e1 := hS 1 (by kernel_rfl)
                change ρ (.tmp 1) = _ at e1
                simp only [execOp]
                go_simp
                exact hK _ _ rfl (Grew.refl _)
              · refine plainG rfl ?_
                intro bA K Q' hK
                have e30 := hG 0 30 (by decide) (by kernel_rfl) (by kernel_rfl)
                change ρ (.tmp 30) = _ at e30
                obtain ⟨y0, y1, y2, y3, y4⟩ := HC.out w5 hR
                simp only [execOp]
                go_simp
                exact hK _ _ rfl (Grew.refl _)
              · refine plainG rfl ?_
                intro bA K Q' hK
                have e4 := hS 4 (by kernel_rfl)
                change ρ (.tmp 4) = _ at e4
                simp only [execOp]
                go_simp
                exact hK _ _ rfl (Grew.refl _)
              · refine plainG rfl ?_
                intro bA K Q' hK
                have e32 := hG 2 32 (by decide) (by kernel_rfl) (by kernel_rfl)
                change ρ (.tmp 32) = _ at e32
                simp only [execOp]
                go_simp
                exact hK _ _ rfl (Grew.refl _)
              · refine plainG rfl ?_
                intro bA K Q' hK
                have e31 := hG 1 31 (by decide) (by kernel_rfl) (by kernel_rfl)
                have e33 := hG 3 33 (by decide) (by kernel_rfl) (by kernel_rfl)
                change ρ (.tmp 31) = _ at e31
                change ρ (.tmp 33) = _ at e33
                simp only [execOp]
                go_simp
                exact hK _ _ rfl (Grew.refl _)
              · refine plainG rfl ?_
                intro bA K Q' hK
                have e34 := hG 4 34 (by decide) (by kernel_rfl) (by kernel_rfl)
                change ρ (.tmp 34) = _ at e34
                simp only [execOp]
                go_simp
                exact hK _ _ rfl (Grew.refl _)
              · refine plainG rfl ?_
                intro bA K Q' hK
                have e35 := hG 5 35 (by decide) (by kernel_rfl) (by kernel_rfl)
                change ρ (.tmp 35) = _ at e35
                obtain ⟨y0, y1, y2, y3, y4⟩ := HC.out w5 hR
                simp only [execOp]
                go_simp
                exact hK _ _ rfl (Grew.refl _)
              · refine plainG rfl ?_
                intro bA K Q' hK
                have e36 := hG 6 36 (by decide) (by kernel_rfl) (by kernel_rfl)
                change ρ (.tmp 36) = _ at e36
                simp only [execOp]
                go_simp
                refine (place_ok (s1, z1) w5 HO1.out).mono ?_
                rintro r9 w9 ⟨rfl, hb9⟩
                exact hK _ _ rfl hb9
              · refine plainG rfl ?_
                intro bA K Q' hK
                have e1 := hS 1 (by kernel_rfl)
                change ρ (.tmp 1) = _ at e1
                simp only [execOp]
                go_simp
                exact hK _ _ rfl (Grew.refl _)
              · refine plainG rfl ?_
                intro bA K Q' hK
                have e38 := hG 8 38 (by decide) (by kernel_rfl) (by kernel_rfl)
                change ρ (.tmp 38) = _ at e38
                obtain ⟨y0, y1, y2, y3, y4⟩ := HC.out w5 hR
                simp only [execOp]
                go_simp
                exact hK _ _ rfl (Grew.refl _)
              · refine plainG rfl ?_
                intro bA K Q' hK
                have e4 := hS 4 (by kernel_rfl)
                change ρ (.tmp 4) = _ at e4
                simp only [execOp]
                go_simp
                exact hK _ _ rfl (Grew.refl _)
              · refine plainG rfl ?_
                intro bA K Q' hK
                have e39 := hG 9 39 (by decide) (by kernel_rfl) (by kernel_rfl)
                have e40 := hG 10 40 (by decide) (by kernel_rfl) (by kernel_rfl)
                change ρ (.tmp 39) = _ at e39
                change ρ (.tmp 40) = _ at e40
                simp only [execOp]
                go_simp
                exact hK _ _ rfl (Grew.refl _)
              · refine plainG rfl ?_
                intro bA K Q' hK
                have e41 := hG 11 41 (by decide) (by kernel_rfl) (by kernel_rfl)
                change ρ (.tmp 41) = _ at e41
                simp only [execOp]
                go_simp
                exact hK _ _ rfl (Grew.refl _)
              · refine plainG rfl ?_
                intro bA K Q' hK
                have e42 := hG 12 42 (by decide) (by kernel_rfl) (by kernel_rfl)
                change ρ (.tmp 42) = _ at e42
                obtain ⟨y0, y1, y2, y3, y4⟩ := HC.out w5 hR
                simp only [execOp]
                go_simp
                exact hK _ _ rfl (Grew.refl _)
              · refine plainG rfl ?_
                intro bA K Q' hK
                have e43 := hG 13 43 (by decide) (by kernel_rfl) (by kernel_rfl)
                change ρ (.tmp 43) = _ at e43
                simp only [execOp]
                go_simp
                refine (place_ok (s2, z2) w5 HO2.out).mono ?_
                rintro r9 w9 ⟨rfl, hb9⟩
                exact hK _ _ rfl hb9
              · refine plainG rfl ?_
                intro bA K Q' hK
                have e37 := hG 7 37 (by decide) (by kernel_rfl) (by kernel_rfl)
                have e44 := hG 14 44 (by decide) (by kernel_rfl) (by kernel_rfl)
                change ρ (.tmp 37) = _ at e37
                change ρ (.tmp 44) = _ at e44
                simp only [execOp]
                go_simp
                exact hK _ _ rfl (Grew.refl _)
            · intro vv w5 hR hG
              have h15 : vv 15 = .bool false := hG.2
              have hb : Below wr.heap.size wr w5 := ⟨hR.os, hR.tape, hR.output, hR.size, hR.block⟩
              have HB5 : Hid (Below w.heap.size w w5) := hid (HB.out.trans (hb.mono HB.out.size))
              have HX5 := hid (row_below HX.out hb)
              clear hG hR hb HC
              simp [stG, stU, dstAt, Act.put, h15]
              clear h15
              go_wp2_with fail
              go_roundw
              case rel => exact ⟨j + 1 + 1, by omega, by go_num, .inl (by have := of_eq_true hkn; omega), fun i h0 h1 h2 => by
                by_cases e : i = j + 1
                · subst e; exact HRT.out
                · exact HT.out i h0 (by omega) h2, HX5.out, HB5.out⟩
              case measure => have := of_eq_true hkn; simp [intOf]; omega
          · have hdd : decide (plK (s2, z2) ≤ plK (s1, z1)) = true := decide_eq_true (by omega)
            have HO : Hid (chkN lf es = 3) := hid (chkN_fall HSH.out HBF.out (fallN_true (i := j + 1) (by have := HN.out; omega) (by omega) (by rw [HRA.out]; exact decide_eq_false hrise)))
            clear hrise HRA
            go_wp2_with fail
            refine wp_region_grows 16 [EqN (.pointer (some ⟨g, 1, none⟩)), EqN (.slice (some ⟨b, o, none⟩) n c), EqN (.int .i64 ((j + 1 : Nat) : Int)), EqN (.int .i64 (j : Int)), EqN (.pointer (some ⟨b, o + j * 3, none⟩)), EqN (.pointer (some ⟨b, o + j * 3, none⟩)), EqN (.agg #[.int .i64 s1, .int .i64 z1]), EqN (.int .i64 (plK (s1, z1))), EqN (.pointer (some ⟨g, 1, none⟩)), EqN (.slice (some ⟨b, o, none⟩) n c), EqN (.int .i64 ((j + 1 : Nat) : Int)), EqN (.pointer (some ⟨b, o + (j + 1) * 3, none⟩)), EqN (.pointer (some ⟨b, o + (j + 1) * 3, none⟩)), EqN (.agg #[.int .i64 s2, .int .i64 z2]), EqN (.int .i64 (plK (s2, z2))), EqN (.bool true)] (by kernel_rfl) (by decide) (by kernel_rfl) ?_ ?_ ?_
            · repeat' (first | exact List.forall_mem_nil _ | refine List.forall_mem_cons.2 ⟨?_, ?_⟩)
              all_goals
                intro w w' v hw h
                first | exact h | exact h
            · simp only [AllLt]
              refine ⟨⟨⟨⟨⟨⟨⟨⟨⟨⟨⟨⟨⟨⟨⟨⟨trivial, ?_⟩, ?_⟩, ?_⟩, ?_⟩, ?_⟩, ?_⟩, ?_⟩, ?_⟩, ?_⟩, ?_⟩, ?_⟩, ?_⟩, ?_⟩, ?_⟩, ?_⟩, ?_⟩
              all_goals
                intro o' ho
                simp at ho
                subst ho
                intro ρ w5 hR hL hS hG
                obtain ⟨hl1, hl2, -⟩ := hL
              · refine plainG rfl ?_
                intro bA K Q' hK
                have e1 := hS 1 (by kernel_rfl)
                change ρ (.tmp 1) = _ at e1
                simp only [execOp]
                go_simp
                exact hK _ _ rfl (Grew.refl _)
              · refine plainG rfl ?_
                intro bA K Q' hK
                have e30 := hG 0 30 (by decide) (by kernel_rfl) (by kernel_rfl)
                change ρ (.tmp 30) = _ at e30
                obtain ⟨y0, y1, y2, y3, y4⟩ := HC.out w5 hR
                simp only [execOp]
                go_simp
                exact hK _ _ rfl (Grew.refl _)
              · refine plainG rfl ?_
                intro bA K Q' hK
                have e4 := hS 4 (by kernel_rfl)
                change ρ (.tmp 4) = _ at e4
                simp only [execOp]
                go_simp
                exact hK _ _ rfl (Grew.refl _)
              · refine plainG rfl ?_
                intro bA K Q' hK
                have e32 := hG 2 32 (by decide) (by kernel_rfl) (by kernel_rfl)
                change ρ (.tmp 32) = _ at e32
                simp only [execOp]
                go_simp
                exact hK _ _ rfl (Grew.refl _)
              · refine plainG rfl ?_
                intro bA K Q' hK
                have e31 := hG 1 31 (by decide) (by kernel_rfl) (by kernel_rfl)
                have e33 := hG 3 33 (by decide) (by kernel_rfl) (by kernel_rfl)
                change ρ (.tmp 31) = _ at e31
                change ρ (.tmp 33) = _ at e33
                simp only [execOp]
                go_simp
                exact hK _ _ rfl (Grew.refl _)
              · refine plainG rfl ?_
                intro bA K Q' hK
                have e34 := hG 4 34 (by decide) (by kernel_rfl) (by kernel_rfl)
                change ρ (.tmp 34) = _ at e34
                simp only [execOp]
                go_simp
                exact hK _ _ rfl (Grew.refl _)
              · refine plainG rfl ?_
                intro bA K Q' hK
                have e35 := hG 5 35 (by decide) (by kernel_rfl) (by kernel_rfl)
                change ρ (.tmp 35) = _ at e35
                obtain ⟨y0, y1, y2, y3, y4⟩ := HC.out w5 hR
                simp only [execOp]
                go_simp
                exact hK _ _ rfl (Grew.refl _)
              · refine plainG rfl ?_
                intro bA K Q' hK
                have e36 := hG 6 36 (by decide) (by kernel_rfl) (by kernel_rfl)
                change ρ (.tmp 36) = _ at e36
                simp only [execOp]
                go_simp
                refine (place_ok (s1, z1) w5 HO1.out).mono ?_
                rintro r9 w9 ⟨rfl, hb9⟩
                exact hK _ _ rfl hb9
              · refine plainG rfl ?_
                intro bA K Q' hK
                have e1 := hS 1 (by kernel_rfl)
                change ρ (.tmp 1) = _ at e1
                simp only [execOp]
                go_simp
                exact hK _ _ rfl (Grew.refl _)
              · refine plainG rfl ?_
                intro bA K Q' hK
                have e38 := hG 8 38 (by decide) (by kernel_rfl) (by kernel_rfl)
                change ρ (.tmp 38) = _ at e38
                obtain ⟨y0, y1, y2, y3, y4⟩ := HC.out w5 hR
                simp only [execOp]
                go_simp
                exact hK _ _ rfl (Grew.refl _)
              · refine plainG rfl ?_
                intro bA K Q' hK
                have e4 := hS 4 (by kernel_rfl)
                change ρ (.tmp 4) = _ at e4
                simp only [execOp]
                go_simp
                exact hK _ _ rfl (Grew.refl _)
              · refine plainG rfl ?_
                intro bA K Q' hK
                have e39 := hG 9 39 (by decide) (by kernel_rfl) (by kernel_rfl)
                have e40 := hG 10 40 (by decide) (by kernel_rfl) (by kernel_rfl)
                change ρ (.tmp 39) = _ at e39
                change ρ (.tmp 40) = _ at e40
                simp only [execOp]
                go_simp
                exact hK _ _ rfl (Grew.refl _)
              · refine plainG rfl ?_
                intro bA K Q' hK
                have e41 := hG 11 41 (by decide) (by kernel_rfl) (by kernel_rfl)
                change ρ (.tmp 41) = _ at e41
                simp only [execOp]
                go_simp
                exact hK _ _ rfl (Grew.refl _)
              · refine plainG rfl ?_
                intro bA K Q' hK
                have e42 := hG 12 42 (by decide) (by kernel_rfl) (by kernel_rfl)
                change ρ (.tmp 42) = _ at e42
                obtain ⟨y0, y1, y2, y3, y4⟩ := HC.out w5 hR
                simp only [execOp]
                go_simp
                exact hK _ _ rfl (Grew.refl _)
              · refine plainG rfl ?_
                intro bA K Q' hK
                have e43 := hG 13 43 (by decide) (by kernel_rfl) (by kernel_rfl)
                change ρ (.tmp 43) = _ at e43
                simp only [execOp]
                go_simp
                refine (place_ok (s2, z2) w5 HO2.out).mono ?_
                rintro r9 w9 ⟨rfl, hb9⟩
                exact hK _ _ rfl hb9
              · refine plainG rfl ?_
                intro bA K Q' hK
                have e37 := hG 7 37 (by decide) (by kernel_rfl) (by kernel_rfl)
                have e44 := hG 14 44 (by decide) (by kernel_rfl) (by kernel_rfl)
                change ρ (.tmp 37) = _ at e37
                change ρ (.tmp 44) = _ at e44
                simp only [execOp]
                go_simp
                exact hK _ _ rfl (Grew.refl _)
            · intro vv w5 hR hG
              have h15 : vv 15 = .bool true := hG.2
              have hb : Below wr.heap.size wr w5 := ⟨hR.os, hR.tape, hR.output, hR.size, hR.block⟩
              have HB5 : Hid (Below w.heap.size w w5) := hid (HB.out.trans (hb.mono HB.out.size))
              have HX5 := hid (row_below HX.out hb)
              clear hG hR hb HC
              simp [stG, stU, dstAt, Act.put, h15]
              clear h15
              go_wp2_with fail
              go_ret
              exact ⟨by rw [HO.out]; rfl, HB5.out⟩
        · have hkf2 : (k < n) = False := eq_false (by omega)
          have HFF : Hid (fallN es = false) := hid (fallN_false.2 fun i h0 hi => HT.out i h0 (by have := HN.out; omega) (by have := HN.out; omega))
          clear hlt
          by_cases hnone : lf = false ∧ es = []
          · have HO : Hid (chkN lf es = 3) := hid (chkN_none HSH.out HBF.out HFF.out hnone)
            have hl0 : lf = false := hnone.1
            have hn0 : n = 0 := by rw [HN.out, hnone.2]; rfl
            subst hl0 hn0
            clear hnone
            go_wp2_with fail
            go_ret
            exact ⟨by rw [HO.out]; rfl, HB.out⟩
          · have HO : Hid (chkN lf es = 0) := hid (chkN_ok HSH.out HBF.out HFF.out hnone)
            cases lf
            · have hn0 : ((n : Int) == 0) = false := by
                rw [beq_eq_false_iff_ne]
                intro h
                exact hnone ⟨rfl, List.eq_nil_of_length_eq_zero (by have := HN.out; omega)⟩
              have hn1 : (n = 0) = False := eq_false (fun h => hnone ⟨rfl, List.eq_nil_of_length_eq_zero (by have := HN.out; omega)⟩)
              clear hnone
              go_wp2_with fail
              go_ret
              exact ⟨by rw [HO.out]; rfl, HB.out⟩
            · clear hnone
              go_wp2_with fail
              go_ret
              exact ⟨by rw [HO.out]; rfl, HB.out⟩
set_option maxRecDepth 20000 in
set_option maxHeartbeats 2000000 in
theorem rSame_eq {ok ok' : Nat → Prop} {a b : Option Addr} (n c d : Nat) (lf : Bool) (es : List Et) {w : World} (ha : EtS ok w a es) (hb : EtS ok' w b es) (hn : n = es.length) (hm : (n : Int) ≤ 1000000) :
    Calls Try.prog 19 #[.agg #[.bool lf, .slice a n c], .agg #[.bool lf, .slice b n d]] w fun e w' => e = .returned (.bool true) ∧ Below w.heap.size w w' := by
  have HA := hid ha.old
  have HB := hid hb.old
  have HN := hid hn
  have hnn : ((n : Int) != n) = false := by simp
  have hll : ((lf : Bool) != lf) = false := by simp
  obtain ⟨g, hg⟩ : ∃ g, g = w.heap.size := ⟨_, rfl⟩
  have HG := hid hg
  obtain ⟨w0, hw0⟩ : ∃ w0, w0 = (w.alloc (.cells #[.bool lf, .slice a n c] 24)).alloc (.cells #[.bool lf, .slice b n d] 24) := ⟨_, rfl⟩
  have HW0 := hid hw0
  have HB0 : Hid (Below w.heap.size w w0) := hid (by rw [hw0]; exact ((Below.refl _ _).alloc (Nat.le_refl _) _).alloc (by simp) _)
  have HX1 : Hid (w0.heap[g]? = some (.cells #[.bool lf, .slice a n c] 24 (0, 0))) := hid (by rw [hw0, hg]; exact heap_alloc2_old w _ _)
  have HX2 : Hid (w0.heap[g + 1]? = some (.cells #[.bool lf, .slice b n d] 24 (0, 0))) := hid (by rw [hw0, hg]; exact heap_alloc2_new w _ _)
  clear ha hb hn hg hw0
  go_enter Try.func19, Try.ntmps19
  go_wp2_with fail
  rw [← HW0.out, ← HG.out]
  go_loopw [5] (fun i wr => ∃ k : Nat, k ≤ n ∧ i = .int .i64 (k : Int) ∧ wr.heap[g]? = some (.cells #[.bool lf, .slice a n c] 24 (0, 0)) ∧ wr.heap[g + 1]? = some (.cells #[.bool lf, .slice b n d] 24 (0, 0)) ∧ Below w.heap.size w wr) (fun i _ => n - (intOf i).toNat)
  case atStart => exact ⟨0, Nat.zero_le _, rfl, HX1.out, HX2.out, HB0.out⟩
  case round =>
    clear HX1 HX2 HB0
    obtain ⟨k, hk, rfl, hx1, hx2, hb⟩ := hrel
    have HX1 := hid hx1
    have HX2 := hid hx2
    have HBL := hid hb
    have hb1 : wr.cell? ⟨g, 1, none⟩ = some (.slice a n c) := by rw [cell_of_row _ _ _ _ _ _ hx1]; rfl
    have hb2 : wr.cell? ⟨g + 1, 1, none⟩ = some (.slice b n d) := by rw [cell_of_row _ _ _ _ _ _ hx2]; rfl
    clear hx1 hx2 hb
    by_cases hlt : (k : Int) < n
    · have hkn : (k < n) = True := eq_true (by omega)
      obtain ⟨b1, o1, rfl, hc1, hc2, hc3⟩ := (HA.out.below HBL.out).cell (i := k) (by have := HN.out; omega)
      obtain ⟨b2, o2, rfl, hd1, hd2, hd3⟩ := (HB.out.below HBL.out).cell (i := k) (by have := HN.out; omega)
      obtain ⟨⟨⟨s, z⟩, p⟩, hx⟩ : ∃ x, x = es.getD k et0 := ⟨_, rfl⟩
      rw [← hx] at hc1 hc2 hc3 hd1 hd2 hd3
      simp only at hc1 hc2 hc3 hd1 hd2 hd3
      have h1 : ((s : Int) != s) = false := by simp
      have h2 : ((z : Int) != z) = false := by simp
      have h3 : ((p : Int) != p) = false := by simp
      have h4 : ((s : Int) == s) = true := by simp
      have h5 : ((z : Int) == z) = true := by simp
      have h6 : ((p : Int) == p) = true := by simp
      clear hx
      go_wp2_with fail
      go_quiet (fail)
      have hbq := belowDrew wr nq
      have HX1q := hid (row_below HX1.out hbq)
      have HX2q := hid (row_below HX2.out hbq)
      have HBQ : Hid (Below w.heap.size w (wr.drewN nq)) := hid (HBL.out.trans (hbq.mono HBL.out.size))
      generalize wr.drewN nq = wq at *
      clear hc1 hc2 hc3 hd1 hd2 hd3 hb1 hb2 hbq
      go_wp2_with fail
      go_roundw
      case rel => exact ⟨k + 1, by omega, by go_num, HX1q.out, HX2q.out, HBQ.out⟩
      case measure => simp [intOf]; omega
    · have hkf : (k < n) = False := eq_false (by omega)
      clear hlt
      go_wp2_with fail
      go_ret
      exact ⟨rfl, HBL.out⟩
end Go.Proofs.Ytokeihpmagcneaa
