/- THE LAW LeafReads: the walk. -/
import Derived.Test.YtokeihpmagcneaaNdL1
namespace Go.Inc
open Go.RowKit
theorem grewDrew {w x : World} (h : Grew w.drew x) : Below w.heap.size w x := ⟨h.os, h.tape, h.output, h.size, h.block⟩
theorem NdV.grew {w w' : World} {v : Value} {lf : Bool} {es : List Et} (hg : Grew w w') (h : NdV w v lf es) : NdV w' v lf es := by
  obtain ⟨a, n, c, h1, h2⟩ := h
  exact ⟨a, n, c, h1, h2.below hg⟩
end Go.Inc
namespace Go.Proofs.Ytokeihpmagcneaa
open Go.RowKit Go.Inc

set_option maxRecDepth 20000 in
set_option maxHeartbeats 8000000 in
theorem leafReads_walk (P : PN) (a : Option Addr) (c : Nat) (bs : List Nat) (W : World) (hs : Sl (fun _ => True) W a bs) (hby : Bytes bs) (hcb : bs.length ≤ c ∧ c ≤ maxLen) (hn0 : a = none → c = 0) :
    Calls Try.prog 4 #[.slice a bs.length c] W fun e w' => e = .returned (.bool true) ∧ Below W.heap.size W w' := by
  have HP := hid P
  obtain ⟨bh, hbh⟩ : ∃ bh, bh = bs.take 200 := ⟨_, rfl⟩
  have hmin : min (bs.length : Int) 200 = (bh.length : Int) := by rw [hbh, List.length_take]; omega
  have HS : Hid (Sl (fun _ => True) W a bh) := hid (by rw [hbh]; exact hs.front 200)
  have HBY : Hid (Bytes bh) := hid (by rw [hbh]; exact hby.take 200)
  have hb200 : (bh.length : Int) ≤ 200 := by omega
  have hbc : (bh.length : Int) ≤ c := by omega
  have hbl : (bh.length : Int) ≤ bs.length := by omega
  have hcb2 : (c : Int) ≤ 9223372036854775807 := by have := hcb.2; unfold maxLen at this; omega
  have HCB : Hid (bh.length ≤ c ∧ c ≤ maxLen) := hid ⟨by omega, hcb.2⟩
  have HN0 := hid hn0
  obtain ⟨nb, hnb⟩ : ∃ nb, nb = bs.length := ⟨_, rfl⟩
  obtain ⟨lb, hlb⟩ : ∃ lb, lb = bh.length := ⟨_, rfl⟩
  have HLB := hid hlb
  rw [← hnb] at hmin hbl ⊢
  rw [← hlb] at hmin hb200 hbc hbl HCB
  have hnbc : (nb : Int) ≤ c := by have := hcb.1; omega
  have HL200 : Hid ((lb : Int) ≤ 200) := hid hb200
  have h := HP.out.nDecode _ a lb c bh W HS.out HLB.out HCB.out HN0.out HBY.out (by omega)
  obtain ⟨C, hC⟩ : ∃ C, C = ndE bh := ⟨_, rfl⟩
  obtain ⟨L, hL⟩ : ∃ L, L = ndL bh := ⟨_, rfl⟩
  obtain ⟨S, hS⟩ : ∃ S, S = ndS bh := ⟨_, rfl⟩
  have HCLS := hid (And.intro hC (And.intro hL hS))
  rw [← hC, ← hL, ← hS] at h
  have HDE := hid h
  have hCC : (C != C) = false := by simp
  clear P h hs hby hcb hn0 hbh hnb hlb hC hL hS
  go_enter Try.func4, Try.ntmps4
  go_wp2_with fail
  refine (HDE.out).mono ?_
  rintro e w1 ⟨⟨v, rfl, hv⟩, hb⟩
  have HS_1 := hid (HS.out.below hb)
  clear HS
  have HB_1 : Hid (Below W.heap.size W w1) := hid (hb)
  clear hb
  clear HDE
  obtain ⟨a1, n1, c1, rfl, hx⟩ := hv
  have HX_1 := hid hx
  clear hx
  obtain ⟨w2, hw2⟩ : ∃ y, y = w1.alloc (.cells #[.bool L, .slice a1 n1 c1] 27) := ⟨_, rfl⟩
  have hb : Below w1.heap.size w1 w2 := by rw [hw2]; exact allocBelow w1 _
  obtain ⟨gp1, hgp1⟩ : ∃ g, g = w1.heap.size := ⟨_, rfl⟩
  have hr : w2.heap[gp1]? = some (.cells #[.bool L, .slice a1 n1 c1] 27 (0, 0)) := by rw [hw2, hgp1]; exact heap_alloc_new w1 _
  have HW := hid hw2
  have HGG := hid hgp1
  clear hw2 hgp1
  have HS_2 := hid (HS_1.out.below hb)
  clear HS_1
  have HX_2 := hid (HX_1.out.below hb)
  clear HX_1
  have HB_2 : Hid (Below W.heap.size W w2) := hid (HB_1.out.trans ((hb).mono HB_1.out.size))
  clear HB_1
  have p1_2 := hid hr
  clear hr hb
  go_upto_region 3 with fail
  rw [← HW.out, ← HGG.out]
  clear HW HGG
  clear hmin hbc hbl hcb2 hnbc
  have h := dec_x (c := c) HS_2.out HLB.out HBY.out (by have := HL200.out; omega)
  rw [← HCLS.out.1, ← HCLS.out.2.1, ← HCLS.out.2.2] at h
  have HDE := hid h
  clear h
  go_wp2_with fail
  refine (HDE.out).mono ?_
  rintro e w3 ⟨⟨a2, n2, c2, rfl, hx⟩, hb⟩
  have HS_3 := hid (HS_2.out.below hb)
  clear HS_2
  have HX_3 := hid (HX_2.out.below hb)
  clear HX_2
  have p1_3 := hid (row_below p1_2.out hb)
  clear p1_2
  have HB_3 : Hid (Below W.heap.size W w3) := hid (HB_2.out.trans ((hb).mono HB_2.out.size))
  clear HB_2
  have HY_3 := hid hx
  clear hx
  clear hb
  clear HDE
  obtain ⟨w4, hw4⟩ : ∃ y, y = w3.alloc (.cells #[.bool L, .slice a2 n2 c2] 24) := ⟨_, rfl⟩
  have hb : Below w3.heap.size w3 w4 := by rw [hw4]; exact allocBelow w3 _
  obtain ⟨gp2, hgp2⟩ : ∃ g, g = w3.heap.size := ⟨_, rfl⟩
  have hr : w4.heap[gp2]? = some (.cells #[.bool L, .slice a2 n2 c2] 24 (0, 0)) := by rw [hw4, hgp2]; exact heap_alloc_new w3 _
  have HW := hid hw4
  have HGG := hid hgp2
  clear hw4 hgp2
  have HS_4 := hid (HS_3.out.below hb)
  clear HS_3
  have HX_4 := hid (HX_3.out.below hb)
  clear HX_3
  have p1_4 := hid (row_below p1_3.out hb)
  clear p1_3
  have HY_4 := hid (HY_3.out.below hb)
  clear HY_3
  have HB_4 : Hid (Below W.heap.size W w4) := hid (HB_3.out.trans ((hb).mono HB_3.out.size))
  clear HB_3
  have p2_4 := hid hr
  clear hr hb
  go_upto_region 4 with fail
  rw [← HW.out, ← HGG.out]
  clear HW HGG
  have HCX : Hid (∀ x, Grew w4.drew x → NdOk x a1 n1 c1 S ∧ NdOk x a2 n2 c2 S) := hid fun x hx => ⟨HX_4.out.below (grewDrew hx), HY_4.out.below (grewDrew hx)⟩
  have HCY : Hid (∀ x, Grew w4.drew x → x.cell? ⟨gp1, 0, none⟩ = some (.bool L) ∧ x.cell? ⟨gp1, 1, none⟩ = some (.slice a1 n1 c1) ∧ x.cell? ⟨gp2, 0, none⟩ = some (.bool L) ∧ x.cell? ⟨gp2, 1, none⟩ = some (.slice a2 n2 c2)) := hid fun x hx => by
    have h1 := row_below p1_4.out (grewDrew hx)
    have h2 := row_below p2_4.out (grewDrew hx)
    exact ⟨by rw [cell_of_row _ _ _ _ _ _ h1]; rfl, by rw [cell_of_row _ _ _ _ _ _ h1]; rfl, by rw [cell_of_row _ _ _ _ _ _ h2]; rfl, by rw [cell_of_row _ _ _ _ _ _ h2]; rfl⟩
  refine wp_region_grows 10 [EqN (.int .i64 C), EqN (.int .i64 C), EqN (.bool false), EqN (.bool false), EqN (.agg #[.bool L, .slice a1 n1 c1]), (fun x v => NdV x v L S), EqN (.agg #[.bool L, .slice a2 n2 c2]), EqN (.bool true), EqN (.bool false), EqN (.bool false)] (by kernel_rfl) (by decide) (by kernel_rfl) ?_ ?_ ?_
  · repeat' (first | exact List.forall_mem_nil _ | refine List.forall_mem_cons.2 ⟨?_, ?_⟩)
    all_goals
      intro w w' v hw h
      first | exact h | exact NdV.grew hw h
  · simp only [AllLt]
    refine ⟨⟨⟨⟨⟨⟨⟨⟨⟨⟨trivial, ?_⟩, ?_⟩, ?_⟩, ?_⟩, ?_⟩, ?_⟩, ?_⟩, ?_⟩, ?_⟩, ?_⟩
    all_goals
      intro o' ho
      simp at ho
      subst ho
      intro ρ w5 hR hL hS hG
      obtain ⟨hl1, hl2, -⟩ := hL
    · refine plainG rfl ?_
      intro bA K Q' hK
      have e4 := hS 4 (by kernel_rfl)
      change ρ (.tmp 4) = _ at e4
      simp only [execOp]
      go_simp
      exact hK _ _ rfl (Grew.refl _)
    · refine plainG rfl ?_
      intro bA K Q' hK
      have e6 := hS 6 (by kernel_rfl)
      change ρ (.tmp 6) = _ at e6
      simp only [execOp]
      go_simp
      exact hK _ _ rfl (Grew.refl _)
    · refine plainG rfl ?_
      intro bA K Q' hK
      have e24 := hG 0 24 (by decide) (by kernel_rfl) (by kernel_rfl)
      have e25 := hG 1 25 (by decide) (by kernel_rfl) (by kernel_rfl)
      change ρ (.tmp 24) = _ at e24
      change ρ (.tmp 25) = _ at e25
      simp only [execOp]
      go_simp
      exact hK _ _ rfl (Grew.refl _)
    · refine plainG rfl ?_
      intro bA K Q' hK
      have e26 := hG 2 26 (by decide) (by kernel_rfl) (by kernel_rfl)
      change ρ (.tmp 26) = _ at e26
      simp only [execOp]
      go_simp
      exact hK _ _ rfl (Grew.refl _)
    · have eG : ρ (.tmp 27) = _ := hG 3 27 (by decide) (by kernel_rfl) (by kernel_rfl)
      refine onG rfl (by kernel_rfl) eG ?_
      intro bA K Q' hK
      have e3 := hS 3 (by kernel_rfl)
      change ρ (.tmp 3) = _ at e3
      obtain ⟨y0, y1, y2, y3⟩ := HCY.out w5 hR
      simp only [execOp]
      go_simp
      exact hK _ _ rfl (Grew.refl _)
    · have eG : ρ (.tmp 27) = _ := hG 3 27 (by decide) (by kernel_rfl) (by kernel_rfl)
      refine onG rfl (by kernel_rfl) eG ?_
      intro bA K Q' hK
      have e28 := hG 4 28 (by decide) (by kernel_rfl) (by kernel_rfl)
      change ρ (.tmp 28) = _ at e28
      simp only [execOp]
      go_simp
      refine (of_x L (HCX.out w5 hR).1).mono ?_
      rintro r9 w9 ⟨⟨a9, n9, c9, rfl, h9⟩, hb9⟩
      exact hK _ _ ⟨_, _, _, rfl, h9⟩ hb9
    · have eG : ρ (.tmp 27) = _ := hG 3 27 (by decide) (by kernel_rfl) (by kernel_rfl)
      refine onG rfl (by kernel_rfl) eG ?_
      intro bA K Q' hK
      have e5 := hS 5 (by kernel_rfl)
      change ρ (.tmp 5) = _ at e5
      obtain ⟨y0, y1, y2, y3⟩ := HCY.out w5 hR
      simp only [execOp]
      go_simp
      exact hK _ _ rfl (Grew.refl _)
    · have eG : ρ (.tmp 27) = _ := hG 3 27 (by decide) (by kernel_rfl) (by kernel_rfl)
      refine onG rfl (by kernel_rfl) eG ?_
      intro bA K Q' hK
      have e29 := hG 5 29 (by decide) (by kernel_rfl) (by kernel_rfl)
      have e30 := hG 6 30 (by decide) (by kernel_rfl) (by kernel_rfl)
      skip
      change ρ (.tmp 30) = _ at e30
      obtain ⟨a9, n9, c9, e29', h29⟩ := e29
      change ρ (.tmp 29) = _ at e29'
      simp only [execOp]
      go_simp
      refine (same_x L h29 (HCX.out w5 hR).2).mono ?_
      rintro r9 w9 ⟨rfl, hb9⟩
      exact hK _ _ rfl hb9
    · have eG : ρ (.tmp 27) = _ := hG 3 27 (by decide) (by kernel_rfl) (by kernel_rfl)
      refine onG rfl (by kernel_rfl) eG ?_
      intro bA K Q' hK
      have e31 := hG 7 31 (by decide) (by kernel_rfl) (by kernel_rfl)
      change ρ (.tmp 31) = _ at e31
      simp only [execOp]
      go_simp
      exact hK _ _ rfl (Grew.refl _)
    · refine plainG rfl ?_
      intro bA K Q' hK
      have e27 := hG 3 27 (by decide) (by kernel_rfl) (by kernel_rfl)
      have e32 := hG 8 32 (by decide) (by kernel_rfl) (by kernel_rfl)
      change ρ (.tmp 27) = _ at e27
      change ρ (.tmp 32) = _ at e32
      simp only [execOp]
      go_simp
      exact hK _ _ rfl (Grew.refl _)
  · intro vv w8 hR hG
    have h9 : vv 9 = .bool false := hG.2
    have hb := grewDrew hR
    clear hG hR HCX HCY
    have HS_8 := hid (HS_4.out.below hb)
    clear HS_4
    have HX_8 := hid (HX_4.out.below hb)
    clear HX_4
    have p1_8 := hid (row_below p1_4.out hb)
    clear p1_4
    have HY_8 := hid (HY_4.out.below hb)
    clear HY_4
    have p2_8 := hid (row_below p2_4.out hb)
    clear p2_4
    have HB_8 : Hid (Below W.heap.size W w8) := hid (HB_4.out.trans ((hb).mono HB_4.out.size))
    clear HB_4
    clear hb
    simp [stG, stU, dstAt, Act.put, h9]
    clear h9
    rcases ndE_is bh with ⟨h1, h2⟩ | ⟨h1, h2⟩
    · have HGO := hid h2
      have hC0 : C = 0 := HCLS.out.1.trans h1
      subst hC0
      have hCC2 : ((0 : Int) != 0) = false := by decide
      clear h1 h2
      have hc0p1 : w8.cell? ⟨gp1, 0, none⟩ = some (.bool L) := by rw [cell_of_row _ _ _ _ _ _ p1_8.out]; rfl
      have hc1p1 : w8.cell? ⟨gp1, 1, none⟩ = some (.slice a1 n1 c1) := by rw [cell_of_row _ _ _ _ _ _ p1_8.out]; rfl
      go_wp2_with fail
      clear hc0p1 hc1p1
      have HCH : Hid (chkN L S = 0) := hid (by rw [HCLS.out.2.1, HCLS.out.2.2, ndL_good HGO.out, ndS_good HGO.out]; exact HGO.out.2.2.2.2)
      have h := HP.out.nEncode _ _ _ L S _ HX_8.out
      rw [HCH.out, if_pos rfl, HCLS.out.2.1, HCLS.out.2.2, dec_enc HBY.out HGO.out, ← HCLS.out.2.1] at h
      have HEN := hid h
      clear h
      refine (HEN.out).mono ?_
      rintro e w9 ⟨⟨v, rfl, hv⟩, hb⟩
      have HS_9 := hid (HS_8.out.below hb)
      clear HS_8
      have HX_9 := hid (HX_8.out.below hb)
      clear HX_8
      have p1_9 := hid (row_below p1_8.out hb)
      clear p1_8
      have HY_9 := hid (HY_8.out.below hb)
      clear HY_8
      have p2_9 := hid (row_below p2_8.out hb)
      clear p2_8
      have HB_9 : Hid (Below W.heap.size W w9) := hid (HB_8.out.trans ((hb).mono HB_8.out.size))
      clear HB_8
      have HV_9 := hid hv
      clear hv
      clear hb
      clear HEN
      obtain ⟨a3, c3, e3, -, -, -, hs3⟩ := HV_9.out.sl
      rw [← HLB.out] at e3
      subst e3
      clear hs3
      go_wp2_with fail
      refine (known_any HP.out _).mono ?_
      rintro e w10 ⟨rfl, hb⟩
      have HS_10 := hid (HS_9.out.below hb)
      clear HS_9
      have HX_10 := hid (HX_9.out.below hb)
      clear HX_9
      have p1_10 := hid (row_below p1_9.out hb)
      clear p1_9
      have HY_10 := hid (HY_9.out.below hb)
      clear HY_9
      have p2_10 := hid (row_below p2_9.out hb)
      clear p2_9
      have HV_10 := hid (HV_9.out.kept hb)
      clear HV_9
      have HB_10 : Hid (Below W.heap.size W w10) := hid (HB_9.out.trans ((hb).mono HB_9.out.size))
      clear HB_9
      clear hb
      obtain ⟨a4, c4, e4, -, -, -, hs4⟩ := HV_10.out.sl
      rw [← HLB.out] at e4
      cases e4
      have HSB := hid (bSame_eq lb c c3 bh HS_10.out hs4 HLB.out (by have := HL200.out; omega))
      clear hs4
      go_wp2_with fail
      refine (HSB.out).mono ?_
      rintro e w11 ⟨rfl, hb⟩
      have HS_11 := hid (HS_10.out.below hb)
      clear HS_10
      have HX_11 := hid (HX_10.out.below hb)
      clear HX_10
      have p1_11 := hid (row_below p1_10.out hb)
      clear p1_10
      have HY_11 := hid (HY_10.out.below hb)
      clear HY_10
      have p2_11 := hid (row_below p2_10.out hb)
      clear p2_10
      have HV_11 := hid (HV_10.out.kept hb)
      clear HV_10
      have HB_11 : Hid (Below W.heap.size W w11) := hid (HB_10.out.trans ((hb).mono HB_10.out.size))
      clear HB_10
      clear hb
      clear HSB
      go_wp2_with fail
      go_ret
      exact ⟨rfl, HB_11.out⟩
    · have hC0 : C = 3 := HCLS.out.1.trans h1
      subst hC0
      have hCC2 : ((3 : Int) != 0) = true := by decide
      clear h1 h2
      go_wp2_with fail
      refine (known_any HP.out _).mono ?_
      rintro e w9 ⟨rfl, hb⟩
      have HS_9 := hid (HS_8.out.below hb)
      clear HS_8
      have HX_9 := hid (HX_8.out.below hb)
      clear HX_8
      have p1_9 := hid (row_below p1_8.out hb)
      clear p1_8
      have HY_9 := hid (HY_8.out.below hb)
      clear HY_8
      have p2_9 := hid (row_below p2_8.out hb)
      clear p2_8
      have HB_9 : Hid (Below W.heap.size W w9) := hid (HB_8.out.trans ((hb).mono HB_8.out.size))
      clear HB_8
      clear hb
      go_wp2_with fail
      go_ret
      exact ⟨rfl, HB_9.out⟩
end Go.Proofs.Ytokeihpmagcneaa
