/- THE LAW LeafFinds: the walk. -/
import Derived.Test.YtokeihpmagcneaaNdL2
namespace Go.Proofs.Ytokeihpmagcneaa
open Go.RowKit Go.Inc

def Bel (W w : World) : Prop := Below W.heap.size W w
set_option maxRecDepth 20000 in
set_option maxHeartbeats 16000000 in
theorem finds_key0 (P : PN) (a : Option Addr) (n c : Nat) (lf : Bool) (es : List Et) (s z : Int) (W : World) (hs : EtS (fun _ => True) W a es) (hn : n = es.length) (hf : ∀ e ∈ es, fitsE e) (hfk : fitsK (s, z)) (d0 : decide ((0 : Int) ≤ s) = false) :
    Calls Try.prog 5 #[.agg #[.bool lf, .slice a n c], .agg #[.int .i64 s, .int .i64 z]] W fun e w' => e = .returned (.bool true) ∧ Bel W w' := by
  have HO : Hid (okK (s, z) = false) := hid (by
    unfold okK
    simp only [d0]
    simp)
  obtain ⟨C, hC⟩ : ∃ C, C = chkN lf (es.take 18) := ⟨_, rfl⟩
  have hchk := hC
  clear hC
  have HP := hid P
  have HFK := hid hfk
  obtain ⟨xs, hxs⟩ : ∃ xs, xs = es.take 18 := ⟨_, rfl⟩
  have HXL : Hid (xs.length ≤ 18) := hid (by rw [hxs, List.length_take]; omega)
  obtain ⟨g, hg⟩ : ∃ g, g = W.heap.size := ⟨_, rfl⟩
  obtain ⟨w1, hw1⟩ : ∃ y, y = (W.alloc (.cells #[.bool lf, .slice a n c] 24)).alloc (.cells #[.int .i64 s, .int .i64 z] 48) := ⟨_, rfl⟩
  have HB_1 : Hid (Below W.heap.size W w1) := hid (by rw [hw1]; exact ((Below.refl _ _).alloc (Nat.le_refl _) _).alloc (by simp) _)
  have p0_1 : Hid (w1.heap[g]? = some (.cells #[.bool lf, .slice a n c] 24 (0, 0))) := hid (by rw [hw1, hg]; exact heap_alloc2_old W _ _)
  have pk_1 : Hid (w1.heap[g + 1]? = some (.cells #[.int .i64 s, .int .i64 z] 48 (0, 0))) := hid (by rw [hw1, hg]; exact heap_alloc2_new W _ _)
  have HW := hid hw1
  have HG := hid hg
  have HTO := hid (to_x n c lf (hs.below HB_1.out) hn hf)
  rw [← hxs] at HTO hchk
  have HCE := hid hchk
  clear P hxs hs hn hf hw1 hchk hfk hg
  go_enter Try.func5, Try.ntmps5
  go_upto_region 1 with fail
  rw [← HW.out, ← HG.out]
  clear HW
  have hc0p0 : w1.cell? ⟨g, 0, none⟩ = some (.bool lf) := by rw [cell_of_row _ _ _ _ _ _ p0_1.out]; rfl
  have hc1p0 : w1.cell? ⟨g, 1, none⟩ = some (.slice a n c) := by rw [cell_of_row _ _ _ _ _ _ p0_1.out]; rfl
  go_wp2_with fail
  clear hc0p0 hc1p0
  refine (HTO.out).mono ?_
  rintro e w2 ⟨⟨a1, n1, c1, rfl, hx⟩, hb⟩
  have p0_2 := hid (row_below p0_1.out hb)
  clear p0_1
  have pk_2 := hid (row_below pk_1.out hb)
  clear pk_1
  have HB_2 : Hid (Below W.heap.size W w2) := hid (HB_1.out.trans ((hb).mono HB_1.out.size))
  clear HB_1
  have HX_2 := hid hx
  clear hx
  clear hb
  clear HTO
  obtain ⟨w3, hw3⟩ : ∃ y, y = w2.alloc (.cells #[.bool lf, .slice a1 n1 c1] 27) := ⟨_, rfl⟩
  have hb : Below w2.heap.size w2 w3 := by rw [hw3]; exact allocBelow w2 _
  obtain ⟨gp1, hgp1⟩ : ∃ g, g = w2.heap.size := ⟨_, rfl⟩
  have hr : w3.heap[gp1]? = some (.cells #[.bool lf, .slice a1 n1 c1] 27 (0, 0)) := by rw [hw3, hgp1]; exact heap_alloc_new w2 _
  have HW := hid hw3
  have HGG := hid hgp1
  clear hw3 hgp1
  have p0_3 := hid (row_below p0_2.out hb)
  clear p0_2
  have pk_3 := hid (row_below pk_2.out hb)
  clear pk_2
  have HX_3 := hid (HX_2.out.below hb)
  clear HX_2
  have HB_3 : Hid (Below W.heap.size W w3) := hid (HB_2.out.trans ((hb).mono HB_2.out.size))
  clear HB_2
  have p1_3 := hid hr
  clear hr hb
  go_upto_region 2 with fail
  rw [← HW.out, ← HGG.out]
  clear HW HGG
  have hc0p1 : w3.cell? ⟨gp1, 0, none⟩ = some (.bool lf) := by rw [cell_of_row _ _ _ _ _ _ p1_3.out]; rfl
  have hc1p1 : w3.cell? ⟨gp1, 1, none⟩ = some (.slice a1 n1 c1) := by rw [cell_of_row _ _ _ _ _ _ p1_3.out]; rfl
  go_wp2_with fail
  clear hc0p1 hc1p1
  refine (of_x lf HX_3.out).mono ?_
  rintro e w4 ⟨⟨a2, n2, c2, rfl, hx⟩, hb⟩
  have p0_4 := hid (row_below p0_3.out hb)
  clear p0_3
  have pk_4 := hid (row_below pk_3.out hb)
  clear pk_3
  have HX_4 := hid (HX_3.out.below hb)
  clear HX_3
  have p1_4 := hid (row_below p1_3.out hb)
  clear p1_3
  have HB_4 : Hid (Below W.heap.size W w4) := hid (HB_3.out.trans ((hb).mono HB_3.out.size))
  clear HB_3
  have HY_4 := hid hx
  clear hx
  clear hb
  obtain ⟨w5, hw5⟩ : ∃ y, y = w4.alloc (.cells #[.bool lf, .slice a2 n2 c2] 24) := ⟨_, rfl⟩
  have hb : Below w4.heap.size w4 w5 := by rw [hw5]; exact allocBelow w4 _
  obtain ⟨gp2, hgp2⟩ : ∃ g, g = w4.heap.size := ⟨_, rfl⟩
  have hr : w5.heap[gp2]? = some (.cells #[.bool lf, .slice a2 n2 c2] 24 (0, 0)) := by rw [hw5, hgp2]; exact heap_alloc_new w4 _
  have HW := hid hw5
  have HGG := hid hgp2
  clear hw5 hgp2
  have p0_5 := hid (row_below p0_4.out hb)
  clear p0_4
  have pk_5 := hid (row_below pk_4.out hb)
  clear pk_4
  have HX_5 := hid (HX_4.out.below hb)
  clear HX_4
  have p1_5 := hid (row_below p1_4.out hb)
  clear p1_4
  have HY_5 := hid (HY_4.out.below hb)
  clear HY_4
  have HB_5 : Hid (Below W.heap.size W w5) := hid (HB_4.out.trans ((hb).mono HB_4.out.size))
  clear HB_4
  have p2_5 := hid hr
  clear hr hb
  go_upto_region 3 with fail
  rw [← HW.out, ← HGG.out]
  clear HW HGG
  have hc0pk : w5.cell? ⟨g + 1, 0, none⟩ = some (.int .i64 s) := by rw [cell_of_row _ _ _ _ _ _ pk_5.out]; rfl
  have hc1pk : w5.cell? ⟨g + 1, 1, none⟩ = some (.int .i64 z) := by rw [cell_of_row _ _ _ _ _ _ pk_5.out]; rfl
  go_wp2_with fail
  refine (key_any s z _).mono ?_
  rintro e w6 ⟨rfl, hb⟩
  have p0_6 := hid (row_below p0_5.out hb)
  clear p0_5
  have pk_6 := hid (row_below pk_5.out hb)
  clear pk_5
  have HX_6 := hid (HX_5.out.below hb)
  clear HX_5
  have p1_6 := hid (row_below p1_5.out hb)
  clear p1_5
  have HY_6 := hid (HY_5.out.below hb)
  clear HY_5
  have p2_6 := hid (row_below p2_5.out hb)
  clear p2_5
  have HB_6 : Hid (Below W.heap.size W w6) := hid (HB_5.out.trans ((hb).mono HB_5.out.size))
  clear HB_5
  clear hb
  clear hc0pk hc1pk
  go_wp2_with fail
  have h := HP.out.nRight s z w6 HFK.out
  rw [HO.out] at h
  have HRI := hid h
  clear h
  refine (HRI.out).mono ?_
  rintro e w7 ⟨rfl, hb⟩
  have p0_7 := hid (row_below p0_6.out hb)
  clear p0_6
  have pk_7 := hid (row_below pk_6.out hb)
  clear pk_6
  have HX_7 := hid (HX_6.out.below hb)
  clear HX_6
  have p1_7 := hid (row_below p1_6.out hb)
  clear p1_6
  have HY_7 := hid (HY_6.out.below hb)
  clear HY_6
  have p2_7 := hid (row_below p2_6.out hb)
  clear p2_6
  have HB_7 : Hid (Below W.heap.size W w7) := hid (HB_6.out.trans ((hb).mono HB_6.out.size))
  clear HB_6
  clear hb
  clear HRI
  rcases (show Hid ((C != 0) = true) ∨ Hid ((C != 0) = false) by cases (C != 0) <;> first | exact .inr (hid rfl) | exact .inl (hid rfl)) with hq | hq
  all_goals have hC0 := hq.out
  all_goals clear hq
  · have hc0p2 : w7.cell? ⟨gp2, 0, none⟩ = some (.bool lf) := by rw [cell_of_row _ _ _ _ _ _ p2_7.out]; rfl
    have hc1p2 : w7.cell? ⟨gp2, 1, none⟩ = some (.slice a2 n2 c2) := by rw [cell_of_row _ _ _ _ _ _ p2_7.out]; rfl
    go_wp2_with fail
    clear hc0p2 hc1p2
    have h := chk_x lf HY_7.out
    rw [← HCE.out] at h
    have HCK := hid h
    clear h
    refine (HCK.out).mono ?_
    rintro e w8 ⟨rfl, hb⟩
    have p0_8 := hid (row_below p0_7.out hb)
    clear p0_7
    have pk_8 := hid (row_below pk_7.out hb)
    clear pk_7
    have HX_8 := hid (HX_7.out.below hb)
    clear HX_7
    have p1_8 := hid (row_below p1_7.out hb)
    clear p1_7
    have HY_8 := hid (HY_7.out.below hb)
    clear HY_7
    have p2_8 := hid (row_below p2_7.out hb)
    clear p2_7
    have HB_8 : Hid (Below W.heap.size W w8) := hid (HB_7.out.trans ((hb).mono HB_7.out.size))
    clear HB_7
    clear hb
    clear HCK
    go_wp2_with fail
    refine (known_any HP.out _).mono ?_
    rintro e w9 ⟨rfl, hb⟩
    have p0_9 := hid (row_below p0_8.out hb)
    clear p0_8
    have pk_9 := hid (row_below pk_8.out hb)
    clear pk_8
    have HX_9 := hid (HX_8.out.below hb)
    clear HX_8
    have p1_9 := hid (row_below p1_8.out hb)
    clear p1_8
    have HY_9 := hid (HY_8.out.below hb)
    clear HY_8
    have p2_9 := hid (row_below p2_8.out hb)
    clear p2_8
    have HB_9 : Hid (Below W.heap.size W w9) := hid (HB_8.out.trans ((hb).mono HB_8.out.size))
    clear HB_8
    clear hb
    go_wp2_with fail
    go_ret
    exact ⟨rfl, HB_9.out⟩
  · have hc0p2 : w7.cell? ⟨gp2, 0, none⟩ = some (.bool lf) := by rw [cell_of_row _ _ _ _ _ _ p2_7.out]; rfl
    have hc1p2 : w7.cell? ⟨gp2, 1, none⟩ = some (.slice a2 n2 c2) := by rw [cell_of_row _ _ _ _ _ _ p2_7.out]; rfl
    go_wp2_with fail
    clear hc0p2 hc1p2
    have h := chk_x lf HY_7.out
    rw [← HCE.out] at h
    have HCK := hid h
    clear h
    refine (HCK.out).mono ?_
    rintro e w8 ⟨rfl, hb⟩
    have p0_8 := hid (row_below p0_7.out hb)
    clear p0_7
    have pk_8 := hid (row_below pk_7.out hb)
    clear pk_7
    have HX_8 := hid (HX_7.out.below hb)
    clear HX_7
    have p1_8 := hid (row_below p1_7.out hb)
    clear p1_7
    have HY_8 := hid (HY_7.out.below hb)
    clear HY_7
    have p2_8 := hid (row_below p2_7.out hb)
    clear p2_7
    have HB_8 : Hid (Below W.heap.size W w8) := hid (HB_7.out.trans ((hb).mono HB_7.out.size))
    clear HB_7
    clear hb
    clear HCK
    go_wp2_with fail
    refine (known_any HP.out _).mono ?_
    rintro e w9 ⟨rfl, hb⟩
    have p0_9 := hid (row_below p0_8.out hb)
    clear p0_8
    have pk_9 := hid (row_below pk_8.out hb)
    clear pk_8
    have HX_9 := hid (HX_8.out.below hb)
    clear HX_8
    have p1_9 := hid (row_below p1_8.out hb)
    clear p1_8
    have HY_9 := hid (HY_8.out.below hb)
    clear HY_8
    have p2_9 := hid (row_below p2_8.out hb)
    clear p2_8
    have HB_9 : Hid (Below W.heap.size W w9) := hid (HB_8.out.trans ((hb).mono HB_8.out.size))
    clear HB_8
    clear hb
    go_wp2_with fail
    go_ret
    exact ⟨rfl, HB_9.out⟩
set_option maxRecDepth 20000 in
set_option maxHeartbeats 16000000 in
theorem finds_key1 (P : PN) (a : Option Addr) (n c : Nat) (lf : Bool) (es : List Et) (s z : Int) (W : World) (hs : EtS (fun _ => True) W a es) (hn : n = es.length) (hf : ∀ e ∈ es, fitsE e) (hfk : fitsK (s, z)) (d0 : decide ((0 : Int) ≤ s) = true) (d1 : decide (s < 16) = false) :
    Calls Try.prog 5 #[.agg #[.bool lf, .slice a n c], .agg #[.int .i64 s, .int .i64 z]] W fun e w' => e = .returned (.bool true) ∧ Bel W w' := by
  have HO : Hid (okK (s, z) = false) := hid (by
    unfold okK
    simp only [d0, d1]
    simp)
  obtain ⟨C, hC⟩ : ∃ C, C = chkN lf (es.take 18) := ⟨_, rfl⟩
  have hchk := hC
  clear hC
  have HP := hid P
  have HFK := hid hfk
  obtain ⟨xs, hxs⟩ : ∃ xs, xs = es.take 18 := ⟨_, rfl⟩
  have HXL : Hid (xs.length ≤ 18) := hid (by rw [hxs, List.length_take]; omega)
  obtain ⟨g, hg⟩ : ∃ g, g = W.heap.size := ⟨_, rfl⟩
  obtain ⟨w1, hw1⟩ : ∃ y, y = (W.alloc (.cells #[.bool lf, .slice a n c] 24)).alloc (.cells #[.int .i64 s, .int .i64 z] 48) := ⟨_, rfl⟩
  have HB_1 : Hid (Below W.heap.size W w1) := hid (by rw [hw1]; exact ((Below.refl _ _).alloc (Nat.le_refl _) _).alloc (by simp) _)
  have p0_1 : Hid (w1.heap[g]? = some (.cells #[.bool lf, .slice a n c] 24 (0, 0))) := hid (by rw [hw1, hg]; exact heap_alloc2_old W _ _)
  have pk_1 : Hid (w1.heap[g + 1]? = some (.cells #[.int .i64 s, .int .i64 z] 48 (0, 0))) := hid (by rw [hw1, hg]; exact heap_alloc2_new W _ _)
  have HW := hid hw1
  have HG := hid hg
  have HTO := hid (to_x n c lf (hs.below HB_1.out) hn hf)
  rw [← hxs] at HTO hchk
  have HCE := hid hchk
  clear P hxs hs hn hf hw1 hchk hfk hg
  go_enter Try.func5, Try.ntmps5
  go_upto_region 1 with fail
  rw [← HW.out, ← HG.out]
  clear HW
  have hc0p0 : w1.cell? ⟨g, 0, none⟩ = some (.bool lf) := by rw [cell_of_row _ _ _ _ _ _ p0_1.out]; rfl
  have hc1p0 : w1.cell? ⟨g, 1, none⟩ = some (.slice a n c) := by rw [cell_of_row _ _ _ _ _ _ p0_1.out]; rfl
  go_wp2_with fail
  clear hc0p0 hc1p0
  refine (HTO.out).mono ?_
  rintro e w2 ⟨⟨a1, n1, c1, rfl, hx⟩, hb⟩
  have p0_2 := hid (row_below p0_1.out hb)
  clear p0_1
  have pk_2 := hid (row_below pk_1.out hb)
  clear pk_1
  have HB_2 : Hid (Below W.heap.size W w2) := hid (HB_1.out.trans ((hb).mono HB_1.out.size))
  clear HB_1
  have HX_2 := hid hx
  clear hx
  clear hb
  clear HTO
  obtain ⟨w3, hw3⟩ : ∃ y, y = w2.alloc (.cells #[.bool lf, .slice a1 n1 c1] 27) := ⟨_, rfl⟩
  have hb : Below w2.heap.size w2 w3 := by rw [hw3]; exact allocBelow w2 _
  obtain ⟨gp1, hgp1⟩ : ∃ g, g = w2.heap.size := ⟨_, rfl⟩
  have hr : w3.heap[gp1]? = some (.cells #[.bool lf, .slice a1 n1 c1] 27 (0, 0)) := by rw [hw3, hgp1]; exact heap_alloc_new w2 _
  have HW := hid hw3
  have HGG := hid hgp1
  clear hw3 hgp1
  have p0_3 := hid (row_below p0_2.out hb)
  clear p0_2
  have pk_3 := hid (row_below pk_2.out hb)
  clear pk_2
  have HX_3 := hid (HX_2.out.below hb)
  clear HX_2
  have HB_3 : Hid (Below W.heap.size W w3) := hid (HB_2.out.trans ((hb).mono HB_2.out.size))
  clear HB_2
  have p1_3 := hid hr
  clear hr hb
  go_upto_region 2 with fail
  rw [← HW.out, ← HGG.out]
  clear HW HGG
  have hc0p1 : w3.cell? ⟨gp1, 0, none⟩ = some (.bool lf) := by rw [cell_of_row _ _ _ _ _ _ p1_3.out]; rfl
  have hc1p1 : w3.cell? ⟨gp1, 1, none⟩ = some (.slice a1 n1 c1) := by rw [cell_of_row _ _ _ _ _ _ p1_3.out]; rfl
  go_wp2_with fail
  clear hc0p1 hc1p1
  refine (of_x lf HX_3.out).mono ?_
  rintro e w4 ⟨⟨a2, n2, c2, rfl, hx⟩, hb⟩
  have p0_4 := hid (row_below p0_3.out hb)
  clear p0_3
  have pk_4 := hid (row_below pk_3.out hb)
  clear pk_3
  have HX_4 := hid (HX_3.out.below hb)
  clear HX_3
  have p1_4 := hid (row_below p1_3.out hb)
  clear p1_3
  have HB_4 : Hid (Below W.heap.size W w4) := hid (HB_3.out.trans ((hb).mono HB_3.out.size))
  clear HB_3
  have HY_4 := hid hx
  clear hx
  clear hb
  obtain ⟨w5, hw5⟩ : ∃ y, y = w4.alloc (.cells #[.bool lf, .slice a2 n2 c2] 24) := ⟨_, rfl⟩
  have hb : Below w4.heap.size w4 w5 := by rw [hw5]; exact allocBelow w4 _
  obtain ⟨gp2, hgp2⟩ : ∃ g, g = w4.heap.size := ⟨_, rfl⟩
  have hr : w5.heap[gp2]? = some (.cells #[.bool lf, .slice a2 n2 c2] 24 (0, 0)) := by rw [hw5, hgp2]; exact heap_alloc_new w4 _
  have HW := hid hw5
  have HGG := hid hgp2
  clear hw5 hgp2
  have p0_5 := hid (row_below p0_4.out hb)
  clear p0_4
  have pk_5 := hid (row_below pk_4.out hb)
  clear pk_4
  have HX_5 := hid (HX_4.out.below hb)
  clear HX_4
  have p1_5 := hid (row_below p1_4.out hb)
  clear p1_4
  have HY_5 := hid (HY_4.out.below hb)
  clear HY_4
  have HB_5 : Hid (Below W.heap.size W w5) := hid (HB_4.out.trans ((hb).mono HB_4.out.size))
  clear HB_4
  have p2_5 := hid hr
  clear hr hb
  go_upto_region 3 with fail
  rw [← HW.out, ← HGG.out]
  clear HW HGG
  have hc0pk : w5.cell? ⟨g + 1, 0, none⟩ = some (.int .i64 s) := by rw [cell_of_row _ _ _ _ _ _ pk_5.out]; rfl
  have hc1pk : w5.cell? ⟨g + 1, 1, none⟩ = some (.int .i64 z) := by rw [cell_of_row _ _ _ _ _ _ pk_5.out]; rfl
  go_wp2_with fail
  refine (key_any s z _).mono ?_
  rintro e w6 ⟨rfl, hb⟩
  have p0_6 := hid (row_below p0_5.out hb)
  clear p0_5
  have pk_6 := hid (row_below pk_5.out hb)
  clear pk_5
  have HX_6 := hid (HX_5.out.below hb)
  clear HX_5
  have p1_6 := hid (row_below p1_5.out hb)
  clear p1_5
  have HY_6 := hid (HY_5.out.below hb)
  clear HY_5
  have p2_6 := hid (row_below p2_5.out hb)
  clear p2_5
  have HB_6 : Hid (Below W.heap.size W w6) := hid (HB_5.out.trans ((hb).mono HB_5.out.size))
  clear HB_5
  clear hb
  clear hc0pk hc1pk
  go_wp2_with fail
  have h := HP.out.nRight s z w6 HFK.out
  rw [HO.out] at h
  have HRI := hid h
  clear h
  refine (HRI.out).mono ?_
  rintro e w7 ⟨rfl, hb⟩
  have p0_7 := hid (row_below p0_6.out hb)
  clear p0_6
  have pk_7 := hid (row_below pk_6.out hb)
  clear pk_6
  have HX_7 := hid (HX_6.out.below hb)
  clear HX_6
  have p1_7 := hid (row_below p1_6.out hb)
  clear p1_6
  have HY_7 := hid (HY_6.out.below hb)
  clear HY_6
  have p2_7 := hid (row_below p2_6.out hb)
  clear p2_6
  have HB_7 : Hid (Below W.heap.size W w7) := hid (HB_6.out.trans ((hb).mono HB_6.out.size))
  clear HB_6
  clear hb
  clear HRI
  rcases (show Hid ((C != 0) = true) ∨ Hid ((C != 0) = false) by cases (C != 0) <;> first | exact .inr (hid rfl) | exact .inl (hid rfl)) with hq | hq
  all_goals have hC0 := hq.out
  all_goals clear hq
  · have hc0p2 : w7.cell? ⟨gp2, 0, none⟩ = some (.bool lf) := by rw [cell_of_row _ _ _ _ _ _ p2_7.out]; rfl
    have hc1p2 : w7.cell? ⟨gp2, 1, none⟩ = some (.slice a2 n2 c2) := by rw [cell_of_row _ _ _ _ _ _ p2_7.out]; rfl
    go_wp2_with fail
    clear hc0p2 hc1p2
    have h := chk_x lf HY_7.out
    rw [← HCE.out] at h
    have HCK := hid h
    clear h
    refine (HCK.out).mono ?_
    rintro e w8 ⟨rfl, hb⟩
    have p0_8 := hid (row_below p0_7.out hb)
    clear p0_7
    have pk_8 := hid (row_below pk_7.out hb)
    clear pk_7
    have HX_8 := hid (HX_7.out.below hb)
    clear HX_7
    have p1_8 := hid (row_below p1_7.out hb)
    clear p1_7
    have HY_8 := hid (HY_7.out.below hb)
    clear HY_7
    have p2_8 := hid (row_below p2_7.out hb)
    clear p2_7
    have HB_8 : Hid (Below W.heap.size W w8) := hid (HB_7.out.trans ((hb).mono HB_7.out.size))
    clear HB_7
    clear hb
    clear HCK
    go_wp2_with fail
    refine (known_any HP.out _).mono ?_
    rintro e w9 ⟨rfl, hb⟩
    have p0_9 := hid (row_below p0_8.out hb)
    clear p0_8
    have pk_9 := hid (row_below pk_8.out hb)
    clear pk_8
    have HX_9 := hid (HX_8.out.below hb)
    clear HX_8
    have p1_9 := hid (row_below p1_8.out hb)
    clear p1_8
    have HY_9 := hid (HY_8.out.below hb)
    clear HY_8
    have p2_9 := hid (row_below p2_8.out hb)
    clear p2_8
    have HB_9 : Hid (Below W.heap.size W w9) := hid (HB_8.out.trans ((hb).mono HB_8.out.size))
    clear HB_8
    clear hb
    go_wp2_with fail
    go_ret
    exact ⟨rfl, HB_9.out⟩
  · have hc0p2 : w7.cell? ⟨gp2, 0, none⟩ = some (.bool lf) := by rw [cell_of_row _ _ _ _ _ _ p2_7.out]; rfl
    have hc1p2 : w7.cell? ⟨gp2, 1, none⟩ = some (.slice a2 n2 c2) := by rw [cell_of_row _ _ _ _ _ _ p2_7.out]; rfl
    go_wp2_with fail
    clear hc0p2 hc1p2
    have h := chk_x lf HY_7.out
    rw [← HCE.out] at h
    have HCK := hid h
    clear h
    refine (HCK.out).mono ?_
    rintro e w8 ⟨rfl, hb⟩
    have p0_8 := hid (row_below p0_7.out hb)
    clear p0_7
    have pk_8 := hid (row_below pk_7.out hb)
    clear pk_7
    have HX_8 := hid (HX_7.out.below hb)
    clear HX_7
    have p1_8 := hid (row_below p1_7.out hb)
    clear p1_7
    have HY_8 := hid (HY_7.out.below hb)
    clear HY_7
    have p2_8 := hid (row_below p2_7.out hb)
    clear p2_7
    have HB_8 : Hid (Below W.heap.size W w8) := hid (HB_7.out.trans ((hb).mono HB_7.out.size))
    clear HB_7
    clear hb
    clear HCK
    go_wp2_with fail
    refine (known_any HP.out _).mono ?_
    rintro e w9 ⟨rfl, hb⟩
    have p0_9 := hid (row_below p0_8.out hb)
    clear p0_8
    have pk_9 := hid (row_below pk_8.out hb)
    clear pk_8
    have HX_9 := hid (HX_8.out.below hb)
    clear HX_8
    have p1_9 := hid (row_below p1_8.out hb)
    clear p1_8
    have HY_9 := hid (HY_8.out.below hb)
    clear HY_8
    have p2_9 := hid (row_below p2_8.out hb)
    clear p2_8
    have HB_9 : Hid (Below W.heap.size W w9) := hid (HB_8.out.trans ((hb).mono HB_8.out.size))
    clear HB_8
    clear hb
    go_wp2_with fail
    go_ret
    exact ⟨rfl, HB_9.out⟩
set_option maxRecDepth 20000 in
set_option maxHeartbeats 16000000 in
theorem finds_key2 (P : PN) (a : Option Addr) (n c : Nat) (lf : Bool) (es : List Et) (s z : Int) (W : World) (hs : EtS (fun _ => True) W a es) (hn : n = es.length) (hf : ∀ e ∈ es, fitsE e) (hfk : fitsK (s, z)) (d0 : decide ((0 : Int) ≤ s) = true) (d1 : decide (s < 16) = true) (d2 : decide ((0 : Int) ≤ z) = false) :
    Calls Try.prog 5 #[.agg #[.bool lf, .slice a n c], .agg #[.int .i64 s, .int .i64 z]] W fun e w' => e = .returned (.bool true) ∧ Bel W w' := by
  have HO : Hid (okK (s, z) = false) := hid (by
    unfold okK
    simp only [d0, d1, d2]
    simp)
  obtain ⟨C, hC⟩ : ∃ C, C = chkN lf (es.take 18) := ⟨_, rfl⟩
  have hchk := hC
  clear hC
  have HP := hid P
  have HFK := hid hfk
  obtain ⟨xs, hxs⟩ : ∃ xs, xs = es.take 18 := ⟨_, rfl⟩
  have HXL : Hid (xs.length ≤ 18) := hid (by rw [hxs, List.length_take]; omega)
  obtain ⟨g, hg⟩ : ∃ g, g = W.heap.size := ⟨_, rfl⟩
  obtain ⟨w1, hw1⟩ : ∃ y, y = (W.alloc (.cells #[.bool lf, .slice a n c] 24)).alloc (.cells #[.int .i64 s, .int .i64 z] 48) := ⟨_, rfl⟩
  have HB_1 : Hid (Below W.heap.size W w1) := hid (by rw [hw1]; exact ((Below.refl _ _).alloc (Nat.le_refl _) _).alloc (by simp) _)
  have p0_1 : Hid (w1.heap[g]? = some (.cells #[.bool lf, .slice a n c] 24 (0, 0))) := hid (by rw [hw1, hg]; exact heap_alloc2_old W _ _)
  have pk_1 : Hid (w1.heap[g + 1]? = some (.cells #[.int .i64 s, .int .i64 z] 48 (0, 0))) := hid (by rw [hw1, hg]; exact heap_alloc2_new W _ _)
  have HW := hid hw1
  have HG := hid hg
  have HTO := hid (to_x n c lf (hs.below HB_1.out) hn hf)
  rw [← hxs] at HTO hchk
  have HCE := hid hchk
  clear P hxs hs hn hf hw1 hchk hfk hg
  go_enter Try.func5, Try.ntmps5
  go_upto_region 1 with fail
  rw [← HW.out, ← HG.out]
  clear HW
  have hc0p0 : w1.cell? ⟨g, 0, none⟩ = some (.bool lf) := by rw [cell_of_row _ _ _ _ _ _ p0_1.out]; rfl
  have hc1p0 : w1.cell? ⟨g, 1, none⟩ = some (.slice a n c) := by rw [cell_of_row _ _ _ _ _ _ p0_1.out]; rfl
  go_wp2_with fail
  clear hc0p0 hc1p0
  refine (HTO.out).mono ?_
  rintro e w2 ⟨⟨a1, n1, c1, rfl, hx⟩, hb⟩
  have p0_2 := hid (row_below p0_1.out hb)
  clear p0_1
  have pk_2 := hid (row_below pk_1.out hb)
  clear pk_1
  have HB_2 : Hid (Below W.heap.size W w2) := hid (HB_1.out.trans ((hb).mono HB_1.out.size))
  clear HB_1
  have HX_2 := hid hx
  clear hx
  clear hb
  clear HTO
  obtain ⟨w3, hw3⟩ : ∃ y, y = w2.alloc (.cells #[.bool lf, .slice a1 n1 c1] 27) := ⟨_, rfl⟩
  have hb : Below w2.heap.size w2 w3 := by rw [hw3]; exact allocBelow w2 _
  obtain ⟨gp1, hgp1⟩ : ∃ g, g = w2.heap.size := ⟨_, rfl⟩
  have hr : w3.heap[gp1]? = some (.cells #[.bool lf, .slice a1 n1 c1] 27 (0, 0)) := by rw [hw3, hgp1]; exact heap_alloc_new w2 _
  have HW := hid hw3
  have HGG := hid hgp1
  clear hw3 hgp1
  have p0_3 := hid (row_below p0_2.out hb)
  clear p0_2
  have pk_3 := hid (row_below pk_2.out hb)
  clear pk_2
  have HX_3 := hid (HX_2.out.below hb)
  clear HX_2
  have HB_3 : Hid (Below W.heap.size W w3) := hid (HB_2.out.trans ((hb).mono HB_2.out.size))
  clear HB_2
  have p1_3 := hid hr
  clear hr hb
  go_upto_region 2 with fail
  rw [← HW.out, ← HGG.out]
  clear HW HGG
  have hc0p1 : w3.cell? ⟨gp1, 0, none⟩ = some (.bool lf) := by rw [cell_of_row _ _ _ _ _ _ p1_3.out]; rfl
  have hc1p1 : w3.cell? ⟨gp1, 1, none⟩ = some (.slice a1 n1 c1) := by rw [cell_of_row _ _ _ _ _ _ p1_3.out]; rfl
  go_wp2_with fail
  clear hc0p1 hc1p1
  refine (of_x lf HX_3.out).mono ?_
  rintro e w4 ⟨⟨a2, n2, c2, rfl, hx⟩, hb⟩
  have p0_4 := hid (row_below p0_3.out hb)
  clear p0_3
  have pk_4 := hid (row_below pk_3.out hb)
  clear pk_3
  have HX_4 := hid (HX_3.out.below hb)
  clear HX_3
  have p1_4 := hid (row_below p1_3.out hb)
  clear p1_3
  have HB_4 : Hid (Below W.heap.size W w4) := hid (HB_3.out.trans ((hb).mono HB_3.out.size))
  clear HB_3
  have HY_4 := hid hx
  clear hx
  clear hb
  obtain ⟨w5, hw5⟩ : ∃ y, y = w4.alloc (.cells #[.bool lf, .slice a2 n2 c2] 24) := ⟨_, rfl⟩
  have hb : Below w4.heap.size w4 w5 := by rw [hw5]; exact allocBelow w4 _
  obtain ⟨gp2, hgp2⟩ : ∃ g, g = w4.heap.size := ⟨_, rfl⟩
  have hr : w5.heap[gp2]? = some (.cells #[.bool lf, .slice a2 n2 c2] 24 (0, 0)) := by rw [hw5, hgp2]; exact heap_alloc_new w4 _
  have HW := hid hw5
  have HGG := hid hgp2
  clear hw5 hgp2
  have p0_5 := hid (row_below p0_4.out hb)
  clear p0_4
  have pk_5 := hid (row_below pk_4.out hb)
  clear pk_4
  have HX_5 := hid (HX_4.out.below hb)
  clear HX_4
  have p1_5 := hid (row_below p1_4.out hb)
  clear p1_4
  have HY_5 := hid (HY_4.out.below hb)
  clear HY_4
  have HB_5 : Hid (Below W.heap.size W w5) := hid (HB_4.out.trans ((hb).mono HB_4.out.size))
  clear HB_4
  have p2_5 := hid hr
  clear hr hb
  go_upto_region 3 with fail
  rw [← HW.out, ← HGG.out]
  clear HW HGG
  have hc0pk : w5.cell? ⟨g + 1, 0, none⟩ = some (.int .i64 s) := by rw [cell_of_row _ _ _ _ _ _ pk_5.out]; rfl
  have hc1pk : w5.cell? ⟨g + 1, 1, none⟩ = some (.int .i64 z) := by rw [cell_of_row _ _ _ _ _ _ pk_5.out]; rfl
  go_wp2_with fail
  refine (key_any s z _).mono ?_
  rintro e w6 ⟨rfl, hb⟩
  have p0_6 := hid (row_below p0_5.out hb)
  clear p0_5
  have pk_6 := hid (row_below pk_5.out hb)
  clear pk_5
  have HX_6 := hid (HX_5.out.below hb)
  clear HX_5
  have p1_6 := hid (row_below p1_5.out hb)
  clear p1_5
  have HY_6 := hid (HY_5.out.below hb)
  clear HY_5
  have p2_6 := hid (row_below p2_5.out hb)
  clear p2_5
  have HB_6 : Hid (Below W.heap.size W w6) := hid (HB_5.out.trans ((hb).mono HB_5.out.size))
  clear HB_5
  clear hb
  clear hc0pk hc1pk
  go_wp2_with fail
  have h := HP.out.nRight s z w6 HFK.out
  rw [HO.out] at h
  have HRI := hid h
  clear h
  refine (HRI.out).mono ?_
  rintro e w7 ⟨rfl, hb⟩
  have p0_7 := hid (row_below p0_6.out hb)
  clear p0_6
  have pk_7 := hid (row_below pk_6.out hb)
  clear pk_6
  have HX_7 := hid (HX_6.out.below hb)
  clear HX_6
  have p1_7 := hid (row_below p1_6.out hb)
  clear p1_6
  have HY_7 := hid (HY_6.out.below hb)
  clear HY_6
  have p2_7 := hid (row_below p2_6.out hb)
  clear p2_6
  have HB_7 : Hid (Below W.heap.size W w7) := hid (HB_6.out.trans ((hb).mono HB_6.out.size))
  clear HB_6
  clear hb
  clear HRI
  rcases (show Hid ((C != 0) = true) ∨ Hid ((C != 0) = false) by cases (C != 0) <;> first | exact .inr (hid rfl) | exact .inl (hid rfl)) with hq | hq
  all_goals have hC0 := hq.out
  all_goals clear hq
  · have hc0p2 : w7.cell? ⟨gp2, 0, none⟩ = some (.bool lf) := by rw [cell_of_row _ _ _ _ _ _ p2_7.out]; rfl
    have hc1p2 : w7.cell? ⟨gp2, 1, none⟩ = some (.slice a2 n2 c2) := by rw [cell_of_row _ _ _ _ _ _ p2_7.out]; rfl
    go_wp2_with fail
    clear hc0p2 hc1p2
    have h := chk_x lf HY_7.out
    rw [← HCE.out] at h
    have HCK := hid h
    clear h
    refine (HCK.out).mono ?_
    rintro e w8 ⟨rfl, hb⟩
    have p0_8 := hid (row_below p0_7.out hb)
    clear p0_7
    have pk_8 := hid (row_below pk_7.out hb)
    clear pk_7
    have HX_8 := hid (HX_7.out.below hb)
    clear HX_7
    have p1_8 := hid (row_below p1_7.out hb)
    clear p1_7
    have HY_8 := hid (HY_7.out.below hb)
    clear HY_7
    have p2_8 := hid (row_below p2_7.out hb)
    clear p2_7
    have HB_8 : Hid (Below W.heap.size W w8) := hid (HB_7.out.trans ((hb).mono HB_7.out.size))
    clear HB_7
    clear hb
    clear HCK
    go_wp2_with fail
    refine (known_any HP.out _).mono ?_
    rintro e w9 ⟨rfl, hb⟩
    have p0_9 := hid (row_below p0_8.out hb)
    clear p0_8
    have pk_9 := hid (row_below pk_8.out hb)
    clear pk_8
    have HX_9 := hid (HX_8.out.below hb)
    clear HX_8
    have p1_9 := hid (row_below p1_8.out hb)
    clear p1_8
    have HY_9 := hid (HY_8.out.below hb)
    clear HY_8
    have p2_9 := hid (row_below p2_8.out hb)
    clear p2_8
    have HB_9 : Hid (Below W.heap.size W w9) := hid (HB_8.out.trans ((hb).mono HB_8.out.size))
    clear HB_8
    clear hb
    go_wp2_with fail
    go_ret
    exact ⟨rfl, HB_9.out⟩
  · have hc0p2 : w7.cell? ⟨gp2, 0, none⟩ = some (.bool lf) := by rw [cell_of_row _ _ _ _ _ _ p2_7.out]; rfl
    have hc1p2 : w7.cell? ⟨gp2, 1, none⟩ = some (.slice a2 n2 c2) := by rw [cell_of_row _ _ _ _ _ _ p2_7.out]; rfl
    go_wp2_with fail
    clear hc0p2 hc1p2
    have h := chk_x lf HY_7.out
    rw [← HCE.out] at h
    have HCK := hid h
    clear h
    refine (HCK.out).mono ?_
    rintro e w8 ⟨rfl, hb⟩
    have p0_8 := hid (row_below p0_7.out hb)
    clear p0_7
    have pk_8 := hid (row_below pk_7.out hb)
    clear pk_7
    have HX_8 := hid (HX_7.out.below hb)
    clear HX_7
    have p1_8 := hid (row_below p1_7.out hb)
    clear p1_7
    have HY_8 := hid (HY_7.out.below hb)
    clear HY_7
    have p2_8 := hid (row_below p2_7.out hb)
    clear p2_7
    have HB_8 : Hid (Below W.heap.size W w8) := hid (HB_7.out.trans ((hb).mono HB_7.out.size))
    clear HB_7
    clear hb
    clear HCK
    go_wp2_with fail
    refine (known_any HP.out _).mono ?_
    rintro e w9 ⟨rfl, hb⟩
    have p0_9 := hid (row_below p0_8.out hb)
    clear p0_8
    have pk_9 := hid (row_below pk_8.out hb)
    clear pk_8
    have HX_9 := hid (HX_8.out.below hb)
    clear HX_8
    have p1_9 := hid (row_below p1_8.out hb)
    clear p1_8
    have HY_9 := hid (HY_8.out.below hb)
    clear HY_8
    have p2_9 := hid (row_below p2_8.out hb)
    clear p2_8
    have HB_9 : Hid (Below W.heap.size W w9) := hid (HB_8.out.trans ((hb).mono HB_8.out.size))
    clear HB_8
    clear hb
    go_wp2_with fail
    go_ret
    exact ⟨rfl, HB_9.out⟩
set_option maxRecDepth 20000 in
set_option maxHeartbeats 16000000 in
theorem finds_key3 (P : PN) (a : Option Addr) (n c : Nat) (lf : Bool) (es : List Et) (s z : Int) (W : World) (hs : EtS (fun _ => True) W a es) (hn : n = es.length) (hf : ∀ e ∈ es, fitsE e) (hfk : fitsK (s, z)) (d0 : decide ((0 : Int) ≤ s) = true) (d1 : decide (s < 16) = true) (d2 : decide ((0 : Int) ≤ z) = true) (d3 : decide (z < 65536) = false) :
    Calls Try.prog 5 #[.agg #[.bool lf, .slice a n c], .agg #[.int .i64 s, .int .i64 z]] W fun e w' => e = .returned (.bool true) ∧ Bel W w' := by
  have HO : Hid (okK (s, z) = false) := hid (by
    unfold okK
    simp only [d0, d1, d2, d3]
    simp)
  obtain ⟨C, hC⟩ : ∃ C, C = chkN lf (es.take 18) := ⟨_, rfl⟩
  have hchk := hC
  clear hC
  have HP := hid P
  have HFK := hid hfk
  obtain ⟨xs, hxs⟩ : ∃ xs, xs = es.take 18 := ⟨_, rfl⟩
  have HXL : Hid (xs.length ≤ 18) := hid (by rw [hxs, List.length_take]; omega)
  obtain ⟨g, hg⟩ : ∃ g, g = W.heap.size := ⟨_, rfl⟩
  obtain ⟨w1, hw1⟩ : ∃ y, y = (W.alloc (.cells #[.bool lf, .slice a n c] 24)).alloc (.cells #[.int .i64 s, .int .i64 z] 48) := ⟨_, rfl⟩
  have HB_1 : Hid (Below W.heap.size W w1) := hid (by rw [hw1]; exact ((Below.refl _ _).alloc (Nat.le_refl _) _).alloc (by simp) _)
  have p0_1 : Hid (w1.heap[g]? = some (.cells #[.bool lf, .slice a n c] 24 (0, 0))) := hid (by rw [hw1, hg]; exact heap_alloc2_old W _ _)
  have pk_1 : Hid (w1.heap[g + 1]? = some (.cells #[.int .i64 s, .int .i64 z] 48 (0, 0))) := hid (by rw [hw1, hg]; exact heap_alloc2_new W _ _)
  have HW := hid hw1
  have HG := hid hg
  have HTO := hid (to_x n c lf (hs.below HB_1.out) hn hf)
  rw [← hxs] at HTO hchk
  have HCE := hid hchk
  clear P hxs hs hn hf hw1 hchk hfk hg
  go_enter Try.func5, Try.ntmps5
  go_upto_region 1 with fail
  rw [← HW.out, ← HG.out]
  clear HW
  have hc0p0 : w1.cell? ⟨g, 0, none⟩ = some (.bool lf) := by rw [cell_of_row _ _ _ _ _ _ p0_1.out]; rfl
  have hc1p0 : w1.cell? ⟨g, 1, none⟩ = some (.slice a n c) := by rw [cell_of_row _ _ _ _ _ _ p0_1.out]; rfl
  go_wp2_with fail
  clear hc0p0 hc1p0
  refine (HTO.out).mono ?_
  rintro e w2 ⟨⟨a1, n1, c1, rfl, hx⟩, hb⟩
  have p0_2 := hid (row_below p0_1.out hb)
  clear p0_1
  have pk_2 := hid (row_below pk_1.out hb)
  clear pk_1
  have HB_2 : Hid (Below W.heap.size W w2) := hid (HB_1.out.trans ((hb).mono HB_1.out.size))
  clear HB_1
  have HX_2 := hid hx
  clear hx
  clear hb
  clear HTO
  obtain ⟨w3, hw3⟩ : ∃ y, y = w2.alloc (.cells #[.bool lf, .slice a1 n1 c1] 27) := ⟨_, rfl⟩
  have hb : Below w2.heap.size w2 w3 := by rw [hw3]; exact allocBelow w2 _
  obtain ⟨gp1, hgp1⟩ : ∃ g, g = w2.heap.size := ⟨_, rfl⟩
  have hr : w3.heap[gp1]? = some (.cells #[.bool lf, .slice a1 n1 c1] 27 (0, 0)) := by rw [hw3, hgp1]; exact heap_alloc_new w2 _
  have HW := hid hw3
  have HGG := hid hgp1
  clear hw3 hgp1
  have p0_3 := hid (row_below p0_2.out hb)
  clear p0_2
  have pk_3 := hid (row_below pk_2.out hb)
  clear pk_2
  have HX_3 := hid (HX_2.out.below hb)
  clear HX_2
  have HB_3 : Hid (Below W.heap.size W w3) := hid (HB_2.out.trans ((hb).mono HB_2.out.size))
  clear HB_2
  have p1_3 := hid hr
  clear hr hb
  go_upto_region 2 with fail
  rw [← HW.out, ← HGG.out]
  clear HW HGG
  have hc0p1 : w3.cell? ⟨gp1, 0, none⟩ = some (.bool lf) := by rw [cell_of_row _ _ _ _ _ _ p1_3.out]; rfl
  have hc1p1 : w3.cell? ⟨gp1, 1, none⟩ = some (.slice a1 n1 c1) := by rw [cell_of_row _ _ _ _ _ _ p1_3.out]; rfl
  go_wp2_with fail
  clear hc0p1 hc1p1
  refine (of_x lf HX_3.out).mono ?_
  rintro e w4 ⟨⟨a2, n2, c2, rfl, hx⟩, hb⟩
  have p0_4 := hid (row_below p0_3.out hb)
  clear p0_3
  have pk_4 := hid (row_below pk_3.out hb)
  clear pk_3
  have HX_4 := hid (HX_3.out.below hb)
  clear HX_3
  have p1_4 := hid (row_below p1_3.out hb)
  clear p1_3
  have HB_4 : Hid (Below W.heap.size W w4) := hid (HB_3.out.trans ((hb).mono HB_3.out.size))
  clear HB_3
  have HY_4 := hid hx
  clear hx
  clear hb
  obtain ⟨w5, hw5⟩ : ∃ y, y = w4.alloc (.cells #[.bool lf, .slice a2 n2 c2] 24) := ⟨_, rfl⟩
  have hb : Below w4.heap.size w4 w5 := by rw [hw5]; exact allocBelow w4 _
  obtain ⟨gp2, hgp2⟩ : ∃ g, g = w4.heap.size := ⟨_, rfl⟩
  have hr : w5.heap[gp2]? = some (.cells #[.bool lf, .slice a2 n2 c2] 24 (0, 0)) := by rw [hw5, hgp2]; exact heap_alloc_new w4 _
  have HW := hid hw5
  have HGG := hid hgp2
  clear hw5 hgp2
  have p0_5 := hid (row_below p0_4.out hb)
  clear p0_4
  have pk_5 := hid (row_below pk_4.out hb)
  clear pk_4
  have HX_5 := hid (HX_4.out.below hb)
  clear HX_4
  have p1_5 := hid (row_below p1_4.out hb)
  clear p1_4
  have HY_5 := hid (HY_4.out.below hb)
  clear HY_4
  have HB_5 : Hid (Below W.heap.size W w5) := hid (HB_4.out.trans ((hb).mono HB_4.out.size))
  clear HB_4
  have p2_5 := hid hr
  clear hr hb
  go_upto_region 3 with fail
  rw [← HW.out, ← HGG.out]
  clear HW HGG
  have hc0pk : w5.cell? ⟨g + 1, 0, none⟩ = some (.int .i64 s) := by rw [cell_of_row _ _ _ _ _ _ pk_5.out]; rfl
  have hc1pk : w5.cell? ⟨g + 1, 1, none⟩ = some (.int .i64 z) := by rw [cell_of_row _ _ _ _ _ _ pk_5.out]; rfl
  go_wp2_with fail
  refine (key_any s z _).mono ?_
  rintro e w6 ⟨rfl, hb⟩
  have p0_6 := hid (row_below p0_5.out hb)
  clear p0_5
  have pk_6 := hid (row_below pk_5.out hb)
  clear pk_5
  have HX_6 := hid (HX_5.out.below hb)
  clear HX_5
  have p1_6 := hid (row_below p1_5.out hb)
  clear p1_5
  have HY_6 := hid (HY_5.out.below hb)
  clear HY_5
  have p2_6 := hid (row_below p2_5.out hb)
  clear p2_5
  have HB_6 : Hid (Below W.heap.size W w6) := hid (HB_5.out.trans ((hb).mono HB_5.out.size))
  clear HB_5
  clear hb
  clear hc0pk hc1pk
  go_wp2_with fail
  have h := HP.out.nRight s z w6 HFK.out
  rw [HO.out] at h
  have HRI := hid h
  clear h
  refine (HRI.out).mono ?_
  rintro e w7 ⟨rfl, hb⟩
  have p0_7 := hid (row_below p0_6.out hb)
  clear p0_6
  have pk_7 := hid (row_below pk_6.out hb)
  clear pk_6
  have HX_7 := hid (HX_6.out.below hb)
  clear HX_6
  have p1_7 := hid (row_below p1_6.out hb)
  clear p1_6
  have HY_7 := hid (HY_6.out.below hb)
  clear HY_6
  have p2_7 := hid (row_below p2_6.out hb)
  clear p2_6
  have HB_7 : Hid (Below W.heap.size W w7) := hid (HB_6.out.trans ((hb).mono HB_6.out.size))
  clear HB_6
  clear hb
  clear HRI
  rcases (show Hid ((C != 0) = true) ∨ Hid ((C != 0) = false) by cases (C != 0) <;> first | exact .inr (hid rfl) | exact .inl (hid rfl)) with hq | hq
  all_goals have hC0 := hq.out
  all_goals clear hq
  · have hc0p2 : w7.cell? ⟨gp2, 0, none⟩ = some (.bool lf) := by rw [cell_of_row _ _ _ _ _ _ p2_7.out]; rfl
    have hc1p2 : w7.cell? ⟨gp2, 1, none⟩ = some (.slice a2 n2 c2) := by rw [cell_of_row _ _ _ _ _ _ p2_7.out]; rfl
    go_wp2_with fail
    clear hc0p2 hc1p2
    have h := chk_x lf HY_7.out
    rw [← HCE.out] at h
    have HCK := hid h
    clear h
    refine (HCK.out).mono ?_
    rintro e w8 ⟨rfl, hb⟩
    have p0_8 := hid (row_below p0_7.out hb)
    clear p0_7
    have pk_8 := hid (row_below pk_7.out hb)
    clear pk_7
    have HX_8 := hid (HX_7.out.below hb)
    clear HX_7
    have p1_8 := hid (row_below p1_7.out hb)
    clear p1_7
    have HY_8 := hid (HY_7.out.below hb)
    clear HY_7
    have p2_8 := hid (row_below p2_7.out hb)
    clear p2_7
    have HB_8 : Hid (Below W.heap.size W w8) := hid (HB_7.out.trans ((hb).mono HB_7.out.size))
    clear HB_7
    clear hb
    clear HCK
    go_wp2_with fail
    refine (known_any HP.out _).mono ?_
    rintro e w9 ⟨rfl, hb⟩
    have p0_9 := hid (row_below p0_8.out hb)
    clear p0_8
    have pk_9 := hid (row_below pk_8.out hb)
    clear pk_8
    have HX_9 := hid (HX_8.out.below hb)
    clear HX_8
    have p1_9 := hid (row_below p1_8.out hb)
    clear p1_8
    have HY_9 := hid (HY_8.out.below hb)
    clear HY_8
    have p2_9 := hid (row_below p2_8.out hb)
    clear p2_8
    have HB_9 : Hid (Below W.heap.size W w9) := hid (HB_8.out.trans ((hb).mono HB_8.out.size))
    clear HB_8
    clear hb
    go_wp2_with fail
    go_ret
    exact ⟨rfl, HB_9.out⟩
  · have hc0p2 : w7.cell? ⟨gp2, 0, none⟩ = some (.bool lf) := by rw [cell_of_row _ _ _ _ _ _ p2_7.out]; rfl
    have hc1p2 : w7.cell? ⟨gp2, 1, none⟩ = some (.slice a2 n2 c2) := by rw [cell_of_row _ _ _ _ _ _ p2_7.out]; rfl
    go_wp2_with fail
    clear hc0p2 hc1p2
    have h := chk_x lf HY_7.out
    rw [← HCE.out] at h
    have HCK := hid h
    clear h
    refine (HCK.out).mono ?_
    rintro e w8 ⟨rfl, hb⟩
    have p0_8 := hid (row_below p0_7.out hb)
    clear p0_7
    have pk_8 := hid (row_below pk_7.out hb)
    clear pk_7
    have HX_8 := hid (HX_7.out.below hb)
    clear HX_7
    have p1_8 := hid (row_below p1_7.out hb)
    clear p1_7
    have HY_8 := hid (HY_7.out.below hb)
    clear HY_7
    have p2_8 := hid (row_below p2_7.out hb)
    clear p2_7
    have HB_8 : Hid (Below W.heap.size W w8) := hid (HB_7.out.trans ((hb).mono HB_7.out.size))
    clear HB_7
    clear hb
    clear HCK
    go_wp2_with fail
    refine (known_any HP.out _).mono ?_
    rintro e w9 ⟨rfl, hb⟩
    have p0_9 := hid (row_below p0_8.out hb)
    clear p0_8
    have pk_9 := hid (row_below pk_8.out hb)
    clear pk_8
    have HX_9 := hid (HX_8.out.below hb)
    clear HX_8
    have p1_9 := hid (row_below p1_8.out hb)
    clear p1_8
    have HY_9 := hid (HY_8.out.below hb)
    clear HY_8
    have p2_9 := hid (row_below p2_8.out hb)
    clear p2_8
    have HB_9 : Hid (Below W.heap.size W w9) := hid (HB_8.out.trans ((hb).mono HB_8.out.size))
    clear HB_8
    clear hb
    go_wp2_with fail
    go_ret
    exact ⟨rfl, HB_9.out⟩
set_option maxRecDepth 20000 in
set_option maxHeartbeats 16000000 in
theorem finds_node (P : PN) (a : Option Addr) (n c : Nat) (lf : Bool) (es : List Et) (s z : Int) (W : World) (hs : EtS (fun _ => True) W a es) (hn : n = es.length) (hf : ∀ e ∈ es, fitsE e) (hfk : fitsK (s, z)) (hok : okK (s, z) = true) (hchk : chkN lf (es.take 18) ≠ 0) :
    Calls Try.prog 5 #[.agg #[.bool lf, .slice a n c], .agg #[.int .i64 s, .int .i64 z]] W fun e w' => e = .returned (.bool true) ∧ Bel W w' := by
  have HO := hid hok
  have h := okK_iff.1 hok
  have d0 : decide ((0 : Int) ≤ s) = true := decide_eq_true h.1
  have d1 : decide (s < 16) = true := decide_eq_true h.2.1
  have d2 : decide ((0 : Int) ≤ z) = true := decide_eq_true h.2.2.1
  have d3 : decide (z < 65536) = true := decide_eq_true h.2.2.2
  clear hok h
  obtain ⟨C, hC⟩ : ∃ C, C = chkN lf (es.take 18) := ⟨_, rfl⟩
  have hC0 : (C != 0) = true := by rw [bne_iff_ne, hC]; exact hchk
  clear hchk
  have hchk := hC
  clear hC
  have HP := hid P
  have HFK := hid hfk
  obtain ⟨xs, hxs⟩ : ∃ xs, xs = es.take 18 := ⟨_, rfl⟩
  have HXL : Hid (xs.length ≤ 18) := hid (by rw [hxs, List.length_take]; omega)
  obtain ⟨g, hg⟩ : ∃ g, g = W.heap.size := ⟨_, rfl⟩
  obtain ⟨w1, hw1⟩ : ∃ y, y = (W.alloc (.cells #[.bool lf, .slice a n c] 24)).alloc (.cells #[.int .i64 s, .int .i64 z] 48) := ⟨_, rfl⟩
  have HB_1 : Hid (Below W.heap.size W w1) := hid (by rw [hw1]; exact ((Below.refl _ _).alloc (Nat.le_refl _) _).alloc (by simp) _)
  have p0_1 : Hid (w1.heap[g]? = some (.cells #[.bool lf, .slice a n c] 24 (0, 0))) := hid (by rw [hw1, hg]; exact heap_alloc2_old W _ _)
  have pk_1 : Hid (w1.heap[g + 1]? = some (.cells #[.int .i64 s, .int .i64 z] 48 (0, 0))) := hid (by rw [hw1, hg]; exact heap_alloc2_new W _ _)
  have HW := hid hw1
  have HG := hid hg
  have HTO := hid (to_x n c lf (hs.below HB_1.out) hn hf)
  rw [← hxs] at HTO hchk
  have HCE := hid hchk
  clear P hxs hs hn hf hw1 hchk hfk hg
  go_enter Try.func5, Try.ntmps5
  go_upto_region 1 with fail
  rw [← HW.out, ← HG.out]
  clear HW
  have hc0p0 : w1.cell? ⟨g, 0, none⟩ = some (.bool lf) := by rw [cell_of_row _ _ _ _ _ _ p0_1.out]; rfl
  have hc1p0 : w1.cell? ⟨g, 1, none⟩ = some (.slice a n c) := by rw [cell_of_row _ _ _ _ _ _ p0_1.out]; rfl
  go_wp2_with fail
  clear hc0p0 hc1p0
  refine (HTO.out).mono ?_
  rintro e w2 ⟨⟨a1, n1, c1, rfl, hx⟩, hb⟩
  have p0_2 := hid (row_below p0_1.out hb)
  clear p0_1
  have pk_2 := hid (row_below pk_1.out hb)
  clear pk_1
  have HB_2 : Hid (Below W.heap.size W w2) := hid (HB_1.out.trans ((hb).mono HB_1.out.size))
  clear HB_1
  have HX_2 := hid hx
  clear hx
  clear hb
  clear HTO
  obtain ⟨w3, hw3⟩ : ∃ y, y = w2.alloc (.cells #[.bool lf, .slice a1 n1 c1] 27) := ⟨_, rfl⟩
  have hb : Below w2.heap.size w2 w3 := by rw [hw3]; exact allocBelow w2 _
  obtain ⟨gp1, hgp1⟩ : ∃ g, g = w2.heap.size := ⟨_, rfl⟩
  have hr : w3.heap[gp1]? = some (.cells #[.bool lf, .slice a1 n1 c1] 27 (0, 0)) := by rw [hw3, hgp1]; exact heap_alloc_new w2 _
  have HW := hid hw3
  have HGG := hid hgp1
  clear hw3 hgp1
  have p0_3 := hid (row_below p0_2.out hb)
  clear p0_2
  have pk_3 := hid (row_below pk_2.out hb)
  clear pk_2
  have HX_3 := hid (HX_2.out.below hb)
  clear HX_2
  have HB_3 : Hid (Below W.heap.size W w3) := hid (HB_2.out.trans ((hb).mono HB_2.out.size))
  clear HB_2
  have p1_3 := hid hr
  clear hr hb
  go_upto_region 2 with fail
  rw [← HW.out, ← HGG.out]
  clear HW HGG
  have hc0p1 : w3.cell? ⟨gp1, 0, none⟩ = some (.bool lf) := by rw [cell_of_row _ _ _ _ _ _ p1_3.out]; rfl
  have hc1p1 : w3.cell? ⟨gp1, 1, none⟩ = some (.slice a1 n1 c1) := by rw [cell_of_row _ _ _ _ _ _ p1_3.out]; rfl
  go_wp2_with fail
  clear hc0p1 hc1p1
  refine (of_x lf HX_3.out).mono ?_
  rintro e w4 ⟨⟨a2, n2, c2, rfl, hx⟩, hb⟩
  have p0_4 := hid (row_below p0_3.out hb)
  clear p0_3
  have pk_4 := hid (row_below pk_3.out hb)
  clear pk_3
  have HX_4 := hid (HX_3.out.below hb)
  clear HX_3
  have p1_4 := hid (row_below p1_3.out hb)
  clear p1_3
  have HB_4 : Hid (Below W.heap.size W w4) := hid (HB_3.out.trans ((hb).mono HB_3.out.size))
  clear HB_3
  have HY_4 := hid hx
  clear hx
  clear hb
  obtain ⟨w5, hw5⟩ : ∃ y, y = w4.alloc (.cells #[.bool lf, .slice a2 n2 c2] 24) := ⟨_, rfl⟩
  have hb : Below w4.heap.size w4 w5 := by rw [hw5]; exact allocBelow w4 _
  obtain ⟨gp2, hgp2⟩ : ∃ g, g = w4.heap.size := ⟨_, rfl⟩
  have hr : w5.heap[gp2]? = some (.cells #[.bool lf, .slice a2 n2 c2] 24 (0, 0)) := by rw [hw5, hgp2]; exact heap_alloc_new w4 _
  have HW := hid hw5
  have HGG := hid hgp2
  clear hw5 hgp2
  have p0_5 := hid (row_below p0_4.out hb)
  clear p0_4
  have pk_5 := hid (row_below pk_4.out hb)
  clear pk_4
  have HX_5 := hid (HX_4.out.below hb)
  clear HX_4
  have p1_5 := hid (row_below p1_4.out hb)
  clear p1_4
  have HY_5 := hid (HY_4.out.below hb)
  clear HY_4
  have HB_5 : Hid (Below W.heap.size W w5) := hid (HB_4.out.trans ((hb).mono HB_4.out.size))
  clear HB_4
  have p2_5 := hid hr
  clear hr hb
  go_upto_region 3 with fail
  rw [← HW.out, ← HGG.out]
  clear HW HGG
  have hc0pk : w5.cell? ⟨g + 1, 0, none⟩ = some (.int .i64 s) := by rw [cell_of_row _ _ _ _ _ _ pk_5.out]; rfl
  have hc1pk : w5.cell? ⟨g + 1, 1, none⟩ = some (.int .i64 z) := by rw [cell_of_row _ _ _ _ _ _ pk_5.out]; rfl
  go_wp2_with fail
  refine (key_any s z _).mono ?_
  rintro e w6 ⟨rfl, hb⟩
  have p0_6 := hid (row_below p0_5.out hb)
  clear p0_5
  have pk_6 := hid (row_below pk_5.out hb)
  clear pk_5
  have HX_6 := hid (HX_5.out.below hb)
  clear HX_5
  have p1_6 := hid (row_below p1_5.out hb)
  clear p1_5
  have HY_6 := hid (HY_5.out.below hb)
  clear HY_5
  have p2_6 := hid (row_below p2_5.out hb)
  clear p2_5
  have HB_6 : Hid (Below W.heap.size W w6) := hid (HB_5.out.trans ((hb).mono HB_5.out.size))
  clear HB_5
  clear hb
  clear hc0pk hc1pk
  go_wp2_with fail
  have h := HP.out.nRight s z w6 HFK.out
  rw [HO.out] at h
  have HRI := hid h
  clear h
  refine (HRI.out).mono ?_
  rintro e w7 ⟨rfl, hb⟩
  have p0_7 := hid (row_below p0_6.out hb)
  clear p0_6
  have pk_7 := hid (row_below pk_6.out hb)
  clear pk_6
  have HX_7 := hid (HX_6.out.below hb)
  clear HX_6
  have p1_7 := hid (row_below p1_6.out hb)
  clear p1_6
  have HY_7 := hid (HY_6.out.below hb)
  clear HY_6
  have p2_7 := hid (row_below p2_6.out hb)
  clear p2_6
  have HB_7 : Hid (Below W.heap.size W w7) := hid (HB_6.out.trans ((hb).mono HB_6.out.size))
  clear HB_6
  clear hb
  clear HRI
  have hc0p2 : w7.cell? ⟨gp2, 0, none⟩ = some (.bool lf) := by rw [cell_of_row _ _ _ _ _ _ p2_7.out]; rfl
  have hc1p2 : w7.cell? ⟨gp2, 1, none⟩ = some (.slice a2 n2 c2) := by rw [cell_of_row _ _ _ _ _ _ p2_7.out]; rfl
  go_wp2_with fail
  clear hc0p2 hc1p2
  have h := chk_x lf HY_7.out
  rw [← HCE.out] at h
  have HCK := hid h
  clear h
  refine (HCK.out).mono ?_
  rintro e w8 ⟨rfl, hb⟩
  have p0_8 := hid (row_below p0_7.out hb)
  clear p0_7
  have pk_8 := hid (row_below pk_7.out hb)
  clear pk_7
  have HX_8 := hid (HX_7.out.below hb)
  clear HX_7
  have p1_8 := hid (row_below p1_7.out hb)
  clear p1_7
  have HY_8 := hid (HY_7.out.below hb)
  clear HY_7
  have p2_8 := hid (row_below p2_7.out hb)
  clear p2_7
  have HB_8 : Hid (Below W.heap.size W w8) := hid (HB_7.out.trans ((hb).mono HB_7.out.size))
  clear HB_7
  clear hb
  clear HCK
  go_wp2_with fail
  refine (known_any HP.out _).mono ?_
  rintro e w9 ⟨rfl, hb⟩
  have p0_9 := hid (row_below p0_8.out hb)
  clear p0_8
  have pk_9 := hid (row_below pk_8.out hb)
  clear pk_8
  have HX_9 := hid (HX_8.out.below hb)
  clear HX_8
  have p1_9 := hid (row_below p1_8.out hb)
  clear p1_8
  have HY_9 := hid (HY_8.out.below hb)
  clear HY_8
  have p2_9 := hid (row_below p2_8.out hb)
  clear p2_8
  have HB_9 : Hid (Below W.heap.size W w9) := hid (HB_8.out.trans ((hb).mono HB_8.out.size))
  clear HB_8
  clear hb
  go_wp2_with fail
  go_ret
  exact ⟨rfl, HB_9.out⟩
end Go.Proofs.Ytokeihpmagcneaa
