/- THE LAWS LeafBytes, LeafReads: the walks. -/
import Derived.Test.YtokeihpmagcneaaNdK
import Derived.Test.YtokeihpmagcneaaGrow
import Derived.BigQuiet
import Derived.Deep.CutBlock
namespace Go.Proofs.Ytokeihpmagcneaa
open Go.RowKit Go.Inc

set_option maxRecDepth 20000 in
set_option maxHeartbeats 8000000 in
theorem bytes_bad (P : PN) (a : Option Addr) (n c : Nat) (lf : Bool) (es : List Et) (W : World) (hs : EtS (fun _ => True) W a es) (hn : n = es.length) (hf : ∀ e ∈ es, fitsE e) (hchk : chkN lf (es.take 18) ≠ 0) :
    Calls Try.prog 3 #[.agg #[.bool lf, .slice a n c]] W fun e w' => e = .returned (.bool true) ∧ Below W.heap.size W w' := by
  have HP := hid P
  obtain ⟨xs, hxs⟩ : ∃ xs, xs = es.take 18 := ⟨_, rfl⟩
  obtain ⟨w1, hw1⟩ : ∃ y, y = W.alloc (.cells #[.bool lf, .slice a n c] 24) := ⟨_, rfl⟩
  have HB_1 : Hid (Below W.heap.size W w1) := hid (by rw [hw1]; exact allocBelow W _)
  have HW := hid hw1
  have HTO := hid (to_x n c lf (hs.below HB_1.out) hn hf)
  rw [← hxs] at HTO hchk
  have HC := hid hchk
  clear P hxs hs hn hf hw1 hchk
  obtain ⟨C, hC⟩ : ∃ C, C = chkN lf xs := ⟨_, rfl⟩
  have hCC : (C != C) = false := by simp
  have hC0 : (C != 0) = true := by rw [bne_iff_ne, hC]; exact HC.out
  have HCE := hid hC
  clear hC
  go_enter Try.func3, Try.ntmps3
  go_wp2_with fail
  rw [← HW.out]
  clear HW
  refine (HTO.out).mono ?_
  rintro e w2 ⟨⟨a1, n1, c1, rfl, hx⟩, hb⟩
  have HB_2 : Hid (Below W.heap.size W w2) := hid (HB_1.out.trans ((hb).mono HB_1.out.size))
  clear HB_1
  have HX_2 := hid hx
  clear hx
  clear hb
  clear HTO
  obtain ⟨w3, hw3⟩ : ∃ y, y = w2.alloc (.cells #[.bool lf, .slice a1 n1 c1] 27) := ⟨_, rfl⟩
  have hb : Below w2.heap.size w2 w3 := by rw [hw3]; exact allocBelow w2 _
  obtain ⟨gp1, hgp1⟩ : ∃ g, g = w2.heap.size := ⟨_, rfl⟩
  have hr : w3.heap[gp1]? = some (.cells #[.bool lf, .slice a1 n1 c1] 27 (0, 0)) := by rw [hw3, hgp1]; exact heap_alloc_new w2 _
  have HW := hid hw3
  have HGG := hid hgp1
  clear hw3 hgp1
  have HX_3 := hid (HX_2.out.below hb)
  clear HX_2
  have HB_3 : Hid (Below W.heap.size W w3) := hid (HB_2.out.trans ((hb).mono HB_2.out.size))
  clear HB_2
  have p1_3 := hid hr
  clear hr hb
  go_upto_region 2 with fail
  rw [← HW.out, ← HGG.out]
  clear HW HGG
  have hc0p1 : w3.cell? ⟨gp1, 0, none⟩ = some (.bool lf) := by rw [cell_of_row _ _ _ _ _ _ p1_3.out]; rfl
  have hc1p1 : w3.cell? ⟨gp1, 1, none⟩ = some (.slice a1 n1 c1) := by rw [cell_of_row _ _ _ _ _ _ p1_3.out]; rfl
  go_wp2_with fail
  clear hc0p1 hc1p1
  refine (of_x lf HX_3.out).mono ?_
  rintro e w4 ⟨⟨a2, n2, c2, rfl, hx⟩, hb⟩
  have HX_4 := hid (HX_3.out.below hb)
  clear HX_3
  have p1_4 := hid (row_below p1_3.out hb)
  clear p1_3
  have HB_4 : Hid (Below W.heap.size W w4) := hid (HB_3.out.trans ((hb).mono HB_3.out.size))
  clear HB_3
  have HY_4 := hid hx
  clear hx
  clear hb
  obtain ⟨w5, hw5⟩ : ∃ y, y = w4.alloc (.cells #[.bool lf, .slice a2 n2 c2] 24) := ⟨_, rfl⟩
  have hb : Below w4.heap.size w4 w5 := by rw [hw5]; exact allocBelow w4 _
  obtain ⟨gp2, hgp2⟩ : ∃ g, g = w4.heap.size := ⟨_, rfl⟩
  have hr : w5.heap[gp2]? = some (.cells #[.bool lf, .slice a2 n2 c2] 24 (0, 0)) := by rw [hw5, hgp2]; exact heap_alloc_new w4 _
  have HW := hid hw5
  have HGG := hid hgp2
  clear hw5 hgp2
  have HX_5 := hid (HX_4.out.below hb)
  clear HX_4
  have p1_5 := hid (row_below p1_4.out hb)
  clear p1_4
  have HY_5 := hid (HY_4.out.below hb)
  clear HY_4
  have HB_5 : Hid (Below W.heap.size W w5) := hid (HB_4.out.trans ((hb).mono HB_4.out.size))
  clear HB_4
  have p2_5 := hid hr
  clear hr hb
  go_upto_region 3 with fail
  rw [← HW.out, ← HGG.out]
  clear HW HGG
  have hc0p1 : w5.cell? ⟨gp1, 0, none⟩ = some (.bool lf) := by rw [cell_of_row _ _ _ _ _ _ p1_5.out]; rfl
  have hc1p1 : w5.cell? ⟨gp1, 1, none⟩ = some (.slice a1 n1 c1) := by rw [cell_of_row _ _ _ _ _ _ p1_5.out]; rfl
  go_wp2_with fail
  clear hc0p1 hc1p1
  have h := HP.out.nEncode _ _ _ lf xs _ HX_5.out
  rw [← HCE.out, if_neg (by rw [HCE.out]; exact HC.out)] at h
  have HEN := hid h
  clear h
  refine (HEN.out).mono ?_
  rintro e w6 ⟨⟨v, rfl, hv⟩, hb⟩
  have HX_6 := hid (HX_5.out.below hb)
  clear HX_5
  have p1_6 := hid (row_below p1_5.out hb)
  clear p1_5
  have HY_6 := hid (HY_5.out.below hb)
  clear HY_5
  have p2_6 := hid (row_below p2_5.out hb)
  clear p2_5
  have HB_6 : Hid (Below W.heap.size W w6) := hid (HB_5.out.trans ((hb).mono HB_5.out.size))
  clear HB_5
  have HV_6 := hid hv
  clear hv
  clear hb
  clear HEN
  obtain ⟨a3, c3, rfl, q1, q2, q3, -⟩ := HV_6.out.sl
  have HQ := hid (And.intro q1 (And.intro q2 q3))
  clear q1 q2 q3
  simp only [List.length_nil]
  have hc0p2 : w6.cell? ⟨gp2, 0, none⟩ = some (.bool lf) := by rw [cell_of_row _ _ _ _ _ _ p2_6.out]; rfl
  have hc1p2 : w6.cell? ⟨gp2, 1, none⟩ = some (.slice a2 n2 c2) := by rw [cell_of_row _ _ _ _ _ _ p2_6.out]; rfl
  go_wp2_with fail
  clear hc0p2 hc1p2
  have h := chk_x lf HY_6.out
  rw [← HCE.out] at h
  have HCK := hid h
  clear h
  refine (HCK.out).mono ?_
  rintro e w7 ⟨rfl, hb⟩
  have HX_7 := hid (HX_6.out.below hb)
  clear HX_6
  have p1_7 := hid (row_below p1_6.out hb)
  clear p1_6
  have HY_7 := hid (HY_6.out.below hb)
  clear HY_6
  have p2_7 := hid (row_below p2_6.out hb)
  clear p2_6
  have HV_7 := hid (HV_6.out.kept hb)
  clear HV_6
  have HB_7 : Hid (Below W.heap.size W w7) := hid (HB_6.out.trans ((hb).mono HB_6.out.size))
  clear HB_6
  clear hb
  clear HCK
  have hc0p1 : w7.cell? ⟨gp1, 0, none⟩ = some (.bool lf) := by rw [cell_of_row _ _ _ _ _ _ p1_7.out]; rfl
  have hc1p1 : w7.cell? ⟨gp1, 1, none⟩ = some (.slice a1 n1 c1) := by rw [cell_of_row _ _ _ _ _ _ p1_7.out]; rfl
  go_wp2_with fail
  clear hc0p1 hc1p1
  have h := HP.out.nCheck _ _ _ lf xs _ HX_7.out
  rw [← HCE.out] at h
  have HCK := hid h
  clear h
  refine (HCK.out).mono ?_
  rintro e w8 ⟨rfl, hb⟩
  have HX_8 := hid (HX_7.out.below hb)
  clear HX_7
  have p1_8 := hid (row_below p1_7.out hb)
  clear p1_7
  have HY_8 := hid (HY_7.out.below hb)
  clear HY_7
  have p2_8 := hid (row_below p2_7.out hb)
  clear p2_7
  have HV_8 := hid (HV_7.out.kept hb)
  clear HV_7
  have HB_8 : Hid (Below W.heap.size W w8) := hid (HB_7.out.trans ((hb).mono HB_7.out.size))
  clear HB_7
  clear hb
  clear HCK
  have hc0p1 : w8.cell? ⟨gp1, 0, none⟩ = some (.bool lf) := by rw [cell_of_row _ _ _ _ _ _ p1_8.out]; rfl
  have hc1p1 : w8.cell? ⟨gp1, 1, none⟩ = some (.slice a1 n1 c1) := by rw [cell_of_row _ _ _ _ _ _ p1_8.out]; rfl
  go_wp2_with fail
  clear hc0p1 hc1p1
  refine (HP.out.nSame _ _ _ _ _ _ lf xs _ HX_8.out HX_8.out).mono ?_
  rintro e w9 ⟨rfl, hb⟩
  have HX_9 := hid (HX_8.out.below hb)
  clear HX_8
  have p1_9 := hid (row_below p1_8.out hb)
  clear p1_8
  have HY_9 := hid (HY_8.out.below hb)
  clear HY_8
  have p2_9 := hid (row_below p2_8.out hb)
  clear p2_8
  have HV_9 := hid (HV_8.out.kept hb)
  clear HV_8
  have HB_9 : Hid (Below W.heap.size W w9) := hid (HB_8.out.trans ((hb).mono HB_8.out.size))
  clear HB_8
  clear hb
  go_wp2_with fail
  refine (known_any HP.out _).mono ?_
  rintro e w10 ⟨rfl, hb⟩
  have HX_10 := hid (HX_9.out.below hb)
  clear HX_9
  have p1_10 := hid (row_below p1_9.out hb)
  clear p1_9
  have HY_10 := hid (HY_9.out.below hb)
  clear HY_9
  have p2_10 := hid (row_below p2_9.out hb)
  clear p2_9
  have HV_10 := hid (HV_9.out.kept hb)
  clear HV_9
  have HB_10 : Hid (Below W.heap.size W w10) := hid (HB_9.out.trans ((hb).mono HB_9.out.size))
  clear HB_9
  clear hb
  go_wp2_with fail
  go_ret
  exact ⟨rfl, HB_10.out⟩
set_option maxRecDepth 20000 in
set_option maxHeartbeats 8000000 in
theorem bytes_good (P : PN) (a : Option Addr) (n c : Nat) (lf : Bool) (es : List Et) (W : World) (hs : EtS (fun _ => True) W a es) (hn : n = es.length) (hf : ∀ e ∈ es, fitsE e) (hchk : chkN lf (es.take 18) = 0) :
    Calls Try.prog 3 #[.agg #[.bool lf, .slice a n c]] W fun e w' => e = .returned (.bool true) ∧ Below W.heap.size W w' := by
  have HP := hid P
  obtain ⟨xs, hxs⟩ : ∃ xs, xs = es.take 18 := ⟨_, rfl⟩
  obtain ⟨w1, hw1⟩ : ∃ y, y = W.alloc (.cells #[.bool lf, .slice a n c] 24) := ⟨_, rfl⟩
  have HB_1 : Hid (Below W.heap.size W w1) := hid (by rw [hw1]; exact allocBelow W _)
  have HW := hid hw1
  have HTO := hid (to_x n c lf (hs.below HB_1.out) hn hf)
  rw [← hxs] at HTO hchk
  have HC := hid hchk
  clear P hxs hs hn hf hw1 hchk
  have hCC : ((0 : Int) != 0) = false := by decide
  go_enter Try.func3, Try.ntmps3
  go_wp2_with fail
  rw [← HW.out]
  clear HW
  refine (HTO.out).mono ?_
  rintro e w2 ⟨⟨a1, n1, c1, rfl, hx⟩, hb⟩
  have HB_2 : Hid (Below W.heap.size W w2) := hid (HB_1.out.trans ((hb).mono HB_1.out.size))
  clear HB_1
  have HX_2 := hid hx
  clear hx
  clear hb
  clear HTO
  obtain ⟨w3, hw3⟩ : ∃ y, y = w2.alloc (.cells #[.bool lf, .slice a1 n1 c1] 27) := ⟨_, rfl⟩
  have hb : Below w2.heap.size w2 w3 := by rw [hw3]; exact allocBelow w2 _
  obtain ⟨gp1, hgp1⟩ : ∃ g, g = w2.heap.size := ⟨_, rfl⟩
  have hr : w3.heap[gp1]? = some (.cells #[.bool lf, .slice a1 n1 c1] 27 (0, 0)) := by rw [hw3, hgp1]; exact heap_alloc_new w2 _
  have HW := hid hw3
  have HGG := hid hgp1
  clear hw3 hgp1
  have HX_3 := hid (HX_2.out.below hb)
  clear HX_2
  have HB_3 : Hid (Below W.heap.size W w3) := hid (HB_2.out.trans ((hb).mono HB_2.out.size))
  clear HB_2
  have p1_3 := hid hr
  clear hr hb
  go_upto_region 2 with fail
  rw [← HW.out, ← HGG.out]
  clear HW HGG
  have hc0p1 : w3.cell? ⟨gp1, 0, none⟩ = some (.bool lf) := by rw [cell_of_row _ _ _ _ _ _ p1_3.out]; rfl
  have hc1p1 : w3.cell? ⟨gp1, 1, none⟩ = some (.slice a1 n1 c1) := by rw [cell_of_row _ _ _ _ _ _ p1_3.out]; rfl
  go_wp2_with fail
  clear hc0p1 hc1p1
  refine (of_x lf HX_3.out).mono ?_
  rintro e w4 ⟨⟨a2, n2, c2, rfl, hx⟩, hb⟩
  have HX_4 := hid (HX_3.out.below hb)
  clear HX_3
  have p1_4 := hid (row_below p1_3.out hb)
  clear p1_3
  have HB_4 : Hid (Below W.heap.size W w4) := hid (HB_3.out.trans ((hb).mono HB_3.out.size))
  clear HB_3
  have HY_4 := hid hx
  clear hx
  clear hb
  obtain ⟨w5, hw5⟩ : ∃ y, y = w4.alloc (.cells #[.bool lf, .slice a2 n2 c2] 24) := ⟨_, rfl⟩
  have hb : Below w4.heap.size w4 w5 := by rw [hw5]; exact allocBelow w4 _
  obtain ⟨gp2, hgp2⟩ : ∃ g, g = w4.heap.size := ⟨_, rfl⟩
  have hr : w5.heap[gp2]? = some (.cells #[.bool lf, .slice a2 n2 c2] 24 (0, 0)) := by rw [hw5, hgp2]; exact heap_alloc_new w4 _
  have HW := hid hw5
  have HGG := hid hgp2
  clear hw5 hgp2
  have HX_5 := hid (HX_4.out.below hb)
  clear HX_4
  have p1_5 := hid (row_below p1_4.out hb)
  clear p1_4
  have HY_5 := hid (HY_4.out.below hb)
  clear HY_4
  have HB_5 : Hid (Below W.heap.size W w5) := hid (HB_4.out.trans ((hb).mono HB_4.out.size))
  clear HB_4
  have p2_5 := hid hr
  clear hr hb
  go_upto_region 3 with fail
  rw [← HW.out, ← HGG.out]
  clear HW HGG
  have hc0p1 : w5.cell? ⟨gp1, 0, none⟩ = some (.bool lf) := by rw [cell_of_row _ _ _ _ _ _ p1_5.out]; rfl
  have hc1p1 : w5.cell? ⟨gp1, 1, none⟩ = some (.slice a1 n1 c1) := by rw [cell_of_row _ _ _ _ _ _ p1_5.out]; rfl
  go_wp2_with fail
  clear hc0p1 hc1p1
  have h := HP.out.nEncode _ _ _ lf xs _ HX_5.out
  rw [HC.out, if_pos rfl] at h
  have HEN := hid h
  clear h
  refine (HEN.out).mono ?_
  rintro e w6 ⟨⟨v, rfl, hv⟩, hb⟩
  have HX_6 := hid (HX_5.out.below hb)
  clear HX_5
  have p1_6 := hid (row_below p1_5.out hb)
  clear p1_5
  have HY_6 := hid (HY_5.out.below hb)
  clear HY_5
  have p2_6 := hid (row_below p2_5.out hb)
  clear p2_5
  have HB_6 : Hid (Below W.heap.size W w6) := hid (HB_5.out.trans ((hb).mono HB_5.out.size))
  clear HB_5
  have HV_6 := hid hv
  clear hv
  clear hb
  clear HEN
  obtain ⟨a3, c3, rfl, q1, q2, q3, -⟩ := HV_6.out.sl
  have HQ := hid (And.intro q1 (And.intro q2 q3))
  clear q1 q2 q3
  obtain ⟨E, hE⟩ : ∃ E, E = encN lf xs := ⟨_, rfl⟩
  have HE := hid hE
  rw [← hE] at HV_6 HQ ⊢
  obtain ⟨n3, hn3⟩ : ∃ k, k = E.length := ⟨_, rfl⟩
  have HN3 := hid hn3
  rw [← hn3]
  clear hE hn3
  have hc0p2 : w6.cell? ⟨gp2, 0, none⟩ = some (.bool lf) := by rw [cell_of_row _ _ _ _ _ _ p2_6.out]; rfl
  have hc1p2 : w6.cell? ⟨gp2, 1, none⟩ = some (.slice a2 n2 c2) := by rw [cell_of_row _ _ _ _ _ _ p2_6.out]; rfl
  go_wp2_with fail
  clear hc0p2 hc1p2
  have h := chk_x lf HY_6.out
  rw [HC.out] at h
  have HCK := hid h
  clear h
  refine (HCK.out).mono ?_
  rintro e w7 ⟨rfl, hb⟩
  have HX_7 := hid (HX_6.out.below hb)
  clear HX_6
  have p1_7 := hid (row_below p1_6.out hb)
  clear p1_6
  have HY_7 := hid (HY_6.out.below hb)
  clear HY_6
  have p2_7 := hid (row_below p2_6.out hb)
  clear p2_6
  have HV_7 := hid (HV_6.out.kept hb)
  clear HV_6
  have HB_7 : Hid (Below W.heap.size W w7) := hid (HB_6.out.trans ((hb).mono HB_6.out.size))
  clear HB_6
  clear hb
  clear HCK
  have hc0p1 : w7.cell? ⟨gp1, 0, none⟩ = some (.bool lf) := by rw [cell_of_row _ _ _ _ _ _ p1_7.out]; rfl
  have hc1p1 : w7.cell? ⟨gp1, 1, none⟩ = some (.slice a1 n1 c1) := by rw [cell_of_row _ _ _ _ _ _ p1_7.out]; rfl
  go_wp2_with fail
  clear hc0p1 hc1p1
  have h := HP.out.nCheck _ _ _ lf xs _ HX_7.out
  rw [HC.out] at h
  have HCK := hid h
  clear h
  refine (HCK.out).mono ?_
  rintro e w8 ⟨rfl, hb⟩
  have HX_8 := hid (HX_7.out.below hb)
  clear HX_7
  have p1_8 := hid (row_below p1_7.out hb)
  clear p1_7
  have HY_8 := hid (HY_7.out.below hb)
  clear HY_7
  have p2_8 := hid (row_below p2_7.out hb)
  clear p2_7
  have HV_8 := hid (HV_7.out.kept hb)
  clear HV_7
  have HB_8 : Hid (Below W.heap.size W w8) := hid (HB_7.out.trans ((hb).mono HB_7.out.size))
  clear HB_7
  clear hb
  clear HCK
  have hc0p1 : w8.cell? ⟨gp1, 0, none⟩ = some (.bool lf) := by rw [cell_of_row _ _ _ _ _ _ p1_8.out]; rfl
  have hc1p1 : w8.cell? ⟨gp1, 1, none⟩ = some (.slice a1 n1 c1) := by rw [cell_of_row _ _ _ _ _ _ p1_8.out]; rfl
  go_wp2_with fail
  clear hc0p1 hc1p1
  refine (HP.out.nSame _ _ _ _ _ _ lf xs _ HX_8.out HX_8.out).mono ?_
  rintro e w9 ⟨rfl, hb⟩
  have HX_9 := hid (HX_8.out.below hb)
  clear HX_8
  have p1_9 := hid (row_below p1_8.out hb)
  clear p1_8
  have HY_9 := hid (HY_8.out.below hb)
  clear HY_8
  have p2_9 := hid (row_below p2_8.out hb)
  clear p2_8
  have HV_9 := hid (HV_8.out.kept hb)
  clear HV_8
  have HB_9 : Hid (Below W.heap.size W w9) := hid (HB_8.out.trans ((hb).mono HB_8.out.size))
  clear HB_8
  clear hb
  go_wp2_with fail

  obtain ⟨a9, c9, e9, -, -, -, hs9⟩ := HV_9.out.sl
  have HS : Hid (Sl (fun _ => True) w9 a3 E) := hid (by
    rw [← HN3.out] at e9
    cases e9
    exact hs9.mono fun _ _ _ => trivial)
  clear e9 hs9
  have h := HP.out.nDecode _ a3 n3 c3 E _ HS.out HN3.out (by have h1 := HQ.out; rw [← HN3.out] at h1; first | exact ⟨h1.1, h1.2.1⟩ | exact ⟨h1.2.1, h1.1⟩ | omega) (by have h1 := HQ.out; first | exact h1.2.2 | exact h1.1 | exact h1.2.1) (by rw [HE.out]; exact encN_bytes (chkN_zero HC.out).1) (by have h1 := encN_le HC.out; rw [← HE.out, ← HN3.out] at h1; omega)
  rw [HE.out, (enc_dec HC.out).2.1, (enc_dec HC.out).2.2.1, (enc_dec HC.out).2.2.2] at h
  have HDE := hid h
  clear h HS
  refine (HDE.out).mono ?_
  rintro e w10 ⟨⟨v, rfl, hv⟩, hb⟩
  have HX_10 := hid (HX_9.out.below hb)
  clear HX_9
  have p1_10 := hid (row_below p1_9.out hb)
  clear p1_9
  have HY_10 := hid (HY_9.out.below hb)
  clear HY_9
  have p2_10 := hid (row_below p2_9.out hb)
  clear p2_9
  have HV_10 := hid (HV_9.out.kept hb)
  clear HV_9
  have HB_10 : Hid (Below W.heap.size W w10) := hid (HB_9.out.trans ((hb).mono HB_9.out.size))
  clear HB_9
  clear hb
  clear HDE
  obtain ⟨a4, n4, c4, rfl, hx⟩ := hv
  have HZ_10 := hid hx
  clear hx
  obtain ⟨w11, hw11⟩ : ∃ y, y = w10.alloc (.cells #[.bool lf, .slice a4 n4 c4] 27) := ⟨_, rfl⟩
  have hb : Below w10.heap.size w10 w11 := by rw [hw11]; exact allocBelow w10 _
  obtain ⟨gp3, hgp3⟩ : ∃ g, g = w10.heap.size := ⟨_, rfl⟩
  have hr : w11.heap[gp3]? = some (.cells #[.bool lf, .slice a4 n4 c4] 27 (0, 0)) := by rw [hw11, hgp3]; exact heap_alloc_new w10 _
  have HW := hid hw11
  have HGG := hid hgp3
  clear hw11 hgp3
  have HX_11 := hid (HX_10.out.below hb)
  clear HX_10
  have p1_11 := hid (row_below p1_10.out hb)
  clear p1_10
  have HY_11 := hid (HY_10.out.below hb)
  clear HY_10
  have p2_11 := hid (row_below p2_10.out hb)
  clear p2_10
  have HV_11 := hid (HV_10.out.kept hb)
  clear HV_10
  have HZ_11 := hid (HZ_10.out.below hb)
  clear HZ_10
  have HB_11 : Hid (Below W.heap.size W w11) := hid (HB_10.out.trans ((hb).mono HB_10.out.size))
  clear HB_10
  have p3_11 := hid hr
  clear hr hb
  go_upto_region 10 with fail
  rw [← HW.out, ← HGG.out]
  clear HW HGG
  go_wp2_with fail
  refine (known_any HP.out _).mono ?_
  rintro e w12 ⟨rfl, hb⟩
  have HX_12 := hid (HX_11.out.below hb)
  clear HX_11
  have p1_12 := hid (row_below p1_11.out hb)
  clear p1_11
  have HY_12 := hid (HY_11.out.below hb)
  clear HY_11
  have p2_12 := hid (row_below p2_11.out hb)
  clear p2_11
  have HV_12 := hid (HV_11.out.kept hb)
  clear HV_11
  have HZ_12 := hid (HZ_11.out.below hb)
  clear HZ_11
  have p3_12 := hid (row_below p3_11.out hb)
  clear p3_11
  have HB_12 : Hid (Below W.heap.size W w12) := hid (HB_11.out.trans ((hb).mono HB_11.out.size))
  clear HB_11
  clear hb
  have hc0p2 : w12.cell? ⟨gp2, 0, none⟩ = some (.bool lf) := by rw [cell_of_row _ _ _ _ _ _ p2_12.out]; rfl
  have hc1p2 : w12.cell? ⟨gp2, 1, none⟩ = some (.slice a2 n2 c2) := by rw [cell_of_row _ _ _ _ _ _ p2_12.out]; rfl
  go_wp2_with fail
  clear hc0p2 hc1p2
  have h := enc_x lf HY_12.out HC.out
  rw [← HE.out] at h
  have HEN := hid h
  clear h
  refine (HEN.out).mono ?_
  rintro e w13 ⟨u, rfl, hu, hb⟩
  have HX_13 := hid (HX_12.out.below hb)
  clear HX_12
  have p1_13 := hid (row_below p1_12.out hb)
  clear p1_12
  have HY_13 := hid (HY_12.out.below hb)
  clear HY_12
  have p2_13 := hid (row_below p2_12.out hb)
  clear p2_12
  have HV_13 := hid (HV_12.out.kept hb)
  clear HV_12
  have HZ_13 := hid (HZ_12.out.below hb)
  clear HZ_12
  have p3_13 := hid (row_below p3_12.out hb)
  clear p3_12
  have HB_13 : Hid (Below W.heap.size W w13) := hid (HB_12.out.trans ((hb).mono HB_12.out.size))
  clear HB_12
  have HU_13 := hid hu
  clear hu
  clear hb
  clear HEN
  obtain ⟨a5, c5, rfl, -, -, -, hs5⟩ := HU_13.out.sl
  obtain ⟨a9, c9, e9, -, -, -, hs9⟩ := HV_13.out.sl
  rw [← HN3.out] at e9 ⊢
  cases e9
  have HSB := hid (bSame_eq n3 c3 c5 E hs9 hs5 HN3.out (by have h1 := encN_le HC.out; rw [← HE.out, ← HN3.out] at h1; omega))
  clear hs5 hs9
  go_wp2_with fail
  refine (HSB.out).mono ?_
  rintro e w14 ⟨rfl, hb⟩
  have HX_14 := hid (HX_13.out.below hb)
  clear HX_13
  have p1_14 := hid (row_below p1_13.out hb)
  clear p1_13
  have HY_14 := hid (HY_13.out.below hb)
  clear HY_13
  have p2_14 := hid (row_below p2_13.out hb)
  clear p2_13
  have HV_14 := hid (HV_13.out.kept hb)
  clear HV_13
  have HZ_14 := hid (HZ_13.out.below hb)
  clear HZ_13
  have p3_14 := hid (row_below p3_13.out hb)
  clear p3_13
  have HU_14 := hid (HU_13.out.kept hb)
  clear HU_13
  have HB_14 : Hid (Below W.heap.size W w14) := hid (HB_13.out.trans ((hb).mono HB_13.out.size))
  clear HB_13
  clear hb
  clear HSB
  have hc0p1 : w14.cell? ⟨gp1, 0, none⟩ = some (.bool lf) := by rw [cell_of_row _ _ _ _ _ _ p1_14.out]; rfl
  have hc1p1 : w14.cell? ⟨gp1, 1, none⟩ = some (.slice a1 n1 c1) := by rw [cell_of_row _ _ _ _ _ _ p1_14.out]; rfl
  have hc0p3 : w14.cell? ⟨gp3, 0, none⟩ = some (.bool lf) := by rw [cell_of_row _ _ _ _ _ _ p3_14.out]; rfl
  have hc1p3 : w14.cell? ⟨gp3, 1, none⟩ = some (.slice a4 n4 c4) := by rw [cell_of_row _ _ _ _ _ _ p3_14.out]; rfl
  go_wp2_with fail
  clear hc0p1 hc1p1 hc0p3 hc1p3
  refine (HP.out.nSame _ _ _ _ _ _ lf xs _ HZ_14.out HX_14.out).mono ?_
  rintro e w15 ⟨rfl, hb⟩
  have HX_15 := hid (HX_14.out.below hb)
  clear HX_14
  have p1_15 := hid (row_below p1_14.out hb)
  clear p1_14
  have HY_15 := hid (HY_14.out.below hb)
  clear HY_14
  have p2_15 := hid (row_below p2_14.out hb)
  clear p2_14
  have HV_15 := hid (HV_14.out.kept hb)
  clear HV_14
  have HZ_15 := hid (HZ_14.out.below hb)
  clear HZ_14
  have p3_15 := hid (row_below p3_14.out hb)
  clear p3_14
  have HU_15 := hid (HU_14.out.kept hb)
  clear HU_14
  have HB_15 : Hid (Below W.heap.size W w15) := hid (HB_14.out.trans ((hb).mono HB_14.out.size))
  clear HB_14
  clear hb
  go_wp2_with fail
  go_ret
  exact ⟨rfl, HB_15.out⟩
theorem leafBytes_walk (P : PN) (a : Option Addr) (n c : Nat) (lf : Bool) (es : List Et) (W : World) (hs : EtS (fun _ => True) W a es) (hn : n = es.length) (hf : ∀ e ∈ es, fitsE e) :
    Calls Try.prog 3 #[.agg #[.bool lf, .slice a n c]] W fun e w' => e = .returned (.bool true) ∧ Below W.heap.size W w' := by
  by_cases hchk : chkN lf (es.take 18) = 0
  · exact bytes_good P a n c lf es W hs hn hf hchk
  · exact bytes_bad P a n c lf es W hs hn hf hchk
end Go.Proofs.Ytokeihpmagcneaa
