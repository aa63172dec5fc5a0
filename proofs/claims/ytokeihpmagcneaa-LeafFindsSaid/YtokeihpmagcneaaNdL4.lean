/- THE LAW LeafFinds: right nodes and keys. -/
import Derived.Test.YtokeihpmagcneaaNdL3
namespace Go.Proofs.Ytokeihpmagcneaa
open Go.RowKit Go.Inc

set_option maxRecDepth 20000 in
set_option maxHeartbeats 16000000 in
theorem finds_node2 (P : PN) (a : Option Addr) (n c : Nat) (es : List Et) (s z : Int) (W : World) (hs : EtS (fun _ => True) W a es) (hn : n = es.length) (hf : ∀ e ∈ es, fitsE e) (hfk : fitsK (s, z)) (hok : okK (s, z) = true) (hchk : chkN false (es.take 18) = 0) :
    Calls Try.prog 5 #[.agg #[.bool false, .slice a n c], .agg #[.int .i64 s, .int .i64 z]] W fun e w' => e = .returned (.bool true) ∧ Bel W w' := by
  have HO := hid hok
  have h := okK_iff.1 hok
  have d0 : decide ((0 : Int) ≤ s) = true := decide_eq_true h.1
  have d1 : decide (s < 16) = true := decide_eq_true h.2.1
  have d2 : decide ((0 : Int) ≤ z) = true := decide_eq_true h.2.2.1
  have d3 : decide (z < 65536) = true := decide_eq_true h.2.2.2
  clear hok h
  have HC0 := hid hchk
  obtain ⟨C, hC⟩ : ∃ C, C = chkN false (es.take 18) := ⟨_, rfl⟩
  have hCz : C = 0 := hC.trans hchk
  subst hCz
  clear hchk
  have hchk := hC
  clear hC
  have HP := hid P
  have HFK := hid hfk
  obtain ⟨xs, hxs⟩ : ∃ xs, xs = es.take 18 := ⟨_, rfl⟩
  have HXL : Hid (xs.length ≤ 18) := hid (by rw [hxs, List.length_take]; omega)
  obtain ⟨g, hg⟩ : ∃ g, g = W.heap.size := ⟨_, rfl⟩
  obtain ⟨w1, hw1⟩ : ∃ y, y = (W.alloc (.cells #[.bool false, .slice a n c] 24)).alloc (.cells #[.int .i64 s, .int .i64 z] 48) := ⟨_, rfl⟩
  have HB_1 : Hid (Below W.heap.size W w1) := hid (by rw [hw1]; exact ((Below.refl _ _).alloc (Nat.le_refl _) _).alloc (by simp) _)
  have p0_1 : Hid (w1.heap[g]? = some (.cells #[.bool false, .slice a n c] 24 (0, 0))) := hid (by rw [hw1, hg]; exact heap_alloc2_old W _ _)
  have pk_1 : Hid (w1.heap[g + 1]? = some (.cells #[.int .i64 s, .int .i64 z] 48 (0, 0))) := hid (by rw [hw1, hg]; exact heap_alloc2_new W _ _)
  have HW := hid hw1
  have HG := hid hg
  have HTO := hid (to_x n c false (hs.below HB_1.out) hn hf)
  rw [← hxs] at HTO hchk HC0
  have HCE := hid hchk
  clear P hxs hs hn hf hw1 hchk hfk hg
  go_enter Try.func5, Try.ntmps5
  go_upto_region 1 with fail
  rw [← HW.out, ← HG.out]
  clear HW
  have hc0p0 : w1.cell? ⟨g, 0, none⟩ = some (.bool false) := by rw [cell_of_row _ _ _ _ _ _ p0_1.out]; rfl
  have hc1p0 : w1.cell? ⟨g, 1, none⟩ = some (.slice a n c) := by rw [cell_of_row _ _ _ _ _ _ p0_1.out]; rfl
  go_wp2_with fail
  clear hc0p0 hc1p0
  refine (HTO.out).mono ?_
  rintro e w2 ⟨⟨a1, n1, c1, rfl, hx⟩, hb⟩
  have p0_2 := hid (row_below p0_1.out hb)
  clear p0_1
  have pk_2 := hid (row_below pk_1.out hb)
  clear pk_1
  have HB_2 : Hid (Below W.heap.size W w2) := hid (HB_1.out.trans ((hb).mono HB_1.out.size))
  clear HB_1
  have HX_2 := hid hx
  clear hx
  clear hb
  clear HTO
  obtain ⟨w3, hw3⟩ : ∃ y, y = w2.alloc (.cells #[.bool false, .slice a1 n1 c1] 27) := ⟨_, rfl⟩
  have hb : Below w2.heap.size w2 w3 := by rw [hw3]; exact allocBelow w2 _
  obtain ⟨gp1, hgp1⟩ : ∃ g, g = w2.heap.size := ⟨_, rfl⟩
  have hr : w3.heap[gp1]? = some (.cells #[.bool false, .slice a1 n1 c1] 27 (0, 0)) := by rw [hw3, hgp1]; exact heap_alloc_new w2 _
  have HW := hid hw3
  have HGG := hid hgp1
  clear hw3 hgp1
  have p0_3 := hid (row_below p0_2.out hb)
  clear p0_2
  have pk_3 := hid (row_below pk_2.out hb)
  clear pk_2
  have HX_3 := hid (HX_2.out.below hb)
  clear HX_2
  have HB_3 : Hid (Below W.heap.size W w3) := hid (HB_2.out.trans ((hb).mono HB_2.out.size))
  clear HB_2
  have p1_3 := hid hr
  clear hr hb
  go_upto_region 2 with fail
  rw [← HW.out, ← HGG.out]
  clear HW HGG
  have hc0p1 : w3.cell? ⟨gp1, 0, none⟩ = some (.bool false) := by rw [cell_of_row _ _ _ _ _ _ p1_3.out]; rfl
  have hc1p1 : w3.cell? ⟨gp1, 1, none⟩ = some (.slice a1 n1 c1) := by rw [cell_of_row _ _ _ _ _ _ p1_3.out]; rfl
  go_wp2_with fail
  clear hc0p1 hc1p1
  refine (of_x false HX_3.out).mono ?_
  rintro e w4 ⟨⟨a2, n2, c2, rfl, hx⟩, hb⟩
  have p0_4 := hid (row_below p0_3.out hb)
  clear p0_3
  have pk_4 := hid (row_below pk_3.out hb)
  clear pk_3
  have HX_4 := hid (HX_3.out.below hb)
  clear HX_3
  have p1_4 := hid (row_below p1_3.out hb)
  clear p1_3
  have HB_4 : Hid (Below W.heap.size W w4) := hid (HB_3.out.trans ((hb).mono HB_3.out.size))
  clear HB_3
  have HY_4 := hid hx
  clear hx
  clear hb
  obtain ⟨w5, hw5⟩ : ∃ y, y = w4.alloc (.cells #[.bool false, .slice a2 n2 c2] 24) := ⟨_, rfl⟩
  have hb : Below w4.heap.size w4 w5 := by rw [hw5]; exact allocBelow w4 _
  obtain ⟨gp2, hgp2⟩ : ∃ g, g = w4.heap.size := ⟨_, rfl⟩
  have hr : w5.heap[gp2]? = some (.cells #[.bool false, .slice a2 n2 c2] 24 (0, 0)) := by rw [hw5, hgp2]; exact heap_alloc_new w4 _
  have HW := hid hw5
  have HGG := hid hgp2
  clear hw5 hgp2
  have p0_5 := hid (row_below p0_4.out hb)
  clear p0_4
  have pk_5 := hid (row_below pk_4.out hb)
  clear pk_4
  have HX_5 := hid (HX_4.out.below hb)
  clear HX_4
  have p1_5 := hid (row_below p1_4.out hb)
  clear p1_4
  have HY_5 := hid (HY_4.out.below hb)
  clear HY_4
  have HB_5 : Hid (Below W.heap.size W w5) := hid (HB_4.out.trans ((hb).mono HB_4.out.size))
  clear HB_4
  have p2_5 := hid hr
  clear hr hb
  go_upto_region 3 with fail
  rw [← HW.out, ← HGG.out]
  clear HW HGG
  have hc0pk : w5.cell? ⟨g + 1, 0, none⟩ = some (.int .i64 s) := by rw [cell_of_row _ _ _ _ _ _ pk_5.out]; rfl
  have hc1pk : w5.cell? ⟨g + 1, 1, none⟩ = some (.int .i64 z) := by rw [cell_of_row _ _ _ _ _ _ pk_5.out]; rfl
  go_wp2_with fail
  refine (key_any s z _).mono ?_
  rintro e w6 ⟨rfl, hb⟩
  have p0_6 := hid (row_below p0_5.out hb)
  clear p0_5
  have pk_6 := hid (row_below pk_5.out hb)
  clear pk_5
  have HX_6 := hid (HX_5.out.below hb)
  clear HX_5
  have p1_6 := hid (row_below p1_5.out hb)
  clear p1_5
  have HY_6 := hid (HY_5.out.below hb)
  clear HY_5
  have p2_6 := hid (row_below p2_5.out hb)
  clear p2_5
  have HB_6 : Hid (Below W.heap.size W w6) := hid (HB_5.out.trans ((hb).mono HB_5.out.size))
  clear HB_5
  clear hb
  clear hc0pk hc1pk
  go_wp2_with fail
  have h := HP.out.nRight s z w6 HFK.out
  rw [HO.out] at h
  have HRI := hid h
  clear h
  refine (HRI.out).mono ?_
  rintro e w7 ⟨rfl, hb⟩
  have p0_7 := hid (row_below p0_6.out hb)
  clear p0_6
  have pk_7 := hid (row_below pk_6.out hb)
  clear pk_6
  have HX_7 := hid (HX_6.out.below hb)
  clear HX_6
  have p1_7 := hid (row_below p1_6.out hb)
  clear p1_6
  have HY_7 := hid (HY_6.out.below hb)
  clear HY_6
  have p2_7 := hid (row_below p2_6.out hb)
  clear p2_6
  have HB_7 : Hid (Below W.heap.size W w7) := hid (HB_6.out.trans ((hb).mono HB_6.out.size))
  clear HB_6
  clear hb
  clear HRI
  have hc0p2 : w7.cell? ⟨gp2, 0, none⟩ = some (.bool false) := by rw [cell_of_row _ _ _ _ _ _ p2_7.out]; rfl
  have hc1p2 : w7.cell? ⟨gp2, 1, none⟩ = some (.slice a2 n2 c2) := by rw [cell_of_row _ _ _ _ _ _ p2_7.out]; rfl
  go_wp2_with fail
  clear hc0p2 hc1p2
  have h := chk_x false HY_7.out
  rw [← HCE.out] at h
  have HCK := hid h
  clear h
  refine (HCK.out).mono ?_
  rintro e w8 ⟨rfl, hb⟩
  have p0_8 := hid (row_below p0_7.out hb)
  clear p0_7
  have pk_8 := hid (row_below pk_7.out hb)
  clear pk_7
  have HX_8 := hid (HX_7.out.below hb)
  clear HX_7
  have p1_8 := hid (row_below p1_7.out hb)
  clear p1_7
  have HY_8 := hid (HY_7.out.below hb)
  clear HY_7
  have p2_8 := hid (row_below p2_7.out hb)
  clear p2_7
  have HB_8 : Hid (Below W.heap.size W w8) := hid (HB_7.out.trans ((hb).mono HB_7.out.size))
  clear HB_7
  clear hb
  clear HCK
  clear p0_8
  have HFA : Hid (fallN xs = false) := hid (chkN_zero HC0.out).2.2.1
  have HOK : Hid (∀ e ∈ xs, okE e = true) := hid (badN_false.1 (chkN_zero HC0.out).2.1)
  obtain ⟨pk, hpk⟩ : ∃ p, p = plK (s, z) := ⟨_, rfl⟩
  have HPK := hid hpk
  have HPL : Hid (∀ y, Calls Try.prog 22 #[.agg #[.int .i64 s, .int .i64 z]] y fun e w' => e = .returned (.int .i64 pk) ∧ Below y.heap.size y w') := hid fun y => by
    rw [HPK.out]; exact place_ok (s, z) y HO.out
  have hn1 : n1 = xs.length := HX_8.out.1
  have hn2 : n2 = xs.length := HY_8.out.1
  have hn12 : n1 = n2 := by omega
  subst hn12
  have HN := hid hn1
  have hn18 : (n1 : Int) ≤ 18 := by have := HXL.out; omega
  have HE1 := hid HX_8.out.2.1
  have HE2 := hid HY_8.out.2.1
  have HXX := hid (fun x (hx : Below w8.heap.size w8 x) => HX_8.out.below hx)
  have HALL : Hid (∀ x, Below w8.heap.size w8 x → (x.cell? ⟨gp1, 0, none⟩ = some (.bool false) ∧ x.cell? ⟨gp1, 1, none⟩ = some (.slice a1 n1 c1)) ∧ (x.cell? ⟨gp2, 0, none⟩ = some (.bool false) ∧ x.cell? ⟨gp2, 1, none⟩ = some (.slice a2 n1 c2)) ∧ x.cell? ⟨g + 1, 0, none⟩ = some (.int .i64 s) ∧ x.cell? ⟨g + 1, 1, none⟩ = some (.int .i64 z)) := hid fun x hx => by
    have h1 := row_below p1_8.out hx
    have h2 := row_below p2_8.out hx
    have h3 := row_below pk_8.out hx
    exact ⟨⟨by rw [cell_of_row _ _ _ _ _ _ h1]; rfl, by rw [cell_of_row _ _ _ _ _ _ h1]; rfl⟩, ⟨by rw [cell_of_row _ _ _ _ _ _ h2]; rfl, by rw [cell_of_row _ _ _ _ _ _ h2]; rfl⟩, by rw [cell_of_row _ _ _ _ _ _ h3]; rfl, by rw [cell_of_row _ _ _ _ _ _ h3]; rfl⟩
  clear hpk hn1 hn2 HX_8 HY_8 p1_8 p2_8 pk_8
  go_wp2_with fail
  go_loopw [8, 9, 10, 11] (fun a8 a9 a10 a11 wr => ∃ (k A8 A9 : Nat) (IS : Bool), k ≤ n1 ∧ a8 = .int .i64 (A8 : Int) ∧ a9 = .int .i64 (A9 : Int) ∧ a10 = .bool IS ∧ a11 = .int .i64 (k : Int) ∧ (A8 = fdTo xs (s, z) k ∧ A9 = lastTo xs (s, z) k ∧ IS = isTo xs (s, z) k) ∧ Below w8.heap.size w8 wr) (fun _ _ _ i _ => n1 - (intOf i).toNat)
  case atStart => exact ⟨0, 0, 0, false, Nat.zero_le _, rfl, rfl, rfl, rfl, ⟨by simp [fdTo], by simp [lastTo], by simp [isTo]⟩, Below.refl _ _⟩
  case round =>
    obtain ⟨k, A8, A9, IS, hk, rfl, rfl, rfl, rfl, hst, hb⟩ := hrel
    have HST := hid hst
    have HB := hid hb
    obtain ⟨⟨-, hcu1⟩, ⟨hcl2, hcu2⟩, hk0, hk1⟩ := HALL.out wr hb
    clear hst hb
    by_cases hlt : (k : Int) < n1
    · skip
      have hkn : (k < n1) = True := eq_true (by omega)
      have HKX : Hid (k < xs.length) := hid (by have := HN.out; omega)
      obtain ⟨b1, o1, rfl, hx1, hx2, -⟩ := (HE1.out.below HB.out).cell (i := k) HKX.out
      obtain ⟨b2, o2, rfl, hy1, hy2, -⟩ := (HE2.out.below HB.out).cell (i := k) HKX.out
      obtain ⟨⟨⟨s1, z1⟩, p1⟩, hx⟩ : ∃ x, x = xs.getD k et0 := ⟨_, rfl⟩
      have HKE := hid hx
      rw [← hx] at hx1 hx2 hy1 hy2
      simp only at hx1 hx2 hy1 hy2
      have HKO : Hid (okK (s1, z1) = true) := hid (by have h := okE_key (HOK.out _ (memGetD (zs := xs) (d := et0) HKX.out)); rw [← hx] at h; exact h)
      obtain ⟨p, hp⟩ : ∃ p, p = plK (s1, z1) := ⟨_, rfl⟩
      have HP1 := hid hp
      have HPE : Hid (∀ y, Calls Try.prog 22 #[.agg #[.int .i64 s1, .int .i64 z1]] y fun e w' => e = .returned (.int .i64 p) ∧ Below y.heap.size y w') := hid fun y => by
        rw [HP1.out]; exact place_ok (s1, z1) y HKO.out
      have hC1 : ∀ x, Below wr.heap.size wr x → x.cell? ⟨b1, o1 + k * 3, none⟩ = some (.int .i64 s1) ∧ x.cell? ⟨b1, o1 + k * 3 + 1, none⟩ = some (.int .i64 z1) := fun x hx => ⟨(hx.cell (cell_lt hx1)).trans hx1, (hx.cell (cell_lt hx2)).trans hx2⟩
      have HC1 := hid hC1
      clear hx hp hx1 hx2 hC1
      go_wp2_with fail
      refine (HPE.out _).mono ?_
      rintro e wq ⟨rfl, hbq⟩
      have HBQ : Hid (Below w8.heap.size w8 wq) := hid (HB.out.trans (hbq.mono HB.out.size))
      have HBQ1 := hid hbq
      have HCY : Hid (∀ x, Grew wq.drew x → (x.cell? ⟨gp1, 1, none⟩ = some (.slice (some ⟨b1, o1, none⟩) n1 c1) ∧ x.cell? ⟨g + 1, 0, none⟩ = some (.int .i64 s) ∧ x.cell? ⟨g + 1, 1, none⟩ = some (.int .i64 z)) ∧ x.cell? ⟨b1, o1 + k * 3, none⟩ = some (.int .i64 s1) ∧ x.cell? ⟨b1, o1 + k * 3 + 1, none⟩ = some (.int .i64 z1)) := hid fun x hx => by
        have h := HALL.out x (HBQ.out.trans ((grewDrew hx).mono HBQ.out.size))
        have h2 := HC1.out x (HBQ1.out.trans ((grewDrew hx).mono HBQ1.out.size))
        exact ⟨⟨h.1.2, h.2.2⟩, h2⟩
      clear hbq hcu1 hcu2 hcl2 hy1 hy2 hk0 hk1 HB
      rcases (show p < pk ∨ p = pk ∨ pk < p by omega) with hc | hc | hc
      · have hd1 : decide (p < pk) = true := decide_eq_true (by omega)
        have hd2 : decide (pk < p) = false := decide_eq_false (by omega)
        have hd3 : decide (p ≤ pk) = true := decide_eq_true (by omega)
        have hd4 : (p == pk) = false := by rw [beq_eq_false_iff_ne]; omega
        have HCC := hid hc
        have HL1 : Hid (∀ y, Calls Try.prog 23 #[.agg #[.int .i64 s1, .int .i64 z1], .agg #[.int .i64 s, .int .i64 z]] y fun e w' => e = .returned (.bool true) ∧ Below y.heap.size y w') := hid fun y => by
          have h := HP.out.nLess s1 z1 s z y HKO.out HO.out
          rw [less_pl HKO.out HO.out, ← HPK.out, ← HP1.out, hd1] at h
          exact h
        have HL2 : Hid (∀ y, Calls Try.prog 23 #[.agg #[.int .i64 s, .int .i64 z], .agg #[.int .i64 s1, .int .i64 z1]] y fun e w' => e = .returned (.bool false) ∧ Below y.heap.size y w') := hid fun y => by
          have h := HP.out.nLess s z s1 z1 y HO.out HKO.out
          rw [less_pl HO.out HKO.out, ← HPK.out, ← HP1.out, hd2] at h
          exact h
        clear hc
        go_upto_region 13 with fail
        refine wp_region_grows 30 [EqN (.pointer (some ⟨gp1, 1, none⟩)), EqN (.slice (some ⟨b1, o1, none⟩) n1 c1), EqN (.int .i64 (k : Int)), EqN (.pointer (some ⟨b1, o1 + k * 3, none⟩)), EqN (.pointer (some ⟨b1, o1 + k * 3, none⟩)), EqN (.agg #[.int .i64 s1, .int .i64 z1]), EqN (.agg #[.int .i64 s, .int .i64 z]), EqN (.agg #[.int .i64 s, .int .i64 z]), EqN (.bool true), EqN (.int .i64 p), EqN (.agg #[.int .i64 s, .int .i64 z]), EqN (.int .i64 pk), EqN (.bool true), EqN (.bool false), EqN (.bool false), EqN (.agg #[.int .i64 s, .int .i64 z]), EqN (.agg #[.int .i64 s, .int .i64 z]), EqN (.pointer (some ⟨gp1, 1, none⟩)), EqN (.slice (some ⟨b1, o1, none⟩) n1 c1), EqN (.int .i64 (k : Int)), EqN (.pointer (some ⟨b1, o1 + k * 3, none⟩)), EqN (.pointer (some ⟨b1, o1 + k * 3, none⟩)), EqN (.agg #[.int .i64 s1, .int .i64 z1]), EqN (.bool false), EqN (.agg #[.int .i64 s, .int .i64 z]), EqN (.int .i64 pk), EqN (.int .i64 p), EqN (.bool false), EqN (.bool false), EqN (.bool false)] (by kernel_rfl) (by decide) (by kernel_rfl) ?_ ?_ ?_
        · repeat' (first | exact List.forall_mem_nil _ | refine List.forall_mem_cons.2 ⟨?_, ?_⟩)
          all_goals
            intro w w' v hw h
            first | exact h | exact h
        · simp only [AllLt]
          refine ⟨⟨⟨⟨⟨⟨⟨⟨⟨⟨⟨⟨⟨⟨⟨⟨⟨⟨⟨⟨⟨⟨⟨⟨⟨⟨⟨⟨⟨⟨trivial, ?_⟩, ?_⟩, ?_⟩, ?_⟩, ?_⟩, ?_⟩, ?_⟩, ?_⟩, ?_⟩, ?_⟩, ?_⟩, ?_⟩, ?_⟩, ?_⟩, ?_⟩, ?_⟩, ?_⟩, ?_⟩, ?_⟩, ?_⟩, ?_⟩, ?_⟩, ?_⟩, ?_⟩, ?_⟩, ?_⟩, ?_⟩, ?_⟩, ?_⟩, ?_⟩
          all_goals
            intro o' ho
            simp at ho
            subst ho
            intro ρ w5 hR hL hS hG
            obtain ⟨hl1, hl2, -⟩ := hL
          · refine plainG rfl ?_
            intro bA K Q' hK
            have e5 := hS 5 (by kernel_rfl)
            change ρ (.tmp 5) = _ at e5
            simp only [execOp]
            go_simp
            exact hK _ _ rfl (Grew.refl _)
          · refine plainG rfl ?_
            intro bA K Q' hK
            have e66 := hG 0 66 (by decide) (by kernel_rfl) (by kernel_rfl)
            change ρ (.tmp 66) = _ at e66
            obtain ⟨⟨y0, y1, y2⟩, y3, y4⟩ := HCY.out w5 hR
            simp only [execOp]
            go_simp
            exact hK _ _ rfl (Grew.refl _)
          · refine plainG rfl ?_
            intro bA K Q' hK
            have e11 := hS 11 (by kernel_rfl)
            change ρ (.tmp 11) = _ at e11
            simp only [execOp]
            go_simp
            exact hK _ _ rfl (Grew.refl _)
          · refine plainG rfl ?_
            intro bA K Q' hK
            have e67 := hG 1 67 (by decide) (by kernel_rfl) (by kernel_rfl)
            have e68 := hG 2 68 (by decide) (by kernel_rfl) (by kernel_rfl)
            change ρ (.tmp 67) = _ at e67
            change ρ (.tmp 68) = _ at e68
            simp only [execOp]
            go_simp
            exact hK _ _ rfl (Grew.refl _)
          · refine plainG rfl ?_
            intro bA K Q' hK
            have e69 := hG 3 69 (by decide) (by kernel_rfl) (by kernel_rfl)
            change ρ (.tmp 69) = _ at e69
            simp only [execOp]
            go_simp
            exact hK _ _ rfl (Grew.refl _)
          · refine plainG rfl ?_
            intro bA K Q' hK
            have e70 := hG 4 70 (by decide) (by kernel_rfl) (by kernel_rfl)
            change ρ (.tmp 70) = _ at e70
            obtain ⟨⟨y0, y1, y2⟩, y3, y4⟩ := HCY.out w5 hR
            simp only [execOp]
            go_simp
            exact hK _ _ rfl (Grew.refl _)
          · refine plainG rfl ?_
            intro bA K Q' hK
            have e3 := hS 3 (by kernel_rfl)
            change ρ (.tmp 3) = _ at e3
            obtain ⟨⟨y0, y1, y2⟩, y3, y4⟩ := HCY.out w5 hR
            simp only [execOp]
            go_simp
            exact hK _ _ rfl (Grew.refl _)
          · refine plainG rfl ?_
            intro bA K Q' hK
            have e72 := hG 6 72 (by decide) (by kernel_rfl) (by kernel_rfl)
            change ρ (.tmp 72) = _ at e72
            simp only [execOp]
            go_simp
            refine (key_any s z w5).mono ?_
            rintro r9 q9 ⟨rfl, hb9⟩
            exact hK _ _ rfl hb9
          · refine plainG rfl ?_
            intro bA K Q' hK
            have e71 := hG 5 71 (by decide) (by kernel_rfl) (by kernel_rfl)
            have e73 := hG 7 73 (by decide) (by kernel_rfl) (by kernel_rfl)
            change ρ (.tmp 71) = _ at e71
            change ρ (.tmp 73) = _ at e73
            simp only [execOp]
            go_simp
            refine (HL1.out w5).mono ?_
            rintro r9 q9 ⟨rfl, hb9⟩
            exact hK _ _ rfl hb9
          · refine plainG rfl ?_
            intro bA K Q' hK
            have e12 := hS 12 (by kernel_rfl)
            change ρ (.tmp 12) = _ at e12
            simp only [execOp]
            go_simp
            exact hK _ _ rfl (Grew.refl _)
          · refine plainG rfl ?_
            intro bA K Q' hK
            have e3 := hS 3 (by kernel_rfl)
            change ρ (.tmp 3) = _ at e3
            obtain ⟨⟨y0, y1, y2⟩, y3, y4⟩ := HCY.out w5 hR
            simp only [execOp]
            go_simp
            exact hK _ _ rfl (Grew.refl _)
          · refine plainG rfl ?_
            intro bA K Q' hK
            have e76 := hG 10 76 (by decide) (by kernel_rfl) (by kernel_rfl)
            change ρ (.tmp 76) = _ at e76
            simp only [execOp]
            go_simp
            refine (HPL.out w5).mono ?_
            rintro r9 q9 ⟨rfl, hb9⟩
            exact hK _ _ rfl hb9
          · refine plainG rfl ?_
            intro bA K Q' hK
            have e75 := hG 9 75 (by decide) (by kernel_rfl) (by kernel_rfl)
            have e77 := hG 11 77 (by decide) (by kernel_rfl) (by kernel_rfl)
            change ρ (.tmp 75) = _ at e75
            change ρ (.tmp 77) = _ at e77
            simp only [execOp]
            go_simp
            exact hK _ _ rfl (Grew.refl _)
          · refine plainG rfl ?_
            intro bA K Q' hK
            have e74 := hG 8 74 (by decide) (by kernel_rfl) (by kernel_rfl)
            have e78 := hG 12 78 (by decide) (by kernel_rfl) (by kernel_rfl)
            change ρ (.tmp 74) = _ at e74
            change ρ (.tmp 78) = _ at e78
            simp only [execOp]
            go_simp
            exact hK _ _ rfl (Grew.refl _)
          · refine plainG rfl ?_
            intro bA K Q' hK
            have e79 := hG 13 79 (by decide) (by kernel_rfl) (by kernel_rfl)
            change ρ (.tmp 79) = _ at e79
            simp only [execOp]
            go_simp
            exact hK _ _ rfl (Grew.refl _)
          · have eG : ρ (.tmp 80) = _ := hG 14 80 (by decide) (by kernel_rfl) (by kernel_rfl)
            refine onG rfl (by kernel_rfl) eG ?_
            intro bA K Q' hK
            have e3 := hS 3 (by kernel_rfl)
            change ρ (.tmp 3) = _ at e3
            obtain ⟨⟨y0, y1, y2⟩, y3, y4⟩ := HCY.out w5 hR
            simp only [execOp]
            go_simp
            exact hK _ _ rfl (Grew.refl _)
          · have eG : ρ (.tmp 80) = _ := hG 14 80 (by decide) (by kernel_rfl) (by kernel_rfl)
            refine onG rfl (by kernel_rfl) eG ?_
            intro bA K Q' hK
            have e81 := hG 15 81 (by decide) (by kernel_rfl) (by kernel_rfl)
            change ρ (.tmp 81) = _ at e81
            simp only [execOp]
            go_simp
            refine (key_any s z w5).mono ?_
            rintro r9 q9 ⟨rfl, hb9⟩
            exact hK _ _ rfl hb9
          · have eG : ρ (.tmp 80) = _ := hG 14 80 (by decide) (by kernel_rfl) (by kernel_rfl)
            refine onG rfl (by kernel_rfl) eG ?_
            intro bA K Q' hK
            have e5 := hS 5 (by kernel_rfl)
            change ρ (.tmp 5) = _ at e5
            simp only [execOp]
            go_simp
            exact hK _ _ rfl (Grew.refl _)
          · have eG : ρ (.tmp 80) = _ := hG 14 80 (by decide) (by kernel_rfl) (by kernel_rfl)
            refine onG rfl (by kernel_rfl) eG ?_
            intro bA K Q' hK
            have e83 := hG 17 83 (by decide) (by kernel_rfl) (by kernel_rfl)
            change ρ (.tmp 83) = _ at e83
            obtain ⟨⟨y0, y1, y2⟩, y3, y4⟩ := HCY.out w5 hR
            simp only [execOp]
            go_simp
            exact hK _ _ rfl (Grew.refl _)
          · have eG : ρ (.tmp 80) = _ := hG 14 80 (by decide) (by kernel_rfl) (by kernel_rfl)
            refine onG rfl (by kernel_rfl) eG ?_
            intro bA K Q' hK
            have e11 := hS 11 (by kernel_rfl)
            change ρ (.tmp 11) = _ at e11
            simp only [execOp]
            go_simp
            exact hK _ _ rfl (Grew.refl _)
          · have eG : ρ (.tmp 80) = _ := hG 14 80 (by decide) (by kernel_rfl) (by kernel_rfl)
            refine onG rfl (by kernel_rfl) eG ?_
            intro bA K Q' hK
            have e84 := hG 18 84 (by decide) (by kernel_rfl) (by kernel_rfl)
            have e85 := hG 19 85 (by decide) (by kernel_rfl) (by kernel_rfl)
            change ρ (.tmp 84) = _ at e84
            change ρ (.tmp 85) = _ at e85
            simp only [execOp]
            go_simp
            exact hK _ _ rfl (Grew.refl _)
          · have eG : ρ (.tmp 80) = _ := hG 14 80 (by decide) (by kernel_rfl) (by kernel_rfl)
            refine onG rfl (by kernel_rfl) eG ?_
            intro bA K Q' hK
            have e86 := hG 20 86 (by decide) (by kernel_rfl) (by kernel_rfl)
            change ρ (.tmp 86) = _ at e86
            simp only [execOp]
            go_simp
            exact hK _ _ rfl (Grew.refl _)
          · have eG : ρ (.tmp 80) = _ := hG 14 80 (by decide) (by kernel_rfl) (by kernel_rfl)
            refine onG rfl (by kernel_rfl) eG ?_
            intro bA K Q' hK
            have e87 := hG 21 87 (by decide) (by kernel_rfl) (by kernel_rfl)
            change ρ (.tmp 87) = _ at e87
            obtain ⟨⟨y0, y1, y2⟩, y3, y4⟩ := HCY.out w5 hR
            simp only [execOp]
            go_simp
            exact hK _ _ rfl (Grew.refl _)
          · have eG : ρ (.tmp 80) = _ := hG 14 80 (by decide) (by kernel_rfl) (by kernel_rfl)
            refine onG rfl (by kernel_rfl) eG ?_
            intro bA K Q' hK
            have e82 := hG 16 82 (by decide) (by kernel_rfl) (by kernel_rfl)
            have e88 := hG 22 88 (by decide) (by kernel_rfl) (by kernel_rfl)
            change ρ (.tmp 82) = _ at e82
            change ρ (.tmp 88) = _ at e88
            simp only [execOp]
            go_simp
            refine (HL2.out w5).mono ?_
            rintro r9 q9 ⟨rfl, hb9⟩
            exact hK _ _ rfl hb9
          · have eG : ρ (.tmp 80) = _ := hG 14 80 (by decide) (by kernel_rfl) (by kernel_rfl)
            refine onG rfl (by kernel_rfl) eG ?_
            intro bA K Q' hK
            have e3 := hS 3 (by kernel_rfl)
            change ρ (.tmp 3) = _ at e3
            obtain ⟨⟨y0, y1, y2⟩, y3, y4⟩ := HCY.out w5 hR
            simp only [execOp]
            go_simp
            exact hK _ _ rfl (Grew.refl _)
          · have eG : ρ (.tmp 80) = _ := hG 14 80 (by decide) (by kernel_rfl) (by kernel_rfl)
            refine onG rfl (by kernel_rfl) eG ?_
            intro bA K Q' hK
            have e90 := hG 24 90 (by decide) (by kernel_rfl) (by kernel_rfl)
            change ρ (.tmp 90) = _ at e90
            simp only [execOp]
            go_simp
            refine (HPL.out w5).mono ?_
            rintro r9 q9 ⟨rfl, hb9⟩
            exact hK _ _ rfl hb9
          · have eG : ρ (.tmp 80) = _ := hG 14 80 (by decide) (by kernel_rfl) (by kernel_rfl)
            refine onG rfl (by kernel_rfl) eG ?_
            intro bA K Q' hK
            have e12 := hS 12 (by kernel_rfl)
            change ρ (.tmp 12) = _ at e12
            simp only [execOp]
            go_simp
            exact hK _ _ rfl (Grew.refl _)
          · have eG : ρ (.tmp 80) = _ := hG 14 80 (by decide) (by kernel_rfl) (by kernel_rfl)
            refine onG rfl (by kernel_rfl) eG ?_
            intro bA K Q' hK
            have e91 := hG 25 91 (by decide) (by kernel_rfl) (by kernel_rfl)
            have e92 := hG 26 92 (by decide) (by kernel_rfl) (by kernel_rfl)
            change ρ (.tmp 91) = _ at e91
            change ρ (.tmp 92) = _ at e92
            simp only [execOp]
            go_simp
            exact hK _ _ rfl (Grew.refl _)
          · have eG : ρ (.tmp 80) = _ := hG 14 80 (by decide) (by kernel_rfl) (by kernel_rfl)
            refine onG rfl (by kernel_rfl) eG ?_
            intro bA K Q' hK
            have e89 := hG 23 89 (by decide) (by kernel_rfl) (by kernel_rfl)
            have e93 := hG 27 93 (by decide) (by kernel_rfl) (by kernel_rfl)
            change ρ (.tmp 89) = _ at e89
            change ρ (.tmp 93) = _ at e93
            simp only [execOp]
            go_simp
            exact hK _ _ rfl (Grew.refl _)
          · refine plainG rfl ?_
            intro bA K Q' hK
            have e80 := hG 14 80 (by decide) (by kernel_rfl) (by kernel_rfl)
            have e94 := hG 28 94 (by decide) (by kernel_rfl) (by kernel_rfl)
            change ρ (.tmp 80) = _ at e80
            change ρ (.tmp 94) = _ at e94
            simp only [execOp]
            go_simp
            exact hK _ _ rfl (Grew.refl _)
        · skip
          intro vv q8 hR hG
          have h9 : vv 29 = .bool false := hG.2
          have hb := grewDrew hR
          have HB8 : Hid (Below w8.heap.size w8 q8) := hid (HBQ.out.trans (hb.mono HBQ.out.size))
          clear hG hR HCY hb HBQ HBQ1 HC1
          simp [stG, stU, dstAt, Act.put, h9]
          clear h9
          obtain ⟨-, -, hk0, hk1⟩ := HALL.out q8 HB8.out
          go_wp2_with fail
          refine (HPL.out _).mono ?_
          rintro e q9 ⟨rfl, hb⟩
          have HB9 : Hid (Below w8.heap.size w8 q9) := hid (HB8.out.trans (hb.mono HB8.out.size))
          clear hb HB8 hk0 hk1
          obtain ⟨-, -, hk0, hk1⟩ := HALL.out q9 HB9.out
          go_wp2_with fail
          refine (HPL.out _).mono ?_
          rintro e q10 ⟨rfl, hb⟩
          have HB10 : Hid (Below w8.heap.size w8 q10) := hid (HB9.out.trans (hb.mono HB9.out.size))
          clear hb HB9 hk0 hk1
          obtain ⟨-, -, hk0, hk1⟩ := HALL.out q10 HB10.out
          cases IS
          · skip
            go_wp2_with fail
            refine (HPL.out _).mono ?_
            rintro e q11 ⟨rfl, hb⟩
            have HB11 : Hid (Below w8.heap.size w8 q11) := hid (HB10.out.trans (hb.mono HB10.out.size))
            clear hb HB10 hk0 hk1
            go_wp2_with fail
            have hF := fd_next (k := (s, z)) HFA.out HKX.out
            have hL := last_next (k := (s, z)) HFA.out HOK.out HO.out HKX.out
            have hI := isTo_next (k := (s, z)) HKX.out
            have HCP : plK (s1, z1) < plK (s, z) := by rw [← HP1.out, ← HPK.out]; exact HCC.out
            rw [← HKE.out, ← HST.out.1] at hF
            rw [← HKE.out, ← HST.out.2.1] at hL
            rw [← HKE.out, ← HST.out.2.2] at hI
            simp only at hF hL hI
            rw [if_pos HCP] at hF
            rw [if_pos (by omega)] at hL
            have hI2 : isTo xs (s, z) (k + 1) = false := by
              rw [hI]
              rw [decide_eq_false (by intro e; rw [e] at HCP; omega)]; rfl
            have HNX := hid (And.intro hF.symm (And.intro hL.symm hI2.symm))
            clear hF hL hI hI2 HCP
            go_roundw
            case rel => exact ⟨k + 1, k + 1, k, false, by have := HKX.out; have := HN.out; omega, by go_num, rfl, rfl, by go_num, HNX.out, HB11.out⟩
            case measure => have := HKX.out; have := HN.out; simp [intOf]; omega
          · skip
            go_wp2_with fail
            have hF := fd_next (k := (s, z)) HFA.out HKX.out
            have hL := last_next (k := (s, z)) HFA.out HOK.out HO.out HKX.out
            have hI := isTo_next (k := (s, z)) HKX.out
            have HCP : plK (s1, z1) < plK (s, z) := by rw [← HP1.out, ← HPK.out]; exact HCC.out
            rw [← HKE.out, ← HST.out.1] at hF
            rw [← HKE.out, ← HST.out.2.1] at hL
            rw [← HKE.out, ← HST.out.2.2] at hI
            simp only at hF hL hI
            rw [if_pos HCP] at hF
            rw [if_pos (by omega)] at hL
            have hI2 : isTo xs (s, z) (k + 1) = true := by
              rw [hI]
              rfl
            have HNX := hid (And.intro hF.symm (And.intro hL.symm hI2.symm))
            clear hF hL hI hI2 HCP
            go_roundw
            case rel => exact ⟨k + 1, k + 1, k, true, by have := HKX.out; have := HN.out; omega, by go_num, rfl, rfl, by go_num, HNX.out, HB10.out⟩
            case measure => have := HKX.out; have := HN.out; simp [intOf]; omega
      · have hd1 : decide (p < pk) = false := decide_eq_false (by omega)
        have hd2 : decide (pk < p) = false := decide_eq_false (by omega)
        have hd3 : decide (p ≤ pk) = true := decide_eq_true (by omega)
        have hd4 : (p == pk) = true := by rw [beq_iff_eq]; exact hc
        have HCC := hid hc
        have HL1 : Hid (∀ y, Calls Try.prog 23 #[.agg #[.int .i64 s1, .int .i64 z1], .agg #[.int .i64 s, .int .i64 z]] y fun e w' => e = .returned (.bool false) ∧ Below y.heap.size y w') := hid fun y => by
          have h := HP.out.nLess s1 z1 s z y HKO.out HO.out
          rw [less_pl HKO.out HO.out, ← HPK.out, ← HP1.out, hd1] at h
          exact h
        have HL2 : Hid (∀ y, Calls Try.prog 23 #[.agg #[.int .i64 s, .int .i64 z], .agg #[.int .i64 s1, .int .i64 z1]] y fun e w' => e = .returned (.bool false) ∧ Below y.heap.size y w') := hid fun y => by
          have h := HP.out.nLess s z s1 z1 y HO.out HKO.out
          rw [less_pl HO.out HKO.out, ← HPK.out, ← HP1.out, hd2] at h
          exact h
        clear hc
        go_upto_region 13 with fail
        refine wp_region_grows 30 [EqN (.pointer (some ⟨gp1, 1, none⟩)), EqN (.slice (some ⟨b1, o1, none⟩) n1 c1), EqN (.int .i64 (k : Int)), EqN (.pointer (some ⟨b1, o1 + k * 3, none⟩)), EqN (.pointer (some ⟨b1, o1 + k * 3, none⟩)), EqN (.agg #[.int .i64 s1, .int .i64 z1]), EqN (.agg #[.int .i64 s, .int .i64 z]), EqN (.agg #[.int .i64 s, .int .i64 z]), EqN (.bool false), EqN (.int .i64 p), EqN (.agg #[.int .i64 s, .int .i64 z]), EqN (.int .i64 pk), EqN (.bool false), EqN (.bool false), EqN (.bool false), EqN (.agg #[.int .i64 s, .int .i64 z]), EqN (.agg #[.int .i64 s, .int .i64 z]), EqN (.pointer (some ⟨gp1, 1, none⟩)), EqN (.slice (some ⟨b1, o1, none⟩) n1 c1), EqN (.int .i64 (k : Int)), EqN (.pointer (some ⟨b1, o1 + k * 3, none⟩)), EqN (.pointer (some ⟨b1, o1 + k * 3, none⟩)), EqN (.agg #[.int .i64 s1, .int .i64 z1]), EqN (.bool false), EqN (.agg #[.int .i64 s, .int .i64 z]), EqN (.int .i64 pk), EqN (.int .i64 p), EqN (.bool false), EqN (.bool false), EqN (.bool false)] (by kernel_rfl) (by decide) (by kernel_rfl) ?_ ?_ ?_
        · repeat' (first | exact List.forall_mem_nil _ | refine List.forall_mem_cons.2 ⟨?_, ?_⟩)
          all_goals
            intro w w' v hw h
            first | exact h | exact h
        · simp only [AllLt]
          refine ⟨⟨⟨⟨⟨⟨⟨⟨⟨⟨⟨⟨⟨⟨⟨⟨⟨⟨⟨⟨⟨⟨⟨⟨⟨⟨⟨⟨⟨⟨trivial, ?_⟩, ?_⟩, ?_⟩, ?_⟩, ?_⟩, ?_⟩, ?_⟩, ?_⟩, ?_⟩, ?_⟩, ?_⟩, ?_⟩, ?_⟩, ?_⟩, ?_⟩, ?_⟩, ?_⟩, ?_⟩, ?_⟩, ?_⟩, ?_⟩, ?_⟩, ?_⟩, ?_⟩, ?_⟩, ?_⟩, ?_⟩, ?_⟩, ?_⟩, ?_⟩
          all_goals
            intro o' ho
            simp at ho
            subst ho
            intro ρ w5 hR hL hS hG
            obtain ⟨hl1, hl2, -⟩ := hL
          · refine plainG rfl ?_
            intro bA K Q' hK
            have e5 := hS 5 (by kernel_rfl)
            change ρ (.tmp 5) = _ at e5
            simp only [execOp]
            go_simp
            exact hK _ _ rfl (Grew.refl _)
          · refine plainG rfl ?_
            intro bA K Q' hK
            have e66 := hG 0 66 (by decide) (by kernel_rfl) (by kernel_rfl)
            change ρ (.tmp 66) = _ at e66
            obtain ⟨⟨y0, y1, y2⟩, y3, y4⟩ := HCY.out w5 hR
            simp only [execOp]
            go_simp
            exact hK _ _ rfl (Grew.refl _)
          · refine plainG rfl ?_
            intro bA K Q' hK
            have e11 := hS 11 (by kernel_rfl)
            change ρ (.tmp 11) = _ at e11
            simp only [execOp]
            go_simp
            exact hK _ _ rfl (Grew.refl _)
          · refine plainG rfl ?_
            intro bA K Q' hK
            have e67 := hG 1 67 (by decide) (by kernel_rfl) (by kernel_rfl)
            have e68 := hG 2 68 (by decide) (by kernel_rfl) (by kernel_rfl)
            change ρ (.tmp 67) = _ at e67
            change ρ (.tmp 68) = _ at e68
            simp only [execOp]
            go_simp
            exact hK _ _ rfl (Grew.refl _)
          · refine plainG rfl ?_
            intro bA K Q' hK
            have e69 := hG 3 69 (by decide) (by kernel_rfl) (by kernel_rfl)
            change ρ (.tmp 69) = _ at e69
            simp only [execOp]
            go_simp
            exact hK _ _ rfl (Grew.refl _)
          · refine plainG rfl ?_
            intro bA K Q' hK
            have e70 := hG 4 70 (by decide) (by kernel_rfl) (by kernel_rfl)
            change ρ (.tmp 70) = _ at e70
            obtain ⟨⟨y0, y1, y2⟩, y3, y4⟩ := HCY.out w5 hR
            simp only [execOp]
            go_simp
            exact hK _ _ rfl (Grew.refl _)
          · refine plainG rfl ?_
            intro bA K Q' hK
            have e3 := hS 3 (by kernel_rfl)
            change ρ (.tmp 3) = _ at e3
            obtain ⟨⟨y0, y1, y2⟩, y3, y4⟩ := HCY.out w5 hR
            simp only [execOp]
            go_simp
            exact hK _ _ rfl (Grew.refl _)
          · refine plainG rfl ?_
            intro bA K Q' hK
            have e72 := hG 6 72 (by decide) (by kernel_rfl) (by kernel_rfl)
            change ρ (.tmp 72) = _ at e72
            simp only [execOp]
            go_simp
            refine (key_any s z w5).mono ?_
            rintro r9 q9 ⟨rfl, hb9⟩
            exact hK _ _ rfl hb9
          · refine plainG rfl ?_
            intro bA K Q' hK
            have e71 := hG 5 71 (by decide) (by kernel_rfl) (by kernel_rfl)
            have e73 := hG 7 73 (by decide) (by kernel_rfl) (by kernel_rfl)
            change ρ (.tmp 71) = _ at e71
            change ρ (.tmp 73) = _ at e73
            simp only [execOp]
            go_simp
            refine (HL1.out w5).mono ?_
            rintro r9 q9 ⟨rfl, hb9⟩
            exact hK _ _ rfl hb9
          · refine plainG rfl ?_
            intro bA K Q' hK
            have e12 := hS 12 (by kernel_rfl)
            change ρ (.tmp 12) = _ at e12
            simp only [execOp]
            go_simp
            exact hK _ _ rfl (Grew.refl _)
          · refine plainG rfl ?_
            intro bA K Q' hK
            have e3 := hS 3 (by kernel_rfl)
            change ρ (.tmp 3) = _ at e3
            obtain ⟨⟨y0, y1, y2⟩, y3, y4⟩ := HCY.out w5 hR
            simp only [execOp]
            go_simp
            exact hK _ _ rfl (Grew.refl _)
          · refine plainG rfl ?_
            intro bA K Q' hK
            have e76 := hG 10 76 (by decide) (by kernel_rfl) (by kernel_rfl)
            change ρ (.tmp 76) = _ at e76
            simp only [execOp]
            go_simp
            refine (HPL.out w5).mono ?_
            rintro r9 q9 ⟨rfl, hb9⟩
            exact hK _ _ rfl hb9
          · refine plainG rfl ?_
            intro bA K Q' hK
            have e75 := hG 9 75 (by decide) (by kernel_rfl) (by kernel_rfl)
            have e77 := hG 11 77 (by decide) (by kernel_rfl) (by kernel_rfl)
            change ρ (.tmp 75) = _ at e75
            change ρ (.tmp 77) = _ at e77
            simp only [execOp]
            go_simp
            exact hK _ _ rfl (Grew.refl _)
          · refine plainG rfl ?_
            intro bA K Q' hK
            have e74 := hG 8 74 (by decide) (by kernel_rfl) (by kernel_rfl)
            have e78 := hG 12 78 (by decide) (by kernel_rfl) (by kernel_rfl)
            change ρ (.tmp 74) = _ at e74
            change ρ (.tmp 78) = _ at e78
            simp only [execOp]
            go_simp
            exact hK _ _ rfl (Grew.refl _)
          · refine plainG rfl ?_
            intro bA K Q' hK
            have e79 := hG 13 79 (by decide) (by kernel_rfl) (by kernel_rfl)
            change ρ (.tmp 79) = _ at e79
            simp only [execOp]
            go_simp
            exact hK _ _ rfl (Grew.refl _)
          · have eG : ρ (.tmp 80) = _ := hG 14 80 (by decide) (by kernel_rfl) (by kernel_rfl)
            refine onG rfl (by kernel_rfl) eG ?_
            intro bA K Q' hK
            have e3 := hS 3 (by kernel_rfl)
            change ρ (.tmp 3) = _ at e3
            obtain ⟨⟨y0, y1, y2⟩, y3, y4⟩ := HCY.out w5 hR
            simp only [execOp]
            go_simp
            exact hK _ _ rfl (Grew.refl _)
          · have eG : ρ (.tmp 80) = _ := hG 14 80 (by decide) (by kernel_rfl) (by kernel_rfl)
            refine onG rfl (by kernel_rfl) eG ?_
            intro bA K Q' hK
            have e81 := hG 15 81 (by decide) (by kernel_rfl) (by kernel_rfl)
            change ρ (.tmp 81) = _ at e81
            simp only [execOp]
            go_simp
            refine (key_any s z w5).mono ?_
            rintro r9 q9 ⟨rfl, hb9⟩
            exact hK _ _ rfl hb9
          · have eG : ρ (.tmp 80) = _ := hG 14 80 (by decide) (by kernel_rfl) (by kernel_rfl)
            refine onG rfl (by kernel_rfl) eG ?_
            intro bA K Q' hK
            have e5 := hS 5 (by kernel_rfl)
            change ρ (.tmp 5) = _ at e5
            simp only [execOp]
            go_simp
            exact hK _ _ rfl (Grew.refl _)
          · have eG : ρ (.tmp 80) = _ := hG 14 80 (by decide) (by kernel_rfl) (by kernel_rfl)
            refine onG rfl (by kernel_rfl) eG ?_
            intro bA K Q' hK
            have e83 := hG 17 83 (by decide) (by kernel_rfl) (by kernel_rfl)
            change ρ (.tmp 83) = _ at e83
            obtain ⟨⟨y0, y1, y2⟩, y3, y4⟩ := HCY.out w5 hR
            simp only [execOp]
            go_simp
            exact hK _ _ rfl (Grew.refl _)
          · have eG : ρ (.tmp 80) = _ := hG 14 80 (by decide) (by kernel_rfl) (by kernel_rfl)
            refine onG rfl (by kernel_rfl) eG ?_
            intro bA K Q' hK
            have e11 := hS 11 (by kernel_rfl)
            change ρ (.tmp 11) = _ at e11
            simp only [execOp]
            go_simp
            exact hK _ _ rfl (Grew.refl _)
          · have eG : ρ (.tmp 80) = _ := hG 14 80 (by decide) (by kernel_rfl) (by kernel_rfl)
            refine onG rfl (by kernel_rfl) eG ?_
            intro bA K Q' hK
            have e84 := hG 18 84 (by decide) (by kernel_rfl) (by kernel_rfl)
            have e85 := hG 19 85 (by decide) (by kernel_rfl) (by kernel_rfl)
            change ρ (.tmp 84) = _ at e84
            change ρ (.tmp 85) = _ at e85
            simp only [execOp]
            go_simp
            exact hK _ _ rfl (Grew.refl _)
          · have eG : ρ (.tmp 80) = _ := hG 14 80 (by decide) (by kernel_rfl) (by kernel_rfl)
            refine onG rfl (by kernel_rfl) eG ?_
            intro bA K Q' hK
            have e86 := hG 20 86 (by decide) (by kernel_rfl) (by kernel_rfl)
            change ρ (.tmp 86) = _ at e86
            simp only [execOp]
            go_simp
            exact hK _ _ rfl (Grew.refl _)
          · have eG : ρ (.tmp 80) = _ := hG 14 80 (by decide) (by kernel_rfl) (by kernel_rfl)
            refine onG rfl (by kernel_rfl) eG ?_
            intro bA K Q' hK
            have e87 := hG 21 87 (by decide) (by kernel_rfl) (by kernel_rfl)
            change ρ (.tmp 87) = _ at e87
            obtain ⟨⟨y0, y1, y2⟩, y3, y4⟩ := HCY.out w5 hR
            simp only [execOp]
            go_simp
            exact hK _ _ rfl (Grew.refl _)
          · have eG : ρ (.tmp 80) = _ := hG 14 80 (by decide) (by kernel_rfl) (by kernel_rfl)
            refine onG rfl (by kernel_rfl) eG ?_
            intro bA K Q' hK
            have e82 := hG 16 82 (by decide) (by kernel_rfl) (by kernel_rfl)
            have e88 := hG 22 88 (by decide) (by kernel_rfl) (by kernel_rfl)
            change ρ (.tmp 82) = _ at e82
            change ρ (.tmp 88) = _ at e88
            simp only [execOp]
            go_simp
            refine (HL2.out w5).mono ?_
            rintro r9 q9 ⟨rfl, hb9⟩
            exact hK _ _ rfl hb9
          · have eG : ρ (.tmp 80) = _ := hG 14 80 (by decide) (by kernel_rfl) (by kernel_rfl)
            refine onG rfl (by kernel_rfl) eG ?_
            intro bA K Q' hK
            have e3 := hS 3 (by kernel_rfl)
            change ρ (.tmp 3) = _ at e3
            obtain ⟨⟨y0, y1, y2⟩, y3, y4⟩ := HCY.out w5 hR
            simp only [execOp]
            go_simp
            exact hK _ _ rfl (Grew.refl _)
          · have eG : ρ (.tmp 80) = _ := hG 14 80 (by decide) (by kernel_rfl) (by kernel_rfl)
            refine onG rfl (by kernel_rfl) eG ?_
            intro bA K Q' hK
            have e90 := hG 24 90 (by decide) (by kernel_rfl) (by kernel_rfl)
            change ρ (.tmp 90) = _ at e90
            simp only [execOp]
            go_simp
            refine (HPL.out w5).mono ?_
            rintro r9 q9 ⟨rfl, hb9⟩
            exact hK _ _ rfl hb9
          · have eG : ρ (.tmp 80) = _ := hG 14 80 (by decide) (by kernel_rfl) (by kernel_rfl)
            refine onG rfl (by kernel_rfl) eG ?_
            intro bA K Q' hK
            have e12 := hS 12 (by kernel_rfl)
            change ρ (.tmp 12) = _ at e12
            simp only [execOp]
            go_simp
            exact hK _ _ rfl (Grew.refl _)
          · have eG : ρ (.tmp 80) = _ := hG 14 80 (by decide) (by kernel_rfl) (by kernel_rfl)
            refine onG rfl (by kernel_rfl) eG ?_
            intro bA K Q' hK
            have e91 := hG 25 91 (by decide) (by kernel_rfl) (by kernel_rfl)
            have e92 := hG 26 92 (by decide) (by kernel_rfl) (by kernel_rfl)
            change ρ (.tmp 91) = _ at e91
            change ρ (.tmp 92) = _ at e92
            simp only [execOp]
            go_simp
            exact hK _ _ rfl (Grew.refl _)
          · have eG : ρ (.tmp 80) = _ := hG 14 80 (by decide) (by kernel_rfl) (by kernel_rfl)
            refine onG rfl (by kernel_rfl) eG ?_
            intro bA K Q' hK
            have e89 := hG 23 89 (by decide) (by kernel_rfl) (by kernel_rfl)
            have e93 := hG 27 93 (by decide) (by kernel_rfl) (by kernel_rfl)
            change ρ (.tmp 89) = _ at e89
            change ρ (.tmp 93) = _ at e93
            simp only [execOp]
            go_simp
            exact hK _ _ rfl (Grew.refl _)
          · refine plainG rfl ?_
            intro bA K Q' hK
            have e80 := hG 14 80 (by decide) (by kernel_rfl) (by kernel_rfl)
            have e94 := hG 28 94 (by decide) (by kernel_rfl) (by kernel_rfl)
            change ρ (.tmp 80) = _ at e80
            change ρ (.tmp 94) = _ at e94
            simp only [execOp]
            go_simp
            exact hK _ _ rfl (Grew.refl _)
        · skip
          intro vv q8 hR hG
          have h9 : vv 29 = .bool false := hG.2
          have hb := grewDrew hR
          have HB8 : Hid (Below w8.heap.size w8 q8) := hid (HBQ.out.trans (hb.mono HBQ.out.size))
          clear hG hR HCY hb HBQ HBQ1 HC1
          simp [stG, stU, dstAt, Act.put, h9]
          clear h9
          obtain ⟨-, -, hk0, hk1⟩ := HALL.out q8 HB8.out
          go_wp2_with fail
          refine (HPL.out _).mono ?_
          rintro e q9 ⟨rfl, hb⟩
          have HB9 : Hid (Below w8.heap.size w8 q9) := hid (HB8.out.trans (hb.mono HB8.out.size))
          clear hb HB8 hk0 hk1
          obtain ⟨-, -, hk0, hk1⟩ := HALL.out q9 HB9.out
          go_wp2_with fail
          refine (HPL.out _).mono ?_
          rintro e q10 ⟨rfl, hb⟩
          have HB10 : Hid (Below w8.heap.size w8 q10) := hid (HB9.out.trans (hb.mono HB9.out.size))
          clear hb HB9 hk0 hk1
          obtain ⟨-, -, hk0, hk1⟩ := HALL.out q10 HB10.out
          cases IS
          · skip
            go_wp2_with fail
            refine (HPL.out _).mono ?_
            rintro e q11 ⟨rfl, hb⟩
            have HB11 : Hid (Below w8.heap.size w8 q11) := hid (HB10.out.trans (hb.mono HB10.out.size))
            clear hb HB10 hk0 hk1
            go_wp2_with fail
            have hF := fd_next (k := (s, z)) HFA.out HKX.out
            have hL := last_next (k := (s, z)) HFA.out HOK.out HO.out HKX.out
            have hI := isTo_next (k := (s, z)) HKX.out
            have HCP : plK (s1, z1) = plK (s, z) := by rw [← HP1.out, ← HPK.out]; exact HCC.out
            rw [← HKE.out, ← HST.out.1] at hF
            rw [← HKE.out, ← HST.out.2.1] at hL
            rw [← HKE.out, ← HST.out.2.2] at hI
            simp only at hF hL hI
            rw [if_neg (by omega)] at hF
            rw [if_pos (by omega)] at hL
            have hI2 : isTo xs (s, z) (k + 1) = true := by
              rw [hI]
              rw [pl_inj HKO.out HO.out HCP]; simp
            have HNX := hid (And.intro hF.symm (And.intro hL.symm hI2.symm))
            clear hF hL hI hI2 HCP
            go_roundw
            case rel => exact ⟨k + 1, A8, k, true, by have := HKX.out; have := HN.out; omega, by go_num, rfl, rfl, by go_num, HNX.out, HB11.out⟩
            case measure => have := HKX.out; have := HN.out; simp [intOf]; omega
          · skip
            go_wp2_with fail
            have hF := fd_next (k := (s, z)) HFA.out HKX.out
            have hL := last_next (k := (s, z)) HFA.out HOK.out HO.out HKX.out
            have hI := isTo_next (k := (s, z)) HKX.out
            have HCP : plK (s1, z1) = plK (s, z) := by rw [← HP1.out, ← HPK.out]; exact HCC.out
            rw [← HKE.out, ← HST.out.1] at hF
            rw [← HKE.out, ← HST.out.2.1] at hL
            rw [← HKE.out, ← HST.out.2.2] at hI
            simp only at hF hL hI
            rw [if_neg (by omega)] at hF
            rw [if_pos (by omega)] at hL
            have hI2 : isTo xs (s, z) (k + 1) = true := by
              rw [hI]
              rfl
            have HNX := hid (And.intro hF.symm (And.intro hL.symm hI2.symm))
            clear hF hL hI hI2 HCP
            go_roundw
            case rel => exact ⟨k + 1, A8, k, true, by have := HKX.out; have := HN.out; omega, by go_num, rfl, rfl, by go_num, HNX.out, HB10.out⟩
            case measure => have := HKX.out; have := HN.out; simp [intOf]; omega
      · have hd1 : decide (p < pk) = false := decide_eq_false (by omega)
        have hd2 : decide (pk < p) = true := decide_eq_true (by omega)
        have hd3 : decide (p ≤ pk) = false := decide_eq_false (by omega)
        have hd4 : (p == pk) = false := by rw [beq_eq_false_iff_ne]; omega
        have HCC := hid hc
        have HL1 : Hid (∀ y, Calls Try.prog 23 #[.agg #[.int .i64 s1, .int .i64 z1], .agg #[.int .i64 s, .int .i64 z]] y fun e w' => e = .returned (.bool false) ∧ Below y.heap.size y w') := hid fun y => by
          have h := HP.out.nLess s1 z1 s z y HKO.out HO.out
          rw [less_pl HKO.out HO.out, ← HPK.out, ← HP1.out, hd1] at h
          exact h
        have HL2 : Hid (∀ y, Calls Try.prog 23 #[.agg #[.int .i64 s, .int .i64 z], .agg #[.int .i64 s1, .int .i64 z1]] y fun e w' => e = .returned (.bool true) ∧ Below y.heap.size y w') := hid fun y => by
          have h := HP.out.nLess s z s1 z1 y HO.out HKO.out
          rw [less_pl HO.out HKO.out, ← HPK.out, ← HP1.out, hd2] at h
          exact h
        clear hc
        go_upto_region 13 with fail
        refine wp_region_grows 30 [EqN (.pointer (some ⟨gp1, 1, none⟩)), EqN (.slice (some ⟨b1, o1, none⟩) n1 c1), EqN (.int .i64 (k : Int)), EqN (.pointer (some ⟨b1, o1 + k * 3, none⟩)), EqN (.pointer (some ⟨b1, o1 + k * 3, none⟩)), EqN (.agg #[.int .i64 s1, .int .i64 z1]), EqN (.agg #[.int .i64 s, .int .i64 z]), EqN (.agg #[.int .i64 s, .int .i64 z]), EqN (.bool false), EqN (.int .i64 p), EqN (.agg #[.int .i64 s, .int .i64 z]), EqN (.int .i64 pk), EqN (.bool false), EqN (.bool false), EqN (.bool false), EqN (.agg #[.int .i64 s, .int .i64 z]), EqN (.agg #[.int .i64 s, .int .i64 z]), EqN (.pointer (some ⟨gp1, 1, none⟩)), EqN (.slice (some ⟨b1, o1, none⟩) n1 c1), EqN (.int .i64 (k : Int)), EqN (.pointer (some ⟨b1, o1 + k * 3, none⟩)), EqN (.pointer (some ⟨b1, o1 + k * 3, none⟩)), EqN (.agg #[.int .i64 s1, .int .i64 z1]), EqN (.bool true), EqN (.agg #[.int .i64 s, .int .i64 z]), EqN (.int .i64 pk), EqN (.int .i64 p), EqN (.bool true), EqN (.bool false), EqN (.bool false)] (by kernel_rfl) (by decide) (by kernel_rfl) ?_ ?_ ?_
        · repeat' (first | exact List.forall_mem_nil _ | refine List.forall_mem_cons.2 ⟨?_, ?_⟩)
          all_goals
            intro w w' v hw h
            first | exact h | exact h
        · simp only [AllLt]
          refine ⟨⟨⟨⟨⟨⟨⟨⟨⟨⟨⟨⟨⟨⟨⟨⟨⟨⟨⟨⟨⟨⟨⟨⟨⟨⟨⟨⟨⟨⟨trivial, ?_⟩, ?_⟩, ?_⟩, ?_⟩, ?_⟩, ?_⟩, ?_⟩, ?_⟩, ?_⟩, ?_⟩, ?_⟩, ?_⟩, ?_⟩, ?_⟩, ?_⟩, ?_⟩, ?_⟩, ?_⟩, ?_⟩, ?_⟩, ?_⟩, ?_⟩, ?_⟩, ?_⟩, ?_⟩, ?_⟩, ?_⟩, ?_⟩, ?_⟩, ?_⟩
          all_goals
            intro o' ho
            simp at ho
            subst ho
            intro ρ w5 hR hL hS hG
            obtain ⟨hl1, hl2, -⟩ := hL
          · refine plainG rfl ?_
            intro bA K Q' hK
            have e5 := hS 5 (by kernel_rfl)
            change ρ (.tmp 5) = _ at e5
            simp only [execOp]
            go_simp
            exact hK _ _ rfl (Grew.refl _)
          · refine plainG rfl ?_
            intro bA K Q' hK
            have e66 := hG 0 66 (by decide) (by kernel_rfl) (by kernel_rfl)
            change ρ (.tmp 66) = _ at e66
            obtain ⟨⟨y0, y1, y2⟩, y3, y4⟩ := HCY.out w5 hR
            simp only [execOp]
            go_simp
            exact hK _ _ rfl (Grew.refl _)
          · refine plainG rfl ?_
            intro bA K Q' hK
            have e11 := hS 11 (by kernel_rfl)
            change ρ (.tmp 11) = _ at e11
            simp only [execOp]
            go_simp
            exact hK _ _ rfl (Grew.refl _)
          · refine plainG rfl ?_
            intro bA K Q' hK
            have e67 := hG 1 67 (by decide) (by kernel_rfl) (by kernel_rfl)
            have e68 := hG 2 68 (by decide) (by kernel_rfl) (by kernel_rfl)
            change ρ (.tmp 67) = _ at e67
            change ρ (.tmp 68) = _ at e68
            simp only [execOp]
            go_simp
            exact hK _ _ rfl (Grew.refl _)
          · refine plainG rfl ?_
            intro bA K Q' hK
            have e69 := hG 3 69 (by decide) (by kernel_rfl) (by kernel_rfl)
            change ρ (.tmp 69) = _ at e69
            simp only [execOp]
            go_simp
            exact hK _ _ rfl (Grew.refl _)
          · refine plainG rfl ?_
            intro bA K Q' hK
            have e70 := hG 4 70 (by decide) (by kernel_rfl) (by kernel_rfl)
            change ρ (.tmp 70) = _ at e70
            obtain ⟨⟨y0, y1, y2⟩, y3, y4⟩ := HCY.out w5 hR
            simp only [execOp]
            go_simp
            exact hK _ _ rfl (Grew.refl _)
          · refine plainG rfl ?_
            intro bA K Q' hK
            have e3 := hS 3 (by kernel_rfl)
            change ρ (.tmp 3) = _ at e3
            obtain ⟨⟨y0, y1, y2⟩, y3, y4⟩ := HCY.out w5 hR
            simp only [execOp]
            go_simp
            exact hK _ _ rfl (Grew.refl _)
          · refine plainG rfl ?_
            intro bA K Q' hK
            have e72 := hG 6 72 (by decide) (by kernel_rfl) (by kernel_rfl)
            change ρ (.tmp 72) = _ at e72
            simp only [execOp]
            go_simp
            refine (key_any s z w5).mono ?_
            rintro r9 q9 ⟨rfl, hb9⟩
            exact hK _ _ rfl hb9
          · refine plainG rfl ?_
            intro bA K Q' hK
            have e71 := hG 5 71 (by decide) (by kernel_rfl) (by kernel_rfl)
            have e73 := hG 7 73 (by decide) (by kernel_rfl) (by kernel_rfl)
            change ρ (.tmp 71) = _ at e71
            change ρ (.tmp 73) = _ at e73
            simp only [execOp]
            go_simp
            refine (HL1.out w5).mono ?_
            rintro r9 q9 ⟨rfl, hb9⟩
            exact hK _ _ rfl hb9
          · refine plainG rfl ?_
            intro bA K Q' hK
            have e12 := hS 12 (by kernel_rfl)
            change ρ (.tmp 12) = _ at e12
            simp only [execOp]
            go_simp
            exact hK _ _ rfl (Grew.refl _)
          · refine plainG rfl ?_
            intro bA K Q' hK
            have e3 := hS 3 (by kernel_rfl)
            change ρ (.tmp 3) = _ at e3
            obtain ⟨⟨y0, y1, y2⟩, y3, y4⟩ := HCY.out w5 hR
            simp only [execOp]
            go_simp
            exact hK _ _ rfl (Grew.refl _)
          · refine plainG rfl ?_
            intro bA K Q' hK
            have e76 := hG 10 76 (by decide) (by kernel_rfl) (by kernel_rfl)
            change ρ (.tmp 76) = _ at e76
            simp only [execOp]
            go_simp
            refine (HPL.out w5).mono ?_
            rintro r9 q9 ⟨rfl, hb9⟩
            exact hK _ _ rfl hb9
          · refine plainG rfl ?_
            intro bA K Q' hK
            have e75 := hG 9 75 (by decide) (by kernel_rfl) (by kernel_rfl)
            have e77 := hG 11 77 (by decide) (by kernel_rfl) (by kernel_rfl)
            change ρ (.tmp 75) = _ at e75
            change ρ (.tmp 77) = _ at e77
            simp only [execOp]
            go_simp
            exact hK _ _ rfl (Grew.refl _)
          · refine plainG rfl ?_
            intro bA K Q' hK
            have e74 := hG 8 74 (by decide) (by kernel_rfl) (by kernel_rfl)
            have e78 := hG 12 78 (by decide) (by kernel_rfl) (by kernel_rfl)
            change ρ (.tmp 74) = _ at e74
            change ρ (.tmp 78) = _ at e78
            simp only [execOp]
            go_simp
            exact hK _ _ rfl (Grew.refl _)
          · refine plainG rfl ?_
            intro bA K Q' hK
            have e79 := hG 13 79 (by decide) (by kernel_rfl) (by kernel_rfl)
            change ρ (.tmp 79) = _ at e79
            simp only [execOp]
            go_simp
            exact hK _ _ rfl (Grew.refl _)
          · have eG : ρ (.tmp 80) = _ := hG 14 80 (by decide) (by kernel_rfl) (by kernel_rfl)
            refine onG rfl (by kernel_rfl) eG ?_
            intro bA K Q' hK
            have e3 := hS 3 (by kernel_rfl)
            change ρ (.tmp 3) = _ at e3
            obtain ⟨⟨y0, y1, y2⟩, y3, y4⟩ := HCY.out w5 hR
            simp only [execOp]
            go_simp
            exact hK _ _ rfl (Grew.refl _)
          · have eG : ρ (.tmp 80) = _ := hG 14 80 (by decide) (by kernel_rfl) (by kernel_rfl)
            refine onG rfl (by kernel_rfl) eG ?_
            intro bA K Q' hK
            have e81 := hG 15 81 (by decide) (by kernel_rfl) (by kernel_rfl)
            change ρ (.tmp 81) = _ at e81
            simp only [execOp]
            go_simp
            refine (key_any s z w5).mono ?_
            rintro r9 q9 ⟨rfl, hb9⟩
            exact hK _ _ rfl hb9
          · have eG : ρ (.tmp 80) = _ := hG 14 80 (by decide) (by kernel_rfl) (by kernel_rfl)
            refine onG rfl (by kernel_rfl) eG ?_
            intro bA K Q' hK
            have e5 := hS 5 (by kernel_rfl)
            change ρ (.tmp 5) = _ at e5
            simp only [execOp]
            go_simp
            exact hK _ _ rfl (Grew.refl _)
          · have eG : ρ (.tmp 80) = _ := hG 14 80 (by decide) (by kernel_rfl) (by kernel_rfl)
            refine onG rfl (by kernel_rfl) eG ?_
            intro bA K Q' hK
            have e83 := hG 17 83 (by decide) (by kernel_rfl) (by kernel_rfl)
            change ρ (.tmp 83) = _ at e83
            obtain ⟨⟨y0, y1, y2⟩, y3, y4⟩ := HCY.out w5 hR
            simp only [execOp]
            go_simp
            exact hK _ _ rfl (Grew.refl _)
          · have eG : ρ (.tmp 80) = _ := hG 14 80 (by decide) (by kernel_rfl) (by kernel_rfl)
            refine onG rfl (by kernel_rfl) eG ?_
            intro bA K Q' hK
            have e11 := hS 11 (by kernel_rfl)
            change ρ (.tmp 11) = _ at e11
            simp only [execOp]
            go_simp
            exact hK _ _ rfl (Grew.refl _)
          · have eG : ρ (.tmp 80) = _ := hG 14 80 (by decide) (by kernel_rfl) (by kernel_rfl)
            refine onG rfl (by kernel_rfl) eG ?_
            intro bA K Q' hK
            have e84 := hG 18 84 (by decide) (by kernel_rfl) (by kernel_rfl)
            have e85 := hG 19 85 (by decide) (by kernel_rfl) (by kernel_rfl)
            change ρ (.tmp 84) = _ at e84
            change ρ (.tmp 85) = _ at e85
            simp only [execOp]
            go_simp
            exact hK _ _ rfl (Grew.refl _)
          · have eG : ρ (.tmp 80) = _ := hG 14 80 (by decide) (by kernel_rfl) (by kernel_rfl)
            refine onG rfl (by kernel_rfl) eG ?_
            intro bA K Q' hK
            have e86 := hG 20 86 (by decide) (by kernel_rfl) (by kernel_rfl)
            change ρ (.tmp 86) = _ at e86
            simp only [execOp]
            go_simp
            exact hK _ _ rfl (Grew.refl _)
          · have eG : ρ (.tmp 80) = _ := hG 14 80 (by decide) (by kernel_rfl) (by kernel_rfl)
            refine onG rfl (by kernel_rfl) eG ?_
            intro bA K Q' hK
            have e87 := hG 21 87 (by decide) (by kernel_rfl) (by kernel_rfl)
            change ρ (.tmp 87) = _ at e87
            obtain ⟨⟨y0, y1, y2⟩, y3, y4⟩ := HCY.out w5 hR
            simp only [execOp]
            go_simp
            exact hK _ _ rfl (Grew.refl _)
          · have eG : ρ (.tmp 80) = _ := hG 14 80 (by decide) (by kernel_rfl) (by kernel_rfl)
            refine onG rfl (by kernel_rfl) eG ?_
            intro bA K Q' hK
            have e82 := hG 16 82 (by decide) (by kernel_rfl) (by kernel_rfl)
            have e88 := hG 22 88 (by decide) (by kernel_rfl) (by kernel_rfl)
            change ρ (.tmp 82) = _ at e82
            change ρ (.tmp 88) = _ at e88
            simp only [execOp]
            go_simp
            refine (HL2.out w5).mono ?_
            rintro r9 q9 ⟨rfl, hb9⟩
            exact hK _ _ rfl hb9
          · have eG : ρ (.tmp 80) = _ := hG 14 80 (by decide) (by kernel_rfl) (by kernel_rfl)
            refine onG rfl (by kernel_rfl) eG ?_
            intro bA K Q' hK
            have e3 := hS 3 (by kernel_rfl)
            change ρ (.tmp 3) = _ at e3
            obtain ⟨⟨y0, y1, y2⟩, y3, y4⟩ := HCY.out w5 hR
            simp only [execOp]
            go_simp
            exact hK _ _ rfl (Grew.refl _)
          · have eG : ρ (.tmp 80) = _ := hG 14 80 (by decide) (by kernel_rfl) (by kernel_rfl)
            refine onG rfl (by kernel_rfl) eG ?_
            intro bA K Q' hK
            have e90 := hG 24 90 (by decide) (by kernel_rfl) (by kernel_rfl)
            change ρ (.tmp 90) = _ at e90
            simp only [execOp]
            go_simp
            refine (HPL.out w5).mono ?_
            rintro r9 q9 ⟨rfl, hb9⟩
            exact hK _ _ rfl hb9
          · have eG : ρ (.tmp 80) = _ := hG 14 80 (by decide) (by kernel_rfl) (by kernel_rfl)
            refine onG rfl (by kernel_rfl) eG ?_
            intro bA K Q' hK
            have e12 := hS 12 (by kernel_rfl)
            change ρ (.tmp 12) = _ at e12
            simp only [execOp]
            go_simp
            exact hK _ _ rfl (Grew.refl _)
          · have eG : ρ (.tmp 80) = _ := hG 14 80 (by decide) (by kernel_rfl) (by kernel_rfl)
            refine onG rfl (by kernel_rfl) eG ?_
            intro bA K Q' hK
            have e91 := hG 25 91 (by decide) (by kernel_rfl) (by kernel_rfl)
            have e92 := hG 26 92 (by decide) (by kernel_rfl) (by kernel_rfl)
            change ρ (.tmp 91) = _ at e91
            change ρ (.tmp 92) = _ at e92
            simp only [execOp]
            go_simp
            exact hK _ _ rfl (Grew.refl _)
          · have eG : ρ (.tmp 80) = _ := hG 14 80 (by decide) (by kernel_rfl) (by kernel_rfl)
            refine onG rfl (by kernel_rfl) eG ?_
            intro bA K Q' hK
            have e89 := hG 23 89 (by decide) (by kernel_rfl) (by kernel_rfl)
            have e93 := hG 27 93 (by decide) (by kernel_rfl) (by kernel_rfl)
            change ρ (.tmp 89) = _ at e89
            change ρ (.tmp 93) = _ at e93
            simp only [execOp]
            go_simp
            exact hK _ _ rfl (Grew.refl _)
          · refine plainG rfl ?_
            intro bA K Q' hK
            have e80 := hG 14 80 (by decide) (by kernel_rfl) (by kernel_rfl)
            have e94 := hG 28 94 (by decide) (by kernel_rfl) (by kernel_rfl)
            change ρ (.tmp 80) = _ at e80
            change ρ (.tmp 94) = _ at e94
            simp only [execOp]
            go_simp
            exact hK _ _ rfl (Grew.refl _)
        · skip
          intro vv q8 hR hG
          have h9 : vv 29 = .bool false := hG.2
          have hb := grewDrew hR
          have HB8 : Hid (Below w8.heap.size w8 q8) := hid (HBQ.out.trans (hb.mono HBQ.out.size))
          clear hG hR HCY hb HBQ HBQ1 HC1
          simp [stG, stU, dstAt, Act.put, h9]
          clear h9
          obtain ⟨-, -, hk0, hk1⟩ := HALL.out q8 HB8.out
          go_wp2_with fail
          refine (HPL.out _).mono ?_
          rintro e q9 ⟨rfl, hb⟩
          have HB9 : Hid (Below w8.heap.size w8 q9) := hid (HB8.out.trans (hb.mono HB8.out.size))
          clear hb HB8 hk0 hk1
          obtain ⟨-, -, hk0, hk1⟩ := HALL.out q9 HB9.out
          go_wp2_with fail
          refine (HPL.out _).mono ?_
          rintro e q10 ⟨rfl, hb⟩
          have HB10 : Hid (Below w8.heap.size w8 q10) := hid (HB9.out.trans (hb.mono HB9.out.size))
          clear hb HB9 hk0 hk1
          obtain ⟨-, -, hk0, hk1⟩ := HALL.out q10 HB10.out
          cases IS
          · skip
            go_wp2_with fail
            refine (HPL.out _).mono ?_
            rintro e q11 ⟨rfl, hb⟩
            have HB11 : Hid (Below w8.heap.size w8 q11) := hid (HB10.out.trans (hb.mono HB10.out.size))
            clear hb HB10 hk0 hk1
            go_wp2_with fail
            have hF := fd_next (k := (s, z)) HFA.out HKX.out
            have hL := last_next (k := (s, z)) HFA.out HOK.out HO.out HKX.out
            have hI := isTo_next (k := (s, z)) HKX.out
            have HCP : plK (s, z) < plK (s1, z1) := by rw [← HP1.out, ← HPK.out]; exact HCC.out
            rw [← HKE.out, ← HST.out.1] at hF
            rw [← HKE.out, ← HST.out.2.1] at hL
            rw [← HKE.out, ← HST.out.2.2] at hI
            simp only at hF hL hI
            rw [if_neg (by omega)] at hF
            rw [if_neg (by omega)] at hL
            have hI2 : isTo xs (s, z) (k + 1) = false := by
              rw [hI]
              rw [decide_eq_false (by intro e; rw [e] at HCP; omega)]; rfl
            have HNX := hid (And.intro hF.symm (And.intro hL.symm hI2.symm))
            clear hF hL hI hI2 HCP
            go_roundw
            case rel => exact ⟨k + 1, A8, A9, false, by have := HKX.out; have := HN.out; omega, by go_num, rfl, rfl, by go_num, HNX.out, HB11.out⟩
            case measure => have := HKX.out; have := HN.out; simp [intOf]; omega
          · skip
            go_wp2_with fail
            have hF := fd_next (k := (s, z)) HFA.out HKX.out
            have hL := last_next (k := (s, z)) HFA.out HOK.out HO.out HKX.out
            have hI := isTo_next (k := (s, z)) HKX.out
            have HCP : plK (s, z) < plK (s1, z1) := by rw [← HP1.out, ← HPK.out]; exact HCC.out
            rw [← HKE.out, ← HST.out.1] at hF
            rw [← HKE.out, ← HST.out.2.1] at hL
            rw [← HKE.out, ← HST.out.2.2] at hI
            simp only at hF hL hI
            rw [if_neg (by omega)] at hF
            rw [if_neg (by omega)] at hL
            have hI2 : isTo xs (s, z) (k + 1) = true := by
              rw [hI]
              rfl
            have HNX := hid (And.intro hF.symm (And.intro hL.symm hI2.symm))
            clear hF hL hI hI2 HCP
            go_roundw
            case rel => exact ⟨k + 1, A8, A9, true, by have := HKX.out; have := HN.out; omega, by go_num, rfl, rfl, by go_num, HNX.out, HB10.out⟩
            case measure => have := HKX.out; have := HN.out; simp [intOf]; omega
    · skip
      have hkf : (k < n1) = False := eq_false (by omega)
      have HKN : Hid (k = xs.length) := hid (by have := HN.out; omega)
      have HA : Hid (A8 = atK xs (s, z) ∧ A9 = childK xs (s, z) ∧ IS = inK xs (s, z)) := hid ⟨by rw [HST.out.1, HKN.out, fd_all], by rw [HST.out.2.1, HKN.out, last_all], by rw [HST.out.2.2, HKN.out, is_all HFA.out]⟩
      have hAA : (((A8 : Nat) : Int) != (A8 : Int)) = false := by simp
      have hII : (IS != IS) = false := by simp
      have HFI : Hid (∀ y, NdOk y a1 n1 c1 xs → Calls Try.prog 24 #[.agg #[.bool false, .slice a1 n1 c1], .agg #[.int .i64 s, .int .i64 z]] y fun e w' => e = .returned (.tuple #[.int .i64 (A8 : Int), .bool IS]) ∧ Below y.heap.size y w') := hid fun y hy => by
        have h := HP.out.nFind a1 n1 c1 false xs s z y hy HC0.out HO.out
        rw [← HA.out.1, ← HA.out.2.2] at h
        exact h
      have HCH : Hid (∀ y, NdOk y a1 n1 c1 xs → Calls Try.prog 25 #[.agg #[.bool false, .slice a1 n1 c1], .agg #[.int .i64 s, .int .i64 z]] y fun e w' => (∃ i, e = .returned (.tuple #[.int .i64 i, .int .i64 0]) ∧ i = (A9 : Int)) ∧ Below y.heap.size y w') := hid fun y hy => by
        have h := HP.out.nChild a1 n1 c1 false xs s z y hy HC0.out HO.out
        rw [← HA.out.2.1] at h
        refine h.mono ?_
        rintro e w' ⟨⟨i, h1, h2⟩, h3⟩
        exact ⟨⟨i, h1, h2 rfl⟩, h3⟩
      have HCY : Hid (∀ x, Grew wr.drew x → NdOk x a1 n1 c1 xs ∧ (x.cell? ⟨gp1, 0, none⟩ = some (.bool false) ∧ x.cell? ⟨gp1, 1, none⟩ = some (.slice a1 n1 c1)) ∧ x.cell? ⟨g + 1, 0, none⟩ = some (.int .i64 s) ∧ x.cell? ⟨g + 1, 1, none⟩ = some (.int .i64 z)) := hid fun x hx => by
        have hb := HB.out.trans ((grewDrew hx).mono HB.out.size)
        have h := HALL.out x hb
        exact ⟨HXX.out x hb, h.1, h.2.2⟩
      clear hlt
      go_upto_region 20 with fail
      refine wp_region_grows 9 [EqN (.agg #[.bool false, .slice a1 n1 c1]), EqN (.agg #[.int .i64 s, .int .i64 z]), EqN (.agg #[.int .i64 s, .int .i64 z]), EqN (.tuple #[.int .i64 (A8 : Int), .bool IS]), EqN (.tuple #[.int .i64 (A8 : Int), .bool IS]), EqN (.int .i64 (A8 : Int)), EqN (.bool IS), EqN (.int .i64 (A8 : Int)), EqN (.bool IS)] (by kernel_rfl) (by decide) (by kernel_rfl) ?_ ?_ ?_
      · repeat' (first | exact List.forall_mem_nil _ | refine List.forall_mem_cons.2 ⟨?_, ?_⟩)
        all_goals
          intro w w' v hw h
          first | exact h | exact h
      · simp only [AllLt]
        refine ⟨⟨⟨⟨⟨⟨⟨⟨⟨trivial, ?_⟩, ?_⟩, ?_⟩, ?_⟩, ?_⟩, ?_⟩, ?_⟩, ?_⟩, ?_⟩
        all_goals
          intro o' ho
          simp at ho
          subst ho
          intro ρ w5 hR hL hS hG
          obtain ⟨hl1, hl2, -⟩ := hL
        · refine plainG rfl ?_
          intro bA K Q' hK
          have e5 := hS 5 (by kernel_rfl)
          change ρ (.tmp 5) = _ at e5
          obtain ⟨-, ⟨y0, y1⟩, y2, y3⟩ := HCY.out w5 hR
          simp only [execOp]
          go_simp
          exact hK _ _ rfl (Grew.refl _)
        · refine plainG rfl ?_
          intro bA K Q' hK
          have e3 := hS 3 (by kernel_rfl)
          change ρ (.tmp 3) = _ at e3
          obtain ⟨-, ⟨y0, y1⟩, y2, y3⟩ := HCY.out w5 hR
          simp only [execOp]
          go_simp
          exact hK _ _ rfl (Grew.refl _)
        · refine plainG rfl ?_
          intro bA K Q' hK
          have e116 := hG 1 116 (by decide) (by kernel_rfl) (by kernel_rfl)
          change ρ (.tmp 116) = _ at e116
          simp only [execOp]
          go_simp
          refine (key_any s z w5).mono ?_
          rintro r9 q9 ⟨rfl, hb9⟩
          exact hK _ _ rfl hb9
        · refine plainG rfl ?_
          intro bA K Q' hK
          have e115 := hG 0 115 (by decide) (by kernel_rfl) (by kernel_rfl)
          have e117 := hG 2 117 (by decide) (by kernel_rfl) (by kernel_rfl)
          change ρ (.tmp 115) = _ at e115
          change ρ (.tmp 117) = _ at e117
          simp only [execOp]
          go_simp
          refine (HFI.out w5 (HCY.out w5 hR).1).mono ?_
          rintro r9 q9 ⟨rfl, hb9⟩
          exact hK _ _ rfl hb9
        · refine plainG rfl ?_
          intro bA K Q' hK
          have e118 := hG 3 118 (by decide) (by kernel_rfl) (by kernel_rfl)
          change ρ (.tmp 118) = _ at e118
          simp only [execOp]
          go_simp
          exact hK _ _ rfl (Grew.refl _)
        · refine plainG rfl ?_
          intro bA K Q' hK
          have e114 := hG 4 114 (by decide) (by kernel_rfl) (by kernel_rfl)
          change ρ (.tmp 114) = _ at e114
          simp only [execOp]
          go_simp
          exact hK _ _ rfl (Grew.refl _)
        · refine plainG rfl ?_
          intro bA K Q' hK
          have e114 := hG 4 114 (by decide) (by kernel_rfl) (by kernel_rfl)
          change ρ (.tmp 114) = _ at e114
          simp only [execOp]
          go_simp
          exact hK _ _ rfl (Grew.refl _)
        · refine plainG rfl ?_
          intro bA K Q' hK
          have e119 := hG 5 119 (by decide) (by kernel_rfl) (by kernel_rfl)
          change ρ (.tmp 119) = _ at e119
          simp only [execOp]
          go_simp
          exact hK _ _ rfl (Grew.refl _)
        · refine plainG rfl ?_
          intro bA K Q' hK
          have e120 := hG 6 120 (by decide) (by kernel_rfl) (by kernel_rfl)
          change ρ (.tmp 120) = _ at e120
          simp only [execOp]
          go_simp
          exact hK _ _ rfl (Grew.refl _)
      · skip
        intro vv q8 hR hG
        have h8 : vv 8 = .bool IS := hG.2
        have h7 : vv 7 = .int .i64 (A8 : Int) := hG.1.2
        have hb := grewDrew hR
        have HB8 : Hid (Below w8.heap.size w8 q8) := hid (HB.out.trans (hb.mono HB.out.size))
        clear hG hR HCY hb HB
        simp [stG, stU, dstAt, Act.put, h8, h7]
        clear h8 h7
        have HCY : Hid (∀ x, Grew q8.drew x → NdOk x a1 n1 c1 xs ∧ (x.cell? ⟨gp1, 0, none⟩ = some (.bool false) ∧ x.cell? ⟨gp1, 1, none⟩ = some (.slice a1 n1 c1)) ∧ x.cell? ⟨g + 1, 0, none⟩ = some (.int .i64 s) ∧ x.cell? ⟨g + 1, 1, none⟩ = some (.int .i64 z)) := hid fun x hx => by
          have hb := HB8.out.trans ((grewDrew hx).mono HB8.out.size)
          have h := HALL.out x hb
          exact ⟨HXX.out x hb, h.1, h.2.2⟩
        go_upto_region 21 with fail
        refine wp_region_grows 9 [EqN (.agg #[.bool false, .slice a1 n1 c1]), EqN (.agg #[.int .i64 s, .int .i64 z]), EqN (.agg #[.int .i64 s, .int .i64 z]), EqN (.tuple #[.int .i64 (A9 : Int), .int .i64 0]), EqN (.tuple #[.int .i64 (A9 : Int), .int .i64 0]), EqN (.int .i64 (A9 : Int)), EqN (.int .i64 0), EqN (.int .i64 (A9 : Int)), EqN (.int .i64 0)] (by kernel_rfl) (by decide) (by kernel_rfl) ?_ ?_ ?_
        · repeat' (first | exact List.forall_mem_nil _ | refine List.forall_mem_cons.2 ⟨?_, ?_⟩)
          all_goals
            intro w w' v hw h
            first | exact h | exact h
        · simp only [AllLt]
          refine ⟨⟨⟨⟨⟨⟨⟨⟨⟨trivial, ?_⟩, ?_⟩, ?_⟩, ?_⟩, ?_⟩, ?_⟩, ?_⟩, ?_⟩, ?_⟩
          all_goals
            intro o' ho
            simp at ho
            subst ho
            intro ρ w5 hR hL hS hG
            obtain ⟨hl1, hl2, -⟩ := hL
          · refine plainG rfl ?_
            intro bA K Q' hK
            have e5 := hS 5 (by kernel_rfl)
            change ρ (.tmp 5) = _ at e5
            obtain ⟨-, ⟨y0, y1⟩, y2, y3⟩ := HCY.out w5 hR
            simp only [execOp]
            go_simp
            exact hK _ _ rfl (Grew.refl _)
          · refine plainG rfl ?_
            intro bA K Q' hK
            have e3 := hS 3 (by kernel_rfl)
            change ρ (.tmp 3) = _ at e3
            obtain ⟨-, ⟨y0, y1⟩, y2, y3⟩ := HCY.out w5 hR
            simp only [execOp]
            go_simp
            exact hK _ _ rfl (Grew.refl _)
          · refine plainG rfl ?_
            intro bA K Q' hK
            have e123 := hG 1 123 (by decide) (by kernel_rfl) (by kernel_rfl)
            change ρ (.tmp 123) = _ at e123
            simp only [execOp]
            go_simp
            refine (key_any s z w5).mono ?_
            rintro r9 q9 ⟨rfl, hb9⟩
            exact hK _ _ rfl hb9
          · refine plainG rfl ?_
            intro bA K Q' hK
            have e122 := hG 0 122 (by decide) (by kernel_rfl) (by kernel_rfl)
            have e124 := hG 2 124 (by decide) (by kernel_rfl) (by kernel_rfl)
            change ρ (.tmp 122) = _ at e122
            change ρ (.tmp 124) = _ at e124
            simp only [execOp]
            go_simp
            refine (HCH.out w5 (HCY.out w5 hR).1).mono ?_
            rintro r9 q9 ⟨⟨i, rfl, rfl⟩, hb9⟩
            exact hK _ _ rfl hb9
          · refine plainG rfl ?_
            intro bA K Q' hK
            have e125 := hG 3 125 (by decide) (by kernel_rfl) (by kernel_rfl)
            change ρ (.tmp 125) = _ at e125
            simp only [execOp]
            go_simp
            exact hK _ _ rfl (Grew.refl _)
          · refine plainG rfl ?_
            intro bA K Q' hK
            have e121 := hG 4 121 (by decide) (by kernel_rfl) (by kernel_rfl)
            change ρ (.tmp 121) = _ at e121
            simp only [execOp]
            go_simp
            exact hK _ _ rfl (Grew.refl _)
          · refine plainG rfl ?_
            intro bA K Q' hK
            have e121 := hG 4 121 (by decide) (by kernel_rfl) (by kernel_rfl)
            change ρ (.tmp 121) = _ at e121
            simp only [execOp]
            go_simp
            exact hK _ _ rfl (Grew.refl _)
          · refine plainG rfl ?_
            intro bA K Q' hK
            have e126 := hG 5 126 (by decide) (by kernel_rfl) (by kernel_rfl)
            change ρ (.tmp 126) = _ at e126
            simp only [execOp]
            go_simp
            exact hK _ _ rfl (Grew.refl _)
          · refine plainG rfl ?_
            intro bA K Q' hK
            have e127 := hG 6 127 (by decide) (by kernel_rfl) (by kernel_rfl)
            change ρ (.tmp 127) = _ at e127
            simp only [execOp]
            go_simp
            exact hK _ _ rfl (Grew.refl _)
        · skip
          intro vv q9 hR hG
          have h8 : vv 8 = .int .i64 0 := hG.2
          have h7 : vv 7 = .int .i64 (A9 : Int) := hG.1.2
          have hb := grewDrew hR
          have HB9 : Hid (Below w8.heap.size w8 q9) := hid (HB8.out.trans (hb.mono HB8.out.size))
          clear hG hR HCY hb HB8
          simp [stG, stU, dstAt, Act.put, h8, h7]
          clear h8 h7
          obtain ⟨-, ⟨hcl, hcu⟩, -⟩ := HALL.out q9 HB9.out
          have h99 : ((A9 : Int) == (A9 : Int)) = true := by simp
          go_wp2_with fail
          refine (known_any HP.out _).mono ?_
          rintro e q10 ⟨rfl, hb⟩
          have HB10 : Hid (Below w8.heap.size w8 q10) := hid (HB9.out.trans (hb.mono HB9.out.size))
          clear hb HB9
          go_wp2_with fail
          go_ret
          exact ⟨rfl, HB_8.out.trans (HB10.out.mono HB_8.out.size)⟩
set_option maxRecDepth 20000 in
set_option maxHeartbeats 16000000 in
theorem finds_leaf (P : PN) (a : Option Addr) (n c : Nat) (es : List Et) (s z : Int) (W : World) (hs : EtS (fun _ => True) W a es) (hn : n = es.length) (hf : ∀ e ∈ es, fitsE e) (hfk : fitsK (s, z)) (hok : okK (s, z) = true) (hchk : chkN true (es.take 18) = 0) :
    Calls Try.prog 5 #[.agg #[.bool true, .slice a n c], .agg #[.int .i64 s, .int .i64 z]] W fun e w' => e = .returned (.bool true) ∧ Bel W w' := by
  have HO := hid hok
  have h := okK_iff.1 hok
  have d0 : decide ((0 : Int) ≤ s) = true := decide_eq_true h.1
  have d1 : decide (s < 16) = true := decide_eq_true h.2.1
  have d2 : decide ((0 : Int) ≤ z) = true := decide_eq_true h.2.2.1
  have d3 : decide (z < 65536) = true := decide_eq_true h.2.2.2
  clear hok h
  have HC0 := hid hchk
  obtain ⟨C, hC⟩ : ∃ C, C = chkN true (es.take 18) := ⟨_, rfl⟩
  have hCz : C = 0 := hC.trans hchk
  subst hCz
  clear hchk
  have hchk := hC
  clear hC
  have HP := hid P
  have HFK := hid hfk
  obtain ⟨xs, hxs⟩ : ∃ xs, xs = es.take 18 := ⟨_, rfl⟩
  have HXL : Hid (xs.length ≤ 18) := hid (by rw [hxs, List.length_take]; omega)
  obtain ⟨g, hg⟩ : ∃ g, g = W.heap.size := ⟨_, rfl⟩
  obtain ⟨w1, hw1⟩ : ∃ y, y = (W.alloc (.cells #[.bool true, .slice a n c] 24)).alloc (.cells #[.int .i64 s, .int .i64 z] 48) := ⟨_, rfl⟩
  have HB_1 : Hid (Below W.heap.size W w1) := hid (by rw [hw1]; exact ((Below.refl _ _).alloc (Nat.le_refl _) _).alloc (by simp) _)
  have p0_1 : Hid (w1.heap[g]? = some (.cells #[.bool true, .slice a n c] 24 (0, 0))) := hid (by rw [hw1, hg]; exact heap_alloc2_old W _ _)
  have pk_1 : Hid (w1.heap[g + 1]? = some (.cells #[.int .i64 s, .int .i64 z] 48 (0, 0))) := hid (by rw [hw1, hg]; exact heap_alloc2_new W _ _)
  have HW := hid hw1
  have HG := hid hg
  have HTO := hid (to_x n c true (hs.below HB_1.out) hn hf)
  rw [← hxs] at HTO hchk HC0
  have HCE := hid hchk
  clear P hxs hs hn hf hw1 hchk hfk hg
  go_enter Try.func5, Try.ntmps5
  go_upto_region 1 with fail
  rw [← HW.out, ← HG.out]
  clear HW
  have hc0p0 : w1.cell? ⟨g, 0, none⟩ = some (.bool true) := by rw [cell_of_row _ _ _ _ _ _ p0_1.out]; rfl
  have hc1p0 : w1.cell? ⟨g, 1, none⟩ = some (.slice a n c) := by rw [cell_of_row _ _ _ _ _ _ p0_1.out]; rfl
  go_wp2_with fail
  clear hc0p0 hc1p0
  refine (HTO.out).mono ?_
  rintro e w2 ⟨⟨a1, n1, c1, rfl, hx⟩, hb⟩
  have p0_2 := hid (row_below p0_1.out hb)
  clear p0_1
  have pk_2 := hid (row_below pk_1.out hb)
  clear pk_1
  have HB_2 : Hid (Below W.heap.size W w2) := hid (HB_1.out.trans ((hb).mono HB_1.out.size))
  clear HB_1
  have HX_2 := hid hx
  clear hx
  clear hb
  clear HTO
  obtain ⟨w3, hw3⟩ : ∃ y, y = w2.alloc (.cells #[.bool true, .slice a1 n1 c1] 27) := ⟨_, rfl⟩
  have hb : Below w2.heap.size w2 w3 := by rw [hw3]; exact allocBelow w2 _
  obtain ⟨gp1, hgp1⟩ : ∃ g, g = w2.heap.size := ⟨_, rfl⟩
  have hr : w3.heap[gp1]? = some (.cells #[.bool true, .slice a1 n1 c1] 27 (0, 0)) := by rw [hw3, hgp1]; exact heap_alloc_new w2 _
  have HW := hid hw3
  have HGG := hid hgp1
  clear hw3 hgp1
  have p0_3 := hid (row_below p0_2.out hb)
  clear p0_2
  have pk_3 := hid (row_below pk_2.out hb)
  clear pk_2
  have HX_3 := hid (HX_2.out.below hb)
  clear HX_2
  have HB_3 : Hid (Below W.heap.size W w3) := hid (HB_2.out.trans ((hb).mono HB_2.out.size))
  clear HB_2
  have p1_3 := hid hr
  clear hr hb
  go_upto_region 2 with fail
  rw [← HW.out, ← HGG.out]
  clear HW HGG
  have hc0p1 : w3.cell? ⟨gp1, 0, none⟩ = some (.bool true) := by rw [cell_of_row _ _ _ _ _ _ p1_3.out]; rfl
  have hc1p1 : w3.cell? ⟨gp1, 1, none⟩ = some (.slice a1 n1 c1) := by rw [cell_of_row _ _ _ _ _ _ p1_3.out]; rfl
  go_wp2_with fail
  clear hc0p1 hc1p1
  refine (of_x true HX_3.out).mono ?_
  rintro e w4 ⟨⟨a2, n2, c2, rfl, hx⟩, hb⟩
  have p0_4 := hid (row_below p0_3.out hb)
  clear p0_3
  have pk_4 := hid (row_below pk_3.out hb)
  clear pk_3
  have HX_4 := hid (HX_3.out.below hb)
  clear HX_3
  have p1_4 := hid (row_below p1_3.out hb)
  clear p1_3
  have HB_4 : Hid (Below W.heap.size W w4) := hid (HB_3.out.trans ((hb).mono HB_3.out.size))
  clear HB_3
  have HY_4 := hid hx
  clear hx
  clear hb
  obtain ⟨w5, hw5⟩ : ∃ y, y = w4.alloc (.cells #[.bool true, .slice a2 n2 c2] 24) := ⟨_, rfl⟩
  have hb : Below w4.heap.size w4 w5 := by rw [hw5]; exact allocBelow w4 _
  obtain ⟨gp2, hgp2⟩ : ∃ g, g = w4.heap.size := ⟨_, rfl⟩
  have hr : w5.heap[gp2]? = some (.cells #[.bool true, .slice a2 n2 c2] 24 (0, 0)) := by rw [hw5, hgp2]; exact heap_alloc_new w4 _
  have HW := hid hw5
  have HGG := hid hgp2
  clear hw5 hgp2
  have p0_5 := hid (row_below p0_4.out hb)
  clear p0_4
  have pk_5 := hid (row_below pk_4.out hb)
  clear pk_4
  have HX_5 := hid (HX_4.out.below hb)
  clear HX_4
  have p1_5 := hid (row_below p1_4.out hb)
  clear p1_4
  have HY_5 := hid (HY_4.out.below hb)
  clear HY_4
  have HB_5 : Hid (Below W.heap.size W w5) := hid (HB_4.out.trans ((hb).mono HB_4.out.size))
  clear HB_4
  have p2_5 := hid hr
  clear hr hb
  go_upto_region 3 with fail
  rw [← HW.out, ← HGG.out]
  clear HW HGG
  have hc0pk : w5.cell? ⟨g + 1, 0, none⟩ = some (.int .i64 s) := by rw [cell_of_row _ _ _ _ _ _ pk_5.out]; rfl
  have hc1pk : w5.cell? ⟨g + 1, 1, none⟩ = some (.int .i64 z) := by rw [cell_of_row _ _ _ _ _ _ pk_5.out]; rfl
  go_wp2_with fail
  refine (key_any s z _).mono ?_
  rintro e w6 ⟨rfl, hb⟩
  have p0_6 := hid (row_below p0_5.out hb)
  clear p0_5
  have pk_6 := hid (row_below pk_5.out hb)
  clear pk_5
  have HX_6 := hid (HX_5.out.below hb)
  clear HX_5
  have p1_6 := hid (row_below p1_5.out hb)
  clear p1_5
  have HY_6 := hid (HY_5.out.below hb)
  clear HY_5
  have p2_6 := hid (row_below p2_5.out hb)
  clear p2_5
  have HB_6 : Hid (Below W.heap.size W w6) := hid (HB_5.out.trans ((hb).mono HB_5.out.size))
  clear HB_5
  clear hb
  clear hc0pk hc1pk
  go_wp2_with fail
  have h := HP.out.nRight s z w6 HFK.out
  rw [HO.out] at h
  have HRI := hid h
  clear h
  refine (HRI.out).mono ?_
  rintro e w7 ⟨rfl, hb⟩
  have p0_7 := hid (row_below p0_6.out hb)
  clear p0_6
  have pk_7 := hid (row_below pk_6.out hb)
  clear pk_6
  have HX_7 := hid (HX_6.out.below hb)
  clear HX_6
  have p1_7 := hid (row_below p1_6.out hb)
  clear p1_6
  have HY_7 := hid (HY_6.out.below hb)
  clear HY_6
  have p2_7 := hid (row_below p2_6.out hb)
  clear p2_6
  have HB_7 : Hid (Below W.heap.size W w7) := hid (HB_6.out.trans ((hb).mono HB_6.out.size))
  clear HB_6
  clear hb
  clear HRI
  have hc0p2 : w7.cell? ⟨gp2, 0, none⟩ = some (.bool true) := by rw [cell_of_row _ _ _ _ _ _ p2_7.out]; rfl
  have hc1p2 : w7.cell? ⟨gp2, 1, none⟩ = some (.slice a2 n2 c2) := by rw [cell_of_row _ _ _ _ _ _ p2_7.out]; rfl
  go_wp2_with fail
  clear hc0p2 hc1p2
  have h := chk_x true HY_7.out
  rw [← HCE.out] at h
  have HCK := hid h
  clear h
  refine (HCK.out).mono ?_
  rintro e w8 ⟨rfl, hb⟩
  have p0_8 := hid (row_below p0_7.out hb)
  clear p0_7
  have pk_8 := hid (row_below pk_7.out hb)
  clear pk_7
  have HX_8 := hid (HX_7.out.below hb)
  clear HX_7
  have p1_8 := hid (row_below p1_7.out hb)
  clear p1_7
  have HY_8 := hid (HY_7.out.below hb)
  clear HY_7
  have p2_8 := hid (row_below p2_7.out hb)
  clear p2_7
  have HB_8 : Hid (Below W.heap.size W w8) := hid (HB_7.out.trans ((hb).mono HB_7.out.size))
  clear HB_7
  clear hb
  clear HCK
  clear p0_8
  have HFA : Hid (fallN xs = false) := hid (chkN_zero HC0.out).2.2.1
  have HOK : Hid (∀ e ∈ xs, okE e = true) := hid (badN_false.1 (chkN_zero HC0.out).2.1)
  obtain ⟨pk, hpk⟩ : ∃ p, p = plK (s, z) := ⟨_, rfl⟩
  have HPK := hid hpk
  have HPL : Hid (∀ y, Calls Try.prog 22 #[.agg #[.int .i64 s, .int .i64 z]] y fun e w' => e = .returned (.int .i64 pk) ∧ Below y.heap.size y w') := hid fun y => by
    rw [HPK.out]; exact place_ok (s, z) y HO.out
  have hn1 : n1 = xs.length := HX_8.out.1
  have hn2 : n2 = xs.length := HY_8.out.1
  have hn12 : n1 = n2 := by omega
  subst hn12
  have HN := hid hn1
  have hn18 : (n1 : Int) ≤ 18 := by have := HXL.out; omega
  have HE1 := hid HX_8.out.2.1
  have HE2 := hid HY_8.out.2.1
  have HXX := hid (fun x (hx : Below w8.heap.size w8 x) => HX_8.out.below hx)
  have HALL : Hid (∀ x, Below w8.heap.size w8 x → (x.cell? ⟨gp1, 0, none⟩ = some (.bool true) ∧ x.cell? ⟨gp1, 1, none⟩ = some (.slice a1 n1 c1)) ∧ (x.cell? ⟨gp2, 0, none⟩ = some (.bool true) ∧ x.cell? ⟨gp2, 1, none⟩ = some (.slice a2 n1 c2)) ∧ x.cell? ⟨g + 1, 0, none⟩ = some (.int .i64 s) ∧ x.cell? ⟨g + 1, 1, none⟩ = some (.int .i64 z)) := hid fun x hx => by
    have h1 := row_below p1_8.out hx
    have h2 := row_below p2_8.out hx
    have h3 := row_below pk_8.out hx
    exact ⟨⟨by rw [cell_of_row _ _ _ _ _ _ h1]; rfl, by rw [cell_of_row _ _ _ _ _ _ h1]; rfl⟩, ⟨by rw [cell_of_row _ _ _ _ _ _ h2]; rfl, by rw [cell_of_row _ _ _ _ _ _ h2]; rfl⟩, by rw [cell_of_row _ _ _ _ _ _ h3]; rfl, by rw [cell_of_row _ _ _ _ _ _ h3]; rfl⟩
  clear hpk hn1 hn2 HX_8 HY_8 p1_8 p2_8 pk_8
  go_wp2_with fail
  go_loopw [8, 9, 10, 11] (fun a8 a9 a10 a11 wr => ∃ (k A8 A9 : Nat) (IS : Bool), k ≤ n1 ∧ a8 = .int .i64 (A8 : Int) ∧ a9 = .int .i64 (A9 : Int) ∧ a10 = .bool IS ∧ a11 = .int .i64 (k : Int) ∧ (A8 = fdTo xs (s, z) k ∧ A9 = lastTo xs (s, z) k ∧ IS = isTo xs (s, z) k) ∧ Below w8.heap.size w8 wr) (fun _ _ _ i _ => n1 - (intOf i).toNat)
  case atStart => exact ⟨0, 0, 0, false, Nat.zero_le _, rfl, rfl, rfl, rfl, ⟨by simp [fdTo], by simp [lastTo], by simp [isTo]⟩, Below.refl _ _⟩
  case round =>
    obtain ⟨k, A8, A9, IS, hk, rfl, rfl, rfl, rfl, hst, hb⟩ := hrel
    have HST := hid hst
    have HB := hid hb
    obtain ⟨⟨-, hcu1⟩, ⟨hcl2, hcu2⟩, hk0, hk1⟩ := HALL.out wr hb
    clear hst hb
    by_cases hlt : (k : Int) < n1
    · skip
      have hkn : (k < n1) = True := eq_true (by omega)
      have HKX : Hid (k < xs.length) := hid (by have := HN.out; omega)
      obtain ⟨b1, o1, rfl, hx1, hx2, -⟩ := (HE1.out.below HB.out).cell (i := k) HKX.out
      obtain ⟨b2, o2, rfl, hy1, hy2, -⟩ := (HE2.out.below HB.out).cell (i := k) HKX.out
      obtain ⟨⟨⟨s1, z1⟩, p1⟩, hx⟩ : ∃ x, x = xs.getD k et0 := ⟨_, rfl⟩
      have HKE := hid hx
      rw [← hx] at hx1 hx2 hy1 hy2
      simp only at hx1 hx2 hy1 hy2
      have HKO : Hid (okK (s1, z1) = true) := hid (by have h := okE_key (HOK.out _ (memGetD (zs := xs) (d := et0) HKX.out)); rw [← hx] at h; exact h)
      obtain ⟨p, hp⟩ : ∃ p, p = plK (s1, z1) := ⟨_, rfl⟩
      have HP1 := hid hp
      have HPE : Hid (∀ y, Calls Try.prog 22 #[.agg #[.int .i64 s1, .int .i64 z1]] y fun e w' => e = .returned (.int .i64 p) ∧ Below y.heap.size y w') := hid fun y => by
        rw [HP1.out]; exact place_ok (s1, z1) y HKO.out
      have hC1 : ∀ x, Below wr.heap.size wr x → x.cell? ⟨b1, o1 + k * 3, none⟩ = some (.int .i64 s1) ∧ x.cell? ⟨b1, o1 + k * 3 + 1, none⟩ = some (.int .i64 z1) := fun x hx => ⟨(hx.cell (cell_lt hx1)).trans hx1, (hx.cell (cell_lt hx2)).trans hx2⟩
      have HC1 := hid hC1
      clear hx hp hx1 hx2 hC1
      go_wp2_with fail
      refine (HPE.out _).mono ?_
      rintro e wq ⟨rfl, hbq⟩
      have HBQ : Hid (Below w8.heap.size w8 wq) := hid (HB.out.trans (hbq.mono HB.out.size))
      have HBQ1 := hid hbq
      have HCY : Hid (∀ x, Grew wq.drew x → (x.cell? ⟨gp1, 1, none⟩ = some (.slice (some ⟨b1, o1, none⟩) n1 c1) ∧ x.cell? ⟨g + 1, 0, none⟩ = some (.int .i64 s) ∧ x.cell? ⟨g + 1, 1, none⟩ = some (.int .i64 z)) ∧ x.cell? ⟨b1, o1 + k * 3, none⟩ = some (.int .i64 s1) ∧ x.cell? ⟨b1, o1 + k * 3 + 1, none⟩ = some (.int .i64 z1)) := hid fun x hx => by
        have h := HALL.out x (HBQ.out.trans ((grewDrew hx).mono HBQ.out.size))
        have h2 := HC1.out x (HBQ1.out.trans ((grewDrew hx).mono HBQ1.out.size))
        exact ⟨⟨h.1.2, h.2.2⟩, h2⟩
      clear hbq hcu1 hcu2 hcl2 hy1 hy2 hk0 hk1 HB
      rcases (show p < pk ∨ p = pk ∨ pk < p by omega) with hc | hc | hc
      · have hd1 : decide (p < pk) = true := decide_eq_true (by omega)
        have hd2 : decide (pk < p) = false := decide_eq_false (by omega)
        have hd3 : decide (p ≤ pk) = true := decide_eq_true (by omega)
        have hd4 : (p == pk) = false := by rw [beq_eq_false_iff_ne]; omega
        have HCC := hid hc
        have HL1 : Hid (∀ y, Calls Try.prog 23 #[.agg #[.int .i64 s1, .int .i64 z1], .agg #[.int .i64 s, .int .i64 z]] y fun e w' => e = .returned (.bool true) ∧ Below y.heap.size y w') := hid fun y => by
          have h := HP.out.nLess s1 z1 s z y HKO.out HO.out
          rw [less_pl HKO.out HO.out, ← HPK.out, ← HP1.out, hd1] at h
          exact h
        have HL2 : Hid (∀ y, Calls Try.prog 23 #[.agg #[.int .i64 s, .int .i64 z], .agg #[.int .i64 s1, .int .i64 z1]] y fun e w' => e = .returned (.bool false) ∧ Below y.heap.size y w') := hid fun y => by
          have h := HP.out.nLess s z s1 z1 y HO.out HKO.out
          rw [less_pl HO.out HKO.out, ← HPK.out, ← HP1.out, hd2] at h
          exact h
        clear hc
        go_upto_region 13 with fail
        refine wp_region_grows 30 [EqN (.pointer (some ⟨gp1, 1, none⟩)), EqN (.slice (some ⟨b1, o1, none⟩) n1 c1), EqN (.int .i64 (k : Int)), EqN (.pointer (some ⟨b1, o1 + k * 3, none⟩)), EqN (.pointer (some ⟨b1, o1 + k * 3, none⟩)), EqN (.agg #[.int .i64 s1, .int .i64 z1]), EqN (.agg #[.int .i64 s, .int .i64 z]), EqN (.agg #[.int .i64 s, .int .i64 z]), EqN (.bool true), EqN (.int .i64 p), EqN (.agg #[.int .i64 s, .int .i64 z]), EqN (.int .i64 pk), EqN (.bool true), EqN (.bool false), EqN (.bool false), EqN (.agg #[.int .i64 s, .int .i64 z]), EqN (.agg #[.int .i64 s, .int .i64 z]), EqN (.pointer (some ⟨gp1, 1, none⟩)), EqN (.slice (some ⟨b1, o1, none⟩) n1 c1), EqN (.int .i64 (k : Int)), EqN (.pointer (some ⟨b1, o1 + k * 3, none⟩)), EqN (.pointer (some ⟨b1, o1 + k * 3, none⟩)), EqN (.agg #[.int .i64 s1, .int .i64 z1]), EqN (.bool false), EqN (.agg #[.int .i64 s, .int .i64 z]), EqN (.int .i64 pk), EqN (.int .i64 p), EqN (.bool false), EqN (.bool false), EqN (.bool false)] (by kernel_rfl) (by decide) (by kernel_rfl) ?_ ?_ ?_
        · repeat' (first | exact List.forall_mem_nil _ | refine List.forall_mem_cons.2 ⟨?_, ?_⟩)
          all_goals
            intro w w' v hw h
            first | exact h | exact h
        · simp only [AllLt]
          refine ⟨⟨⟨⟨⟨⟨⟨⟨⟨⟨⟨⟨⟨⟨⟨⟨⟨⟨⟨⟨⟨⟨⟨⟨⟨⟨⟨⟨⟨⟨trivial, ?_⟩, ?_⟩, ?_⟩, ?_⟩, ?_⟩, ?_⟩, ?_⟩, ?_⟩, ?_⟩, ?_⟩, ?_⟩, ?_⟩, ?_⟩, ?_⟩, ?_⟩, ?_⟩, ?_⟩, ?_⟩, ?_⟩, ?_⟩, ?_⟩, ?_⟩, ?_⟩, ?_⟩, ?_⟩, ?_⟩, ?_⟩, ?_⟩, ?_⟩, ?_⟩
          all_goals
            intro o' ho
            simp at ho
            subst ho
            intro ρ w5 hR hL hS hG
            obtain ⟨hl1, hl2, -⟩ := hL
          · refine plainG rfl ?_
            intro bA K Q' hK
            have e5 := hS 5 (by kernel_rfl)
            change ρ (.tmp 5) = _ at e5
            simp only [execOp]
            go_simp
            exact hK _ _ rfl (Grew.refl _)
          · refine plainG rfl ?_
            intro bA K Q' hK
            have e66 := hG 0 66 (by decide) (by kernel_rfl) (by kernel_rfl)
            change ρ (.tmp 66) = _ at e66
            obtain ⟨⟨y0, y1, y2⟩, y3, y4⟩ := HCY.out w5 hR
            simp only [execOp]
            go_simp
            exact hK _ _ rfl (Grew.refl _)
          · refine plainG rfl ?_
            intro bA K Q' hK
            have e11 := hS 11 (by kernel_rfl)
            change ρ (.tmp 11) = _ at e11
            simp only [execOp]
            go_simp
            exact hK _ _ rfl (Grew.refl _)
          · refine plainG rfl ?_
            intro bA K Q' hK
            have e67 := hG 1 67 (by decide) (by kernel_rfl) (by kernel_rfl)
            have e68 := hG 2 68 (by decide) (by kernel_rfl) (by kernel_rfl)
            change ρ (.tmp 67) = _ at e67
            change ρ (.tmp 68) = _ at e68
            simp only [execOp]
            go_simp
            exact hK _ _ rfl (Grew.refl _)
          · refine plainG rfl ?_
            intro bA K Q' hK
            have e69 := hG 3 69 (by decide) (by kernel_rfl) (by kernel_rfl)
            change ρ (.tmp 69) = _ at e69
            simp only [execOp]
            go_simp
            exact hK _ _ rfl (Grew.refl _)
          · refine plainG rfl ?_
            intro bA K Q' hK
            have e70 := hG 4 70 (by decide) (by kernel_rfl) (by kernel_rfl)
            change ρ (.tmp 70) = _ at e70
            obtain ⟨⟨y0, y1, y2⟩, y3, y4⟩ := HCY.out w5 hR
            simp only [execOp]
            go_simp
            exact hK _ _ rfl (Grew.refl _)
          · refine plainG rfl ?_
            intro bA K Q' hK
            have e3 := hS 3 (by kernel_rfl)
            change ρ (.tmp 3) = _ at e3
            obtain ⟨⟨y0, y1, y2⟩, y3, y4⟩ := HCY.out w5 hR
            simp only [execOp]
            go_simp
            exact hK _ _ rfl (Grew.refl _)
          · refine plainG rfl ?_
            intro bA K Q' hK
            have e72 := hG 6 72 (by decide) (by kernel_rfl) (by kernel_rfl)
            change ρ (.tmp 72) = _ at e72
            simp only [execOp]
            go_simp
            refine (key_any s z w5).mono ?_
            rintro r9 q9 ⟨rfl, hb9⟩
            exact hK _ _ rfl hb9
          · refine plainG rfl ?_
            intro bA K Q' hK
            have e71 := hG 5 71 (by decide) (by kernel_rfl) (by kernel_rfl)
            have e73 := hG 7 73 (by decide) (by kernel_rfl) (by kernel_rfl)
            change ρ (.tmp 71) = _ at e71
            change ρ (.tmp 73) = _ at e73
            simp only [execOp]
            go_simp
            refine (HL1.out w5).mono ?_
            rintro r9 q9 ⟨rfl, hb9⟩
            exact hK _ _ rfl hb9
          · refine plainG rfl ?_
            intro bA K Q' hK
            have e12 := hS 12 (by kernel_rfl)
            change ρ (.tmp 12) = _ at e12
            simp only [execOp]
            go_simp
            exact hK _ _ rfl (Grew.refl _)
          · refine plainG rfl ?_
            intro bA K Q' hK
            have e3 := hS 3 (by kernel_rfl)
            change ρ (.tmp 3) = _ at e3
            obtain ⟨⟨y0, y1, y2⟩, y3, y4⟩ := HCY.out w5 hR
            simp only [execOp]
            go_simp
            exact hK _ _ rfl (Grew.refl _)
          · refine plainG rfl ?_
            intro bA K Q' hK
            have e76 := hG 10 76 (by decide) (by kernel_rfl) (by kernel_rfl)
            change ρ (.tmp 76) = _ at e76
            simp only [execOp]
            go_simp
            refine (HPL.out w5).mono ?_
            rintro r9 q9 ⟨rfl, hb9⟩
            exact hK _ _ rfl hb9
          · refine plainG rfl ?_
            intro bA K Q' hK
            have e75 := hG 9 75 (by decide) (by kernel_rfl) (by kernel_rfl)
            have e77 := hG 11 77 (by decide) (by kernel_rfl) (by kernel_rfl)
            change ρ (.tmp 75) = _ at e75
            change ρ (.tmp 77) = _ at e77
            simp only [execOp]
            go_simp
            exact hK _ _ rfl (Grew.refl _)
          · refine plainG rfl ?_
            intro bA K Q' hK
            have e74 := hG 8 74 (by decide) (by kernel_rfl) (by kernel_rfl)
            have e78 := hG 12 78 (by decide) (by kernel_rfl) (by kernel_rfl)
            change ρ (.tmp 74) = _ at e74
            change ρ (.tmp 78) = _ at e78
            simp only [execOp]
            go_simp
            exact hK _ _ rfl (Grew.refl _)
          · refine plainG rfl ?_
            intro bA K Q' hK
            have e79 := hG 13 79 (by decide) (by kernel_rfl) (by kernel_rfl)
            change ρ (.tmp 79) = _ at e79
            simp only [execOp]
            go_simp
            exact hK _ _ rfl (Grew.refl _)
          · have eG : ρ (.tmp 80) = _ := hG 14 80 (by decide) (by kernel_rfl) (by kernel_rfl)
            refine onG rfl (by kernel_rfl) eG ?_
            intro bA K Q' hK
            have e3 := hS 3 (by kernel_rfl)
            change ρ (.tmp 3) = _ at e3
            obtain ⟨⟨y0, y1, y2⟩, y3, y4⟩ := HCY.out w5 hR
            simp only [execOp]
            go_simp
            exact hK _ _ rfl (Grew.refl _)
          · have eG : ρ (.tmp 80) = _ := hG 14 80 (by decide) (by kernel_rfl) (by kernel_rfl)
            refine onG rfl (by kernel_rfl) eG ?_
            intro bA K Q' hK
            have e81 := hG 15 81 (by decide) (by kernel_rfl) (by kernel_rfl)
            change ρ (.tmp 81) = _ at e81
            simp only [execOp]
            go_simp
            refine (key_any s z w5).mono ?_
            rintro r9 q9 ⟨rfl, hb9⟩
            exact hK _ _ rfl hb9
          · have eG : ρ (.tmp 80) = _ := hG 14 80 (by decide) (by kernel_rfl) (by kernel_rfl)
            refine onG rfl (by kernel_rfl) eG ?_
            intro bA K Q' hK
            have e5 := hS 5 (by kernel_rfl)
            change ρ (.tmp 5) = _ at e5
            simp only [execOp]
            go_simp
            exact hK _ _ rfl (Grew.refl _)
          · have eG : ρ (.tmp 80) = _ := hG 14 80 (by decide) (by kernel_rfl) (by kernel_rfl)
            refine onG rfl (by kernel_rfl) eG ?_
            intro bA K Q' hK
            have e83 := hG 17 83 (by decide) (by kernel_rfl) (by kernel_rfl)
            change ρ (.tmp 83) = _ at e83
            obtain ⟨⟨y0, y1, y2⟩, y3, y4⟩ := HCY.out w5 hR
            simp only [execOp]
            go_simp
            exact hK _ _ rfl (Grew.refl _)
          · have eG : ρ (.tmp 80) = _ := hG 14 80 (by decide) (by kernel_rfl) (by kernel_rfl)
            refine onG rfl (by kernel_rfl) eG ?_
            intro bA K Q' hK
            have e11 := hS 11 (by kernel_rfl)
            change ρ (.tmp 11) = _ at e11
            simp only [execOp]
            go_simp
            exact hK _ _ rfl (Grew.refl _)
          · have eG : ρ (.tmp 80) = _ := hG 14 80 (by decide) (by kernel_rfl) (by kernel_rfl)
            refine onG rfl (by kernel_rfl) eG ?_
            intro bA K Q' hK
            have e84 := hG 18 84 (by decide) (by kernel_rfl) (by kernel_rfl)
            have e85 := hG 19 85 (by decide) (by kernel_rfl) (by kernel_rfl)
            change ρ (.tmp 84) = _ at e84
            change ρ (.tmp 85) = _ at e85
            simp only [execOp]
            go_simp
            exact hK _ _ rfl (Grew.refl _)
          · have eG : ρ (.tmp 80) = _ := hG 14 80 (by decide) (by kernel_rfl) (by kernel_rfl)
            refine onG rfl (by kernel_rfl) eG ?_
            intro bA K Q' hK
            have e86 := hG 20 86 (by decide) (by kernel_rfl) (by kernel_rfl)
            change ρ (.tmp 86) = _ at e86
            simp only [execOp]
            go_simp
            exact hK _ _ rfl (Grew.refl _)
          · have eG : ρ (.tmp 80) = _ := hG 14 80 (by decide) (by kernel_rfl) (by kernel_rfl)
            refine onG rfl (by kernel_rfl) eG ?_
            intro bA K Q' hK
            have e87 := hG 21 87 (by decide) (by kernel_rfl) (by kernel_rfl)
            change ρ (.tmp 87) = _ at e87
            obtain ⟨⟨y0, y1, y2⟩, y3, y4⟩ := HCY.out w5 hR
            simp only [execOp]
            go_simp
            exact hK _ _ rfl (Grew.refl _)
          · have eG : ρ (.tmp 80) = _ := hG 14 80 (by decide) (by kernel_rfl) (by kernel_rfl)
            refine onG rfl (by kernel_rfl) eG ?_
            intro bA K Q' hK
            have e82 := hG 16 82 (by decide) (by kernel_rfl) (by kernel_rfl)
            have e88 := hG 22 88 (by decide) (by kernel_rfl) (by kernel_rfl)
            change ρ (.tmp 82) = _ at e82
            change ρ (.tmp 88) = _ at e88
            simp only [execOp]
            go_simp
            refine (HL2.out w5).mono ?_
            rintro r9 q9 ⟨rfl, hb9⟩
            exact hK _ _ rfl hb9
          · have eG : ρ (.tmp 80) = _ := hG 14 80 (by decide) (by kernel_rfl) (by kernel_rfl)
            refine onG rfl (by kernel_rfl) eG ?_
            intro bA K Q' hK
            have e3 := hS 3 (by kernel_rfl)
            change ρ (.tmp 3) = _ at e3
            obtain ⟨⟨y0, y1, y2⟩, y3, y4⟩ := HCY.out w5 hR
            simp only [execOp]
            go_simp
            exact hK _ _ rfl (Grew.refl _)
          · have eG : ρ (.tmp 80) = _ := hG 14 80 (by decide) (by kernel_rfl) (by kernel_rfl)
            refine onG rfl (by kernel_rfl) eG ?_
            intro bA K Q' hK
            have e90 := hG 24 90 (by decide) (by kernel_rfl) (by kernel_rfl)
            change ρ (.tmp 90) = _ at e90
            simp only [execOp]
            go_simp
            refine (HPL.out w5).mono ?_
            rintro r9 q9 ⟨rfl, hb9⟩
            exact hK _ _ rfl hb9
          · have eG : ρ (.tmp 80) = _ := hG 14 80 (by decide) (by kernel_rfl) (by kernel_rfl)
            refine onG rfl (by kernel_rfl) eG ?_
            intro bA K Q' hK
            have e12 := hS 12 (by kernel_rfl)
            change ρ (.tmp 12) = _ at e12
            simp only [execOp]
            go_simp
            exact hK _ _ rfl (Grew.refl _)
          · have eG : ρ (.tmp 80) = _ := hG 14 80 (by decide) (by kernel_rfl) (by kernel_rfl)
            refine onG rfl (by kernel_rfl) eG ?_
            intro bA K Q' hK
            have e91 := hG 25 91 (by decide) (by kernel_rfl) (by kernel_rfl)
            have e92 := hG 26 92 (by decide) (by kernel_rfl) (by kernel_rfl)
            change ρ (.tmp 91) = _ at e91
            change ρ (.tmp 92) = _ at e92
            simp only [execOp]
            go_simp
            exact hK _ _ rfl (Grew.refl _)
          · have eG : ρ (.tmp 80) = _ := hG 14 80 (by decide) (by kernel_rfl) (by kernel_rfl)
            refine onG rfl (by kernel_rfl) eG ?_
            intro bA K Q' hK
            have e89 := hG 23 89 (by decide) (by kernel_rfl) (by kernel_rfl)
            have e93 := hG 27 93 (by decide) (by kernel_rfl) (by kernel_rfl)
            change ρ (.tmp 89) = _ at e89
            change ρ (.tmp 93) = _ at e93
            simp only [execOp]
            go_simp
            exact hK _ _ rfl (Grew.refl _)
          · refine plainG rfl ?_
            intro bA K Q' hK
            have e80 := hG 14 80 (by decide) (by kernel_rfl) (by kernel_rfl)
            have e94 := hG 28 94 (by decide) (by kernel_rfl) (by kernel_rfl)
            change ρ (.tmp 80) = _ at e80
            change ρ (.tmp 94) = _ at e94
            simp only [execOp]
            go_simp
            exact hK _ _ rfl (Grew.refl _)
        · skip
          intro vv q8 hR hG
          have h9 : vv 29 = .bool false := hG.2
          have hb := grewDrew hR
          have HB8 : Hid (Below w8.heap.size w8 q8) := hid (HBQ.out.trans (hb.mono HBQ.out.size))
          clear hG hR HCY hb HBQ HBQ1 HC1
          simp [stG, stU, dstAt, Act.put, h9]
          clear h9
          obtain ⟨-, -, hk0, hk1⟩ := HALL.out q8 HB8.out
          go_wp2_with fail
          refine (HPL.out _).mono ?_
          rintro e q9 ⟨rfl, hb⟩
          have HB9 : Hid (Below w8.heap.size w8 q9) := hid (HB8.out.trans (hb.mono HB8.out.size))
          clear hb HB8 hk0 hk1
          obtain ⟨-, -, hk0, hk1⟩ := HALL.out q9 HB9.out
          go_wp2_with fail
          refine (HPL.out _).mono ?_
          rintro e q10 ⟨rfl, hb⟩
          have HB10 : Hid (Below w8.heap.size w8 q10) := hid (HB9.out.trans (hb.mono HB9.out.size))
          clear hb HB9 hk0 hk1
          obtain ⟨-, -, hk0, hk1⟩ := HALL.out q10 HB10.out
          cases IS
          · skip
            go_wp2_with fail
            refine (HPL.out _).mono ?_
            rintro e q11 ⟨rfl, hb⟩
            have HB11 : Hid (Below w8.heap.size w8 q11) := hid (HB10.out.trans (hb.mono HB10.out.size))
            clear hb HB10 hk0 hk1
            go_wp2_with fail
            have hF := fd_next (k := (s, z)) HFA.out HKX.out
            have hL := last_next (k := (s, z)) HFA.out HOK.out HO.out HKX.out
            have hI := isTo_next (k := (s, z)) HKX.out
            have HCP : plK (s1, z1) < plK (s, z) := by rw [← HP1.out, ← HPK.out]; exact HCC.out
            rw [← HKE.out, ← HST.out.1] at hF
            rw [← HKE.out, ← HST.out.2.1] at hL
            rw [← HKE.out, ← HST.out.2.2] at hI
            simp only at hF hL hI
            rw [if_pos HCP] at hF
            rw [if_pos (by omega)] at hL
            have hI2 : isTo xs (s, z) (k + 1) = false := by
              rw [hI]
              rw [decide_eq_false (by intro e; rw [e] at HCP; omega)]; rfl
            have HNX := hid (And.intro hF.symm (And.intro hL.symm hI2.symm))
            clear hF hL hI hI2 HCP
            go_roundw
            case rel => exact ⟨k + 1, k + 1, k, false, by have := HKX.out; have := HN.out; omega, by go_num, rfl, rfl, by go_num, HNX.out, HB11.out⟩
            case measure => have := HKX.out; have := HN.out; simp [intOf]; omega
          · skip
            go_wp2_with fail
            have hF := fd_next (k := (s, z)) HFA.out HKX.out
            have hL := last_next (k := (s, z)) HFA.out HOK.out HO.out HKX.out
            have hI := isTo_next (k := (s, z)) HKX.out
            have HCP : plK (s1, z1) < plK (s, z) := by rw [← HP1.out, ← HPK.out]; exact HCC.out
            rw [← HKE.out, ← HST.out.1] at hF
            rw [← HKE.out, ← HST.out.2.1] at hL
            rw [← HKE.out, ← HST.out.2.2] at hI
            simp only at hF hL hI
            rw [if_pos HCP] at hF
            rw [if_pos (by omega)] at hL
            have hI2 : isTo xs (s, z) (k + 1) = true := by
              rw [hI]
              rfl
            have HNX := hid (And.intro hF.symm (And.intro hL.symm hI2.symm))
            clear hF hL hI hI2 HCP
            go_roundw
            case rel => exact ⟨k + 1, k + 1, k, true, by have := HKX.out; have := HN.out; omega, by go_num, rfl, rfl, by go_num, HNX.out, HB10.out⟩
            case measure => have := HKX.out; have := HN.out; simp [intOf]; omega
      · have hd1 : decide (p < pk) = false := decide_eq_false (by omega)
        have hd2 : decide (pk < p) = false := decide_eq_false (by omega)
        have hd3 : decide (p ≤ pk) = true := decide_eq_true (by omega)
        have hd4 : (p == pk) = true := by rw [beq_iff_eq]; exact hc
        have HCC := hid hc
        have HL1 : Hid (∀ y, Calls Try.prog 23 #[.agg #[.int .i64 s1, .int .i64 z1], .agg #[.int .i64 s, .int .i64 z]] y fun e w' => e = .returned (.bool false) ∧ Below y.heap.size y w') := hid fun y => by
          have h := HP.out.nLess s1 z1 s z y HKO.out HO.out
          rw [less_pl HKO.out HO.out, ← HPK.out, ← HP1.out, hd1] at h
          exact h
        have HL2 : Hid (∀ y, Calls Try.prog 23 #[.agg #[.int .i64 s, .int .i64 z], .agg #[.int .i64 s1, .int .i64 z1]] y fun e w' => e = .returned (.bool false) ∧ Below y.heap.size y w') := hid fun y => by
          have h := HP.out.nLess s z s1 z1 y HO.out HKO.out
          rw [less_pl HO.out HKO.out, ← HPK.out, ← HP1.out, hd2] at h
          exact h
        clear hc
        go_upto_region 13 with fail
        refine wp_region_grows 30 [EqN (.pointer (some ⟨gp1, 1, none⟩)), EqN (.slice (some ⟨b1, o1, none⟩) n1 c1), EqN (.int .i64 (k : Int)), EqN (.pointer (some ⟨b1, o1 + k * 3, none⟩)), EqN (.pointer (some ⟨b1, o1 + k * 3, none⟩)), EqN (.agg #[.int .i64 s1, .int .i64 z1]), EqN (.agg #[.int .i64 s, .int .i64 z]), EqN (.agg #[.int .i64 s, .int .i64 z]), EqN (.bool false), EqN (.int .i64 p), EqN (.agg #[.int .i64 s, .int .i64 z]), EqN (.int .i64 pk), EqN (.bool false), EqN (.bool false), EqN (.bool false), EqN (.agg #[.int .i64 s, .int .i64 z]), EqN (.agg #[.int .i64 s, .int .i64 z]), EqN (.pointer (some ⟨gp1, 1, none⟩)), EqN (.slice (some ⟨b1, o1, none⟩) n1 c1), EqN (.int .i64 (k : Int)), EqN (.pointer (some ⟨b1, o1 + k * 3, none⟩)), EqN (.pointer (some ⟨b1, o1 + k * 3, none⟩)), EqN (.agg #[.int .i64 s1, .int .i64 z1]), EqN (.bool false), EqN (.agg #[.int .i64 s, .int .i64 z]), EqN (.int .i64 pk), EqN (.int .i64 p), EqN (.bool false), EqN (.bool false), EqN (.bool false)] (by kernel_rfl) (by decide) (by kernel_rfl) ?_ ?_ ?_
        · repeat' (first | exact List.forall_mem_nil _ | refine List.forall_mem_cons.2 ⟨?_, ?_⟩)
          all_goals
            intro w w' v hw h
            first | exact h | exact h
        · simp only [AllLt]
          refine ⟨⟨⟨⟨⟨⟨⟨⟨⟨⟨⟨⟨⟨⟨⟨⟨⟨⟨⟨⟨⟨⟨⟨⟨⟨⟨⟨⟨⟨⟨trivial, ?_⟩, ?_⟩, ?_⟩, ?_⟩, ?_⟩, ?_⟩, ?_⟩, ?_⟩, ?_⟩, ?_⟩, ?_⟩, ?_⟩, ?_⟩, ?_⟩, ?_⟩, ?_⟩, ?_⟩, ?_⟩, ?_⟩, ?_⟩, ?_⟩, ?_⟩, ?_⟩, ?_⟩, ?_⟩, ?_⟩, ?_⟩, ?_⟩, ?_⟩, ?_⟩
          all_goals
            intro o' ho
            simp at ho
            subst ho
            intro ρ w5 hR hL hS hG
            obtain ⟨hl1, hl2, -⟩ := hL
          · refine plainG rfl ?_
            intro bA K Q' hK
            have e5 := hS 5 (by kernel_rfl)
            change ρ (.tmp 5) = _ at e5
            simp only [execOp]
            go_simp
            exact hK _ _ rfl (Grew.refl _)
          · refine plainG rfl ?_
            intro bA K Q' hK
            have e66 := hG 0 66 (by decide) (by kernel_rfl) (by kernel_rfl)
            change ρ (.tmp 66) = _ at e66
            obtain ⟨⟨y0, y1, y2⟩, y3, y4⟩ := HCY.out w5 hR
            simp only [execOp]
            go_simp
            exact hK _ _ rfl (Grew.refl _)
          · refine plainG rfl ?_
            intro bA K Q' hK
            have e11 := hS 11 (by kernel_rfl)
            change ρ (.tmp 11) = _ at e11
            simp only [execOp]
            go_simp
            exact hK _ _ rfl (Grew.refl _)
          · refine plainG rfl ?_
            intro bA K Q' hK
            have e67 := hG 1 67 (by decide) (by kernel_rfl) (by kernel_rfl)
            have e68 := hG 2 68 (by decide) (by kernel_rfl) (by kernel_rfl)
            change ρ (.tmp 67) = _ at e67
            change ρ (.tmp 68) = _ at e68
            simp only [execOp]
            go_simp
            exact hK _ _ rfl (Grew.refl _)
          · refine plainG rfl ?_
            intro bA K Q' hK
            have e69 := hG 3 69 (by decide) (by kernel_rfl) (by kernel_rfl)
            change ρ (.tmp 69) = _ at e69
            simp only [execOp]
            go_simp
            exact hK _ _ rfl (Grew.refl _)
          · refine plainG rfl ?_
            intro bA K Q' hK
            have e70 := hG 4 70 (by decide) (by kernel_rfl) (by kernel_rfl)
            change ρ (.tmp 70) = _ at e70
            obtain ⟨⟨y0, y1, y2⟩, y3, y4⟩ := HCY.out w5 hR
            simp only [execOp]
            go_simp
            exact hK _ _ rfl (Grew.refl _)
          · refine plainG rfl ?_
            intro bA K Q' hK
            have e3 := hS 3 (by kernel_rfl)
            change ρ (.tmp 3) = _ at e3
            obtain ⟨⟨y0, y1, y2⟩, y3, y4⟩ := HCY.out w5 hR
            simp only [execOp]
            go_simp
            exact hK _ _ rfl (Grew.refl _)
          · refine plainG rfl ?_
            intro bA K Q' hK
            have e72 := hG 6 72 (by decide) (by kernel_rfl) (by kernel_rfl)
            change ρ (.tmp 72) = _ at e72
            simp only [execOp]
            go_simp
            refine (key_any s z w5).mono ?_
            rintro r9 q9 ⟨rfl, hb9⟩
            exact hK _ _ rfl hb9
          · refine plainG rfl ?_
            intro bA K Q' hK
            have e71 := hG 5 71 (by decide) (by kernel_rfl) (by kernel_rfl)
            have e73 := hG 7 73 (by decide) (by kernel_rfl) (by kernel_rfl)
            change ρ (.tmp 71) = _ at e71
            change ρ (.tmp 73) = _ at e73
            simp only [execOp]
            go_simp
            refine (HL1.out w5).mono ?_
            rintro r9 q9 ⟨rfl, hb9⟩
            exact hK _ _ rfl hb9
          · refine plainG rfl ?_
            intro bA K Q' hK
            have e12 := hS 12 (by kernel_rfl)
            change ρ (.tmp 12) = _ at e12
            simp only [execOp]
            go_simp
            exact hK _ _ rfl (Grew.refl _)
          · refine plainG rfl ?_
            intro bA K Q' hK
            have e3 := hS 3 (by kernel_rfl)
            change ρ (.tmp 3) = _ at e3
            obtain ⟨⟨y0, y1, y2⟩, y3, y4⟩ := HCY.out w5 hR
            simp only [execOp]
            go_simp
            exact hK _ _ rfl (Grew.refl _)
          · refine plainG rfl ?_
            intro bA K Q' hK
            have e76 := hG 10 76 (by decide) (by kernel_rfl) (by kernel_rfl)
            change ρ (.tmp 76) = _ at e76
            simp only [execOp]
            go_simp
            refine (HPL.out w5).mono ?_
            rintro r9 q9 ⟨rfl, hb9⟩
            exact hK _ _ rfl hb9
          · refine plainG rfl ?_
            intro bA K Q' hK
            have e75 := hG 9 75 (by decide) (by kernel_rfl) (by kernel_rfl)
            have e77 := hG 11 77 (by decide) (by kernel_rfl) (by kernel_rfl)
            change ρ (.tmp 75) = _ at e75
            change ρ (.tmp 77) = _ at e77
            simp only [execOp]
            go_simp
            exact hK _ _ rfl (Grew.refl _)
          · refine plainG rfl ?_
            intro bA K Q' hK
            have e74 := hG 8 74 (by decide) (by kernel_rfl) (by kernel_rfl)
            have e78 := hG 12 78 (by decide) (by kernel_rfl) (by kernel_rfl)
            change ρ (.tmp 74) = _ at e74
            change ρ (.tmp 78) = _ at e78
            simp only [execOp]
            go_simp
            exact hK _ _ rfl (Grew.refl _)
          · refine plainG rfl ?_
            intro bA K Q' hK
            have e79 := hG 13 79 (by decide) (by kernel_rfl) (by kernel_rfl)
            change ρ (.tmp 79) = _ at e79
            simp only [execOp]
            go_simp
            exact hK _ _ rfl (Grew.refl _)
          · have eG : ρ (.tmp 80) = _ := hG 14 80 (by decide) (by kernel_rfl) (by kernel_rfl)
            refine onG rfl (by kernel_rfl) eG ?_
            intro bA K Q' hK
            have e3 := hS 3 (by kernel_rfl)
            change ρ (.tmp 3) = _ at e3
            obtain ⟨⟨y0, y1, y2⟩, y3, y4⟩ := HCY.out w5 hR
            simp only [execOp]
            go_simp
            exact hK _ _ rfl (Grew.refl _)
          · have eG : ρ (.tmp 80) = _ := hG 14 80 (by decide) (by kernel_rfl) (by kernel_rfl)
            refine onG rfl (by kernel_rfl) eG ?_
            intro bA K Q' hK
            have e81 := hG 15 81 (by decide) (by kernel_rfl) (by kernel_rfl)
            change ρ (.tmp 81) = _ at e81
            simp only [execOp]
            go_simp
            refine (key_any s z w5).mono ?_
            rintro r9 q9 ⟨rfl, hb9⟩
            exact hK _ _ rfl hb9
          · have eG : ρ (.tmp 80) = _ := hG 14 80 (by decide) (by kernel_rfl) (by kernel_rfl)
            refine onG rfl (by kernel_rfl) eG ?_
            intro bA K Q' hK
            have e5 := hS 5 (by kernel_rfl)
            change ρ (.tmp 5) = _ at e5
            simp only [execOp]
            go_simp
            exact hK _ _ rfl (Grew.refl _)
          · have eG : ρ (.tmp 80) = _ := hG 14 80 (by decide) (by kernel_rfl) (by kernel_rfl)
            refine onG rfl (by kernel_rfl) eG ?_
            intro bA K Q' hK
            have e83 := hG 17 83 (by decide) (by kernel_rfl) (by kernel_rfl)
            change ρ (.tmp 83) = _ at e83
            obtain ⟨⟨y0, y1, y2⟩, y3, y4⟩ := HCY.out w5 hR
            simp only [execOp]
            go_simp
            exact hK _ _ rfl (Grew.refl _)
          · have eG : ρ (.tmp 80) = _ := hG 14 80 (by decide) (by kernel_rfl) (by kernel_rfl)
            refine onG rfl (by kernel_rfl) eG ?_
            intro bA K Q' hK
            have e11 := hS 11 (by kernel_rfl)
            change ρ (.tmp 11) = _ at e11
            simp only [execOp]
            go_simp
            exact hK _ _ rfl (Grew.refl _)
          · have eG : ρ (.tmp 80) = _ := hG 14 80 (by decide) (by kernel_rfl) (by kernel_rfl)
            refine onG rfl (by kernel_rfl) eG ?_
            intro bA K Q' hK
            have e84 := hG 18 84 (by decide) (by kernel_rfl) (by kernel_rfl)
            have e85 := hG 19 85 (by decide) (by kernel_rfl) (by kernel_rfl)
            change ρ (.tmp 84) = _ at e84
            change ρ (.tmp 85) = _ at e85
            simp only [execOp]
            go_simp
            exact hK _ _ rfl (Grew.refl _)
          · have eG : ρ (.tmp 80) = _ := hG 14 80 (by decide) (by kernel_rfl) (by kernel_rfl)
            refine onG rfl (by kernel_rfl) eG ?_
            intro bA K Q' hK
            have e86 := hG 20 86 (by decide) (by kernel_rfl) (by kernel_rfl)
            change ρ (.tmp 86) = _ at e86
            simp only [execOp]
            go_simp
            exact hK _ _ rfl (Grew.refl _)
          · have eG : ρ (.tmp 80) = _ := hG 14 80 (by decide) (by kernel_rfl) (by kernel_rfl)
            refine onG rfl (by kernel_rfl) eG ?_
            intro bA K Q' hK
            have e87 := hG 21 87 (by decide) (by kernel_rfl) (by kernel_rfl)
            change ρ (.tmp 87) = _ at e87
            obtain ⟨⟨y0, y1, y2⟩, y3, y4⟩ := HCY.out w5 hR
            simp only [execOp]
            go_simp
            exact hK _ _ rfl (Grew.refl _)
          · have eG : ρ (.tmp 80) = _ := hG 14 80 (by decide) (by kernel_rfl) (by kernel_rfl)
            refine onG rfl (by kernel_rfl) eG ?_
            intro bA K Q' hK
            have e82 := hG 16 82 (by decide) (by kernel_rfl) (by kernel_rfl)
            have e88 := hG 22 88 (by decide) (by kernel_rfl) (by kernel_rfl)
            change ρ (.tmp 82) = _ at e82
            change ρ (.tmp 88) = _ at e88
            simp only [execOp]
            go_simp
            refine (HL2.out w5).mono ?_
            rintro r9 q9 ⟨rfl, hb9⟩
            exact hK _ _ rfl hb9
          · have eG : ρ (.tmp 80) = _ := hG 14 80 (by decide) (by kernel_rfl) (by kernel_rfl)
            refine onG rfl (by kernel_rfl) eG ?_
            intro bA K Q' hK
            have e3 := hS 3 (by kernel_rfl)
            change ρ (.tmp 3) = _ at e3
            obtain ⟨⟨y0, y1, y2⟩, y3, y4⟩ := HCY.out w5 hR
            simp only [execOp]
            go_simp
            exact hK _ _ rfl (Grew.refl _)
          · have eG : ρ (.tmp 80) = _ := hG 14 80 (by decide) (by kernel_rfl) (by kernel_rfl)
            refine onG rfl (by kernel_rfl) eG ?_
            intro bA K Q' hK
            have e90 := hG 24 90 (by decide) (by kernel_rfl) (by kernel_rfl)
            change ρ (.tmp 90) = _ at e90
            simp only [execOp]
            go_simp
            refine (HPL.out w5).mono ?_
            rintro r9 q9 ⟨rfl, hb9⟩
            exact hK _ _ rfl hb9
          · have eG : ρ (.tmp 80) = _ := hG 14 80 (by decide) (by kernel_rfl) (by kernel_rfl)
            refine onG rfl (by kernel_rfl) eG ?_
            intro bA K Q' hK
            have e12 := hS 12 (by kernel_rfl)
            change ρ (.tmp 12) = _ at e12
            simp only [execOp]
            go_simp
            exact hK _ _ rfl (Grew.refl _)
          · have eG : ρ (.tmp 80) = _ := hG 14 80 (by decide) (by kernel_rfl) (by kernel_rfl)
            refine onG rfl (by kernel_rfl) eG ?_
            intro bA K Q' hK
            have e91 := hG 25 91 (by decide) (by kernel_rfl) (by kernel_rfl)
            have e92 := hG 26 92 (by decide) (by kernel_rfl) (by kernel_rfl)
            change ρ (.tmp 91) = _ at e91
            change ρ (.tmp 92) = _ at e92
            simp only [execOp]
            go_simp
            exact hK _ _ rfl (Grew.refl _)
          · have eG : ρ (.tmp 80) = _ := hG 14 80 (by decide) (by kernel_rfl) (by kernel_rfl)
            refine onG rfl (by kernel_rfl) eG ?_
            intro bA K Q' hK
            have e89 := hG 23 89 (by decide) (by kernel_rfl) (by kernel_rfl)
            have e93 := hG 27 93 (by decide) (by kernel_rfl) (by kernel_rfl)
            change ρ (.tmp 89) = _ at e89
            change ρ (.tmp 93) = _ at e93
            simp only [execOp]
            go_simp
            exact hK _ _ rfl (Grew.refl _)
          · refine plainG rfl ?_
            intro bA K Q' hK
            have e80 := hG 14 80 (by decide) (by kernel_rfl) (by kernel_rfl)
            have e94 := hG 28 94 (by decide) (by kernel_rfl) (by kernel_rfl)
            change ρ (.tmp 80) = _ at e80
            change ρ (.tmp 94) = _ at e94
            simp only [execOp]
            go_simp
            exact hK _ _ rfl (Grew.refl _)
        · skip
          intro vv q8 hR hG
          have h9 : vv 29 = .bool false := hG.2
          have hb := grewDrew hR
          have HB8 : Hid (Below w8.heap.size w8 q8) := hid (HBQ.out.trans (hb.mono HBQ.out.size))
          clear hG hR HCY hb HBQ HBQ1 HC1
          simp [stG, stU, dstAt, Act.put, h9]
          clear h9
          obtain ⟨-, -, hk0, hk1⟩ := HALL.out q8 HB8.out
          go_wp2_with fail
          refine (HPL.out _).mono ?_
          rintro e q9 ⟨rfl, hb⟩
          have HB9 : Hid (Below w8.heap.size w8 q9) := hid (HB8.out.trans (hb.mono HB8.out.size))
          clear hb HB8 hk0 hk1
          obtain ⟨-, -, hk0, hk1⟩ := HALL.out q9 HB9.out
          go_wp2_with fail
          refine (HPL.out _).mono ?_
          rintro e q10 ⟨rfl, hb⟩
          have HB10 : Hid (Below w8.heap.size w8 q10) := hid (HB9.out.trans (hb.mono HB9.out.size))
          clear hb HB9 hk0 hk1
          obtain ⟨-, -, hk0, hk1⟩ := HALL.out q10 HB10.out
          cases IS
          · skip
            go_wp2_with fail
            refine (HPL.out _).mono ?_
            rintro e q11 ⟨rfl, hb⟩
            have HB11 : Hid (Below w8.heap.size w8 q11) := hid (HB10.out.trans (hb.mono HB10.out.size))
            clear hb HB10 hk0 hk1
            go_wp2_with fail
            have hF := fd_next (k := (s, z)) HFA.out HKX.out
            have hL := last_next (k := (s, z)) HFA.out HOK.out HO.out HKX.out
            have hI := isTo_next (k := (s, z)) HKX.out
            have HCP : plK (s1, z1) = plK (s, z) := by rw [← HP1.out, ← HPK.out]; exact HCC.out
            rw [← HKE.out, ← HST.out.1] at hF
            rw [← HKE.out, ← HST.out.2.1] at hL
            rw [← HKE.out, ← HST.out.2.2] at hI
            simp only at hF hL hI
            rw [if_neg (by omega)] at hF
            rw [if_pos (by omega)] at hL
            have hI2 : isTo xs (s, z) (k + 1) = true := by
              rw [hI]
              rw [pl_inj HKO.out HO.out HCP]; simp
            have HNX := hid (And.intro hF.symm (And.intro hL.symm hI2.symm))
            clear hF hL hI hI2 HCP
            go_roundw
            case rel => exact ⟨k + 1, A8, k, true, by have := HKX.out; have := HN.out; omega, by go_num, rfl, rfl, by go_num, HNX.out, HB11.out⟩
            case measure => have := HKX.out; have := HN.out; simp [intOf]; omega
          · skip
            go_wp2_with fail
            have hF := fd_next (k := (s, z)) HFA.out HKX.out
            have hL := last_next (k := (s, z)) HFA.out HOK.out HO.out HKX.out
            have hI := isTo_next (k := (s, z)) HKX.out
            have HCP : plK (s1, z1) = plK (s, z) := by rw [← HP1.out, ← HPK.out]; exact HCC.out
            rw [← HKE.out, ← HST.out.1] at hF
            rw [← HKE.out, ← HST.out.2.1] at hL
            rw [← HKE.out, ← HST.out.2.2] at hI
            simp only at hF hL hI
            rw [if_neg (by omega)] at hF
            rw [if_pos (by omega)] at hL
            have hI2 : isTo xs (s, z) (k + 1) = true := by
              rw [hI]
              rfl
            have HNX := hid (And.intro hF.symm (And.intro hL.symm hI2.symm))
            clear hF hL hI hI2 HCP
            go_roundw
            case rel => exact ⟨k + 1, A8, k, true, by have := HKX.out; have := HN.out; omega, by go_num, rfl, rfl, by go_num, HNX.out, HB10.out⟩
            case measure => have := HKX.out; have := HN.out; simp [intOf]; omega
      · have hd1 : decide (p < pk) = false := decide_eq_false (by omega)
        have hd2 : decide (pk < p) = true := decide_eq_true (by omega)
        have hd3 : decide (p ≤ pk) = false := decide_eq_false (by omega)
        have hd4 : (p == pk) = false := by rw [beq_eq_false_iff_ne]; omega
        have HCC := hid hc
        have HL1 : Hid (∀ y, Calls Try.prog 23 #[.agg #[.int .i64 s1, .int .i64 z1], .agg #[.int .i64 s, .int .i64 z]] y fun e w' => e = .returned (.bool false) ∧ Below y.heap.size y w') := hid fun y => by
          have h := HP.out.nLess s1 z1 s z y HKO.out HO.out
          rw [less_pl HKO.out HO.out, ← HPK.out, ← HP1.out, hd1] at h
          exact h
        have HL2 : Hid (∀ y, Calls Try.prog 23 #[.agg #[.int .i64 s, .int .i64 z], .agg #[.int .i64 s1, .int .i64 z1]] y fun e w' => e = .returned (.bool true) ∧ Below y.heap.size y w') := hid fun y => by
          have h := HP.out.nLess s z s1 z1 y HO.out HKO.out
          rw [less_pl HO.out HKO.out, ← HPK.out, ← HP1.out, hd2] at h
          exact h
        clear hc
        go_upto_region 13 with fail
        refine wp_region_grows 30 [EqN (.pointer (some ⟨gp1, 1, none⟩)), EqN (.slice (some ⟨b1, o1, none⟩) n1 c1), EqN (.int .i64 (k : Int)), EqN (.pointer (some ⟨b1, o1 + k * 3, none⟩)), EqN (.pointer (some ⟨b1, o1 + k * 3, none⟩)), EqN (.agg #[.int .i64 s1, .int .i64 z1]), EqN (.agg #[.int .i64 s, .int .i64 z]), EqN (.agg #[.int .i64 s, .int .i64 z]), EqN (.bool false), EqN (.int .i64 p), EqN (.agg #[.int .i64 s, .int .i64 z]), EqN (.int .i64 pk), EqN (.bool false), EqN (.bool false), EqN (.bool false), EqN (.agg #[.int .i64 s, .int .i64 z]), EqN (.agg #[.int .i64 s, .int .i64 z]), EqN (.pointer (some ⟨gp1, 1, none⟩)), EqN (.slice (some ⟨b1, o1, none⟩) n1 c1), EqN (.int .i64 (k : Int)), EqN (.pointer (some ⟨b1, o1 + k * 3, none⟩)), EqN (.pointer (some ⟨b1, o1 + k * 3, none⟩)), EqN (.agg #[.int .i64 s1, .int .i64 z1]), EqN (.bool true), EqN (.agg #[.int .i64 s, .int .i64 z]), EqN (.int .i64 pk), EqN (.int .i64 p), EqN (.bool true), EqN (.bool false), EqN (.bool false)] (by kernel_rfl) (by decide) (by kernel_rfl) ?_ ?_ ?_
        · repeat' (first | exact List.forall_mem_nil _ | refine List.forall_mem_cons.2 ⟨?_, ?_⟩)
          all_goals
            intro w w' v hw h
            first | exact h | exact h
        · simp only [AllLt]
          refine ⟨⟨⟨⟨⟨⟨⟨⟨⟨⟨⟨⟨⟨⟨⟨⟨⟨⟨⟨⟨⟨⟨⟨⟨⟨⟨⟨⟨⟨⟨trivial, ?_⟩, ?_⟩, ?_⟩, ?_⟩, ?_⟩, ?_⟩, ?_⟩, ?_⟩, ?_⟩, ?_⟩, ?_⟩, ?_⟩, ?_⟩, ?_⟩, ?_⟩, ?_⟩, ?_⟩, ?_⟩, ?_⟩, ?_⟩, ?_⟩, ?_⟩, ?_⟩, ?_⟩, ?_⟩, ?_⟩, ?_⟩, ?_⟩, ?_⟩, ?_⟩
          all_goals
            intro o' ho
            simp at ho
            subst ho
            intro ρ w5 hR hL hS hG
            obtain ⟨hl1, hl2, -⟩ := hL
          · refine plainG rfl ?_
            intro bA K Q' hK
            have e5 := hS 5 (by kernel_rfl)
            change ρ (.tmp 5) = _ at e5
            simp only [execOp]
            go_simp
            exact hK _ _ rfl (Grew.refl _)
          · refine plainG rfl ?_
            intro bA K Q' hK
            have e66 := hG 0 66 (by decide) (by kernel_rfl) (by kernel_rfl)
            change ρ (.tmp 66) = _ at e66
            obtain ⟨⟨y0, y1, y2⟩, y3, y4⟩ := HCY.out w5 hR
            simp only [execOp]
            go_simp
            exact hK _ _ rfl (Grew.refl _)
          · refine plainG rfl ?_
            intro bA K Q' hK
            have e11 := hS 11 (by kernel_rfl)
            change ρ (.tmp 11) = _ at e11
            simp only [execOp]
            go_simp
            exact hK _ _ rfl (Grew.refl _)
          · refine plainG rfl ?_
            intro bA K Q' hK
            have e67 := hG 1 67 (by decide) (by kernel_rfl) (by kernel_rfl)
            have e68 := hG 2 68 (by decide) (by kernel_rfl) (by kernel_rfl)
            change ρ (.tmp 67) = _ at e67
            change ρ (.tmp 68) = _ at e68
            simp only [execOp]
            go_simp
            exact hK _ _ rfl (Grew.refl _)
          · refine plainG rfl ?_
            intro bA K Q' hK
            have e69 := hG 3 69 (by decide) (by kernel_rfl) (by kernel_rfl)
            change ρ (.tmp 69) = _ at e69
            simp only [execOp]
            go_simp
            exact hK _ _ rfl (Grew.refl _)
          · refine plainG rfl ?_
            intro bA K Q' hK
            have e70 := hG 4 70 (by decide) (by kernel_rfl) (by kernel_rfl)
            change ρ (.tmp 70) = _ at e70
            obtain ⟨⟨y0, y1, y2⟩, y3, y4⟩ := HCY.out w5 hR
            simp only [execOp]
            go_simp
            exact hK _ _ rfl (Grew.refl _)
          · refine plainG rfl ?_
            intro bA K Q' hK
            have e3 := hS 3 (by kernel_rfl)
            change ρ (.tmp 3) = _ at e3
            obtain ⟨⟨y0, y1, y2⟩, y3, y4⟩ := HCY.out w5 hR
            simp only [execOp]
            go_simp
            exact hK _ _ rfl (Grew.refl _)
          · refine plainG rfl ?_
            intro bA K Q' hK
            have e72 := hG 6 72 (by decide) (by kernel_rfl) (by kernel_rfl)
            change ρ (.tmp 72) = _ at e72
            simp only [execOp]
            go_simp
            refine (key_any s z w5).mono ?_
            rintro r9 q9 ⟨rfl, hb9⟩
            exact hK _ _ rfl hb9
          · refine plainG rfl ?_
            intro bA K Q' hK
            have e71 := hG 5 71 (by decide) (by kernel_rfl) (by kernel_rfl)
            have e73 := hG 7 73 (by decide) (by kernel_rfl) (by kernel_rfl)
            change ρ (.tmp 71) = _ at e71
            change ρ (.tmp 73) = _ at e73
            simp only [execOp]
            go_simp
            refine (HL1.out w5).mono ?_
            rintro r9 q9 ⟨rfl, hb9⟩
            exact hK _ _ rfl hb9
          · refine plainG rfl ?_
            intro bA K Q' hK
            have e12 := hS 12 (by kernel_rfl)
            change ρ (.tmp 12) = _ at e12
            simp only [execOp]
            go_simp
            exact hK _ _ rfl (Grew.refl _)
          · refine plainG rfl ?_
            intro bA K Q' hK
            have e3 := hS 3 (by kernel_rfl)
            change ρ (.tmp 3) = _ at e3
            obtain ⟨⟨y0, y1, y2⟩, y3, y4⟩ := HCY.out w5 hR
            simp only [execOp]
            go_simp
            exact hK _ _ rfl (Grew.refl _)
          · refine plainG rfl ?_
            intro bA K Q' hK
            have e76 := hG 10 76 (by decide) (by kernel_rfl) (by kernel_rfl)
            change ρ (.tmp 76) = _ at e76
            simp only [execOp]
            go_simp
            refine (HPL.out w5).mono ?_
            rintro r9 q9 ⟨rfl, hb9⟩
            exact hK _ _ rfl hb9
          · refine plainG rfl ?_
            intro bA K Q' hK
            have e75 := hG 9 75 (by decide) (by kernel_rfl) (by kernel_rfl)
            have e77 := hG 11 77 (by decide) (by kernel_rfl) (by kernel_rfl)
            change ρ (.tmp 75) = _ at e75
            change ρ (.tmp 77) = _ at e77
            simp only [execOp]
            go_simp
            exact hK _ _ rfl (Grew.refl _)
          · refine plainG rfl ?_
            intro bA K Q' hK
            have e74 := hG 8 74 (by decide) (by kernel_rfl) (by kernel_rfl)
            have e78 := hG 12 78 (by decide) (by kernel_rfl) (by kernel_rfl)
            change ρ (.tmp 74) = _ at e74
            change ρ (.tmp 78) = _ at e78
            simp only [execOp]
            go_simp
            exact hK _ _ rfl (Grew.refl _)
          · refine plainG rfl ?_
            intro bA K Q' hK
            have e79 := hG 13 79 (by decide) (by kernel_rfl) (by kernel_rfl)
            change ρ (.tmp 79) = _ at e79
            simp only [execOp]
            go_simp
            exact hK _ _ rfl (Grew.refl _)
          · have eG : ρ (.tmp 80) = _ := hG 14 80 (by decide) (by kernel_rfl) (by kernel_rfl)
            refine onG rfl (by kernel_rfl) eG ?_
            intro bA K Q' hK
            have e3 := hS 3 (by kernel_rfl)
            change ρ (.tmp 3) = _ at e3
            obtain ⟨⟨y0, y1, y2⟩, y3, y4⟩ := HCY.out w5 hR
            simp only [execOp]
            go_simp
            exact hK _ _ rfl (Grew.refl _)
          · have eG : ρ (.tmp 80) = _ := hG 14 80 (by decide) (by kernel_rfl) (by kernel_rfl)
            refine onG rfl (by kernel_rfl) eG ?_
            intro bA K Q' hK
            have e81 := hG 15 81 (by decide) (by kernel_rfl) (by kernel_rfl)
            change ρ (.tmp 81) = _ at e81
            simp only [execOp]
            go_simp
            refine (key_any s z w5).mono ?_
            rintro r9 q9 ⟨rfl, hb9⟩
            exact hK _ _ rfl hb9
          · have eG : ρ (.tmp 80) = _ := hG 14 80 (by decide) (by kernel_rfl) (by kernel_rfl)
            refine onG rfl (by kernel_rfl) eG ?_
            intro bA K Q' hK
            have e5 := hS 5 (by kernel_rfl)
            change ρ (.tmp 5) = _ at e5
            simp only [execOp]
            go_simp
            exact hK _ _ rfl (Grew.refl _)
          · have eG : ρ (.tmp 80) = _ := hG 14 80 (by decide) (by kernel_rfl) (by kernel_rfl)
            refine onG rfl (by kernel_rfl) eG ?_
            intro bA K Q' hK
            have e83 := hG 17 83 (by decide) (by kernel_rfl) (by kernel_rfl)
            change ρ (.tmp 83) = _ at e83
            obtain ⟨⟨y0, y1, y2⟩, y3, y4⟩ := HCY.out w5 hR
            simp only [execOp]
            go_simp
            exact hK _ _ rfl (Grew.refl _)
          · have eG : ρ (.tmp 80) = _ := hG 14 80 (by decide) (by kernel_rfl) (by kernel_rfl)
            refine onG rfl (by kernel_rfl) eG ?_
            intro bA K Q' hK
            have e11 := hS 11 (by kernel_rfl)
            change ρ (.tmp 11) = _ at e11
            simp only [execOp]
            go_simp
            exact hK _ _ rfl (Grew.refl _)
          · have eG : ρ (.tmp 80) = _ := hG 14 80 (by decide) (by kernel_rfl) (by kernel_rfl)
            refine onG rfl (by kernel_rfl) eG ?_
            intro bA K Q' hK
            have e84 := hG 18 84 (by decide) (by kernel_rfl) (by kernel_rfl)
            have e85 := hG 19 85 (by decide) (by kernel_rfl) (by kernel_rfl)
            change ρ (.tmp 84) = _ at e84
            change ρ (.tmp 85) = _ at e85
            simp only [execOp]
            go_simp
            exact hK _ _ rfl (Grew.refl _)
          · have eG : ρ (.tmp 80) = _ := hG 14 80 (by decide) (by kernel_rfl) (by kernel_rfl)
            refine onG rfl (by kernel_rfl) eG ?_
            intro bA K Q' hK
            have e86 := hG 20 86 (by decide) (by kernel_rfl) (by kernel_rfl)
            change ρ (.tmp 86) = _ at e86
            simp only [execOp]
            go_simp
            exact hK _ _ rfl (Grew.refl _)
          · have eG : ρ (.tmp 80) = _ := hG 14 80 (by decide) (by kernel_rfl) (by kernel_rfl)
            refine onG rfl (by kernel_rfl) eG ?_
            intro bA K Q' hK
            have e87 := hG 21 87 (by decide) (by kernel_rfl) (by kernel_rfl)
            change ρ (.tmp 87) = _ at e87
            obtain ⟨⟨y0, y1, y2⟩, y3, y4⟩ := HCY.out w5 hR
            simp only [execOp]
            go_simp
            exact hK _ _ rfl (Grew.refl _)
          · have eG : ρ (.tmp 80) = _ := hG 14 80 (by decide) (by kernel_rfl) (by kernel_rfl)
            refine onG rfl (by kernel_rfl) eG ?_
            intro bA K Q' hK
            have e82 := hG 16 82 (by decide) (by kernel_rfl) (by kernel_rfl)
            have e88 := hG 22 88 (by decide) (by kernel_rfl) (by kernel_rfl)
            change ρ (.tmp 82) = _ at e82
            change ρ (.tmp 88) = _ at e88
            simp only [execOp]
            go_simp
            refine (HL2.out w5).mono ?_
            rintro r9 q9 ⟨rfl, hb9⟩
            exact hK _ _ rfl hb9
          · have eG : ρ (.tmp 80) = _ := hG 14 80 (by decide) (by kernel_rfl) (by kernel_rfl)
            refine onG rfl (by kernel_rfl) eG ?_
            intro bA K Q' hK
            have e3 := hS 3 (by kernel_rfl)
            change ρ (.tmp 3) = _ at e3
            obtain ⟨⟨y0, y1, y2⟩, y3, y4⟩ := HCY.out w5 hR
            simp only [execOp]
            go_simp
            exact hK _ _ rfl (Grew.refl _)
          · have eG : ρ (.tmp 80) = _ := hG 14 80 (by decide) (by kernel_rfl) (by kernel_rfl)
            refine onG rfl (by kernel_rfl) eG ?_
            intro bA K Q' hK
            have e90 := hG 24 90 (by decide) (by kernel_rfl) (by kernel_rfl)
            change ρ (.tmp 90) = _ at e90
            simp only [execOp]
            go_simp
            refine (HPL.out w5).mono ?_
            rintro r9 q9 ⟨rfl, hb9⟩
            exact hK _ _ rfl hb9
          · have eG : ρ (.tmp 80) = _ := hG 14 80 (by decide) (by kernel_rfl) (by kernel_rfl)
            refine onG rfl (by kernel_rfl) eG ?_
            intro bA K Q' hK
            have e12 := hS 12 (by kernel_rfl)
            change ρ (.tmp 12) = _ at e12
            simp only [execOp]
            go_simp
            exact hK _ _ rfl (Grew.refl _)
          · have eG : ρ (.tmp 80) = _ := hG 14 80 (by decide) (by kernel_rfl) (by kernel_rfl)
            refine onG rfl (by kernel_rfl) eG ?_
            intro bA K Q' hK
            have e91 := hG 25 91 (by decide) (by kernel_rfl) (by kernel_rfl)
            have e92 := hG 26 92 (by decide) (by kernel_rfl) (by kernel_rfl)
            change ρ (.tmp 91) = _ at e91
            change ρ (.tmp 92) = _ at e92
            simp only [execOp]
            go_simp
            exact hK _ _ rfl (Grew.refl _)
          · have eG : ρ (.tmp 80) = _ := hG 14 80 (by decide) (by kernel_rfl) (by kernel_rfl)
            refine onG rfl (by kernel_rfl) eG ?_
            intro bA K Q' hK
            have e89 := hG 23 89 (by decide) (by kernel_rfl) (by kernel_rfl)
            have e93 := hG 27 93 (by decide) (by kernel_rfl) (by kernel_rfl)
            change ρ (.tmp 89) = _ at e89
            change ρ (.tmp 93) = _ at e93
            simp only [execOp]
            go_simp
            exact hK _ _ rfl (Grew.refl _)
          · refine plainG rfl ?_
            intro bA K Q' hK
            have e80 := hG 14 80 (by decide) (by kernel_rfl) (by kernel_rfl)
            have e94 := hG 28 94 (by decide) (by kernel_rfl) (by kernel_rfl)
            change ρ (.tmp 80) = _ at e80
            change ρ (.tmp 94) = _ at e94
            simp only [execOp]
            go_simp
            exact hK _ _ rfl (Grew.refl _)
        · skip
          intro vv q8 hR hG
          have h9 : vv 29 = .bool false := hG.2
          have hb := grewDrew hR
          have HB8 : Hid (Below w8.heap.size w8 q8) := hid (HBQ.out.trans (hb.mono HBQ.out.size))
          clear hG hR HCY hb HBQ HBQ1 HC1
          simp [stG, stU, dstAt, Act.put, h9]
          clear h9
          obtain ⟨-, -, hk0, hk1⟩ := HALL.out q8 HB8.out
          go_wp2_with fail
          refine (HPL.out _).mono ?_
          rintro e q9 ⟨rfl, hb⟩
          have HB9 : Hid (Below w8.heap.size w8 q9) := hid (HB8.out.trans (hb.mono HB8.out.size))
          clear hb HB8 hk0 hk1
          obtain ⟨-, -, hk0, hk1⟩ := HALL.out q9 HB9.out
          go_wp2_with fail
          refine (HPL.out _).mono ?_
          rintro e q10 ⟨rfl, hb⟩
          have HB10 : Hid (Below w8.heap.size w8 q10) := hid (HB9.out.trans (hb.mono HB9.out.size))
          clear hb HB9 hk0 hk1
          obtain ⟨-, -, hk0, hk1⟩ := HALL.out q10 HB10.out
          cases IS
          · skip
            go_wp2_with fail
            refine (HPL.out _).mono ?_
            rintro e q11 ⟨rfl, hb⟩
            have HB11 : Hid (Below w8.heap.size w8 q11) := hid (HB10.out.trans (hb.mono HB10.out.size))
            clear hb HB10 hk0 hk1
            go_wp2_with fail
            have hF := fd_next (k := (s, z)) HFA.out HKX.out
            have hL := last_next (k := (s, z)) HFA.out HOK.out HO.out HKX.out
            have hI := isTo_next (k := (s, z)) HKX.out
            have HCP : plK (s, z) < plK (s1, z1) := by rw [← HP1.out, ← HPK.out]; exact HCC.out
            rw [← HKE.out, ← HST.out.1] at hF
            rw [← HKE.out, ← HST.out.2.1] at hL
            rw [← HKE.out, ← HST.out.2.2] at hI
            simp only at hF hL hI
            rw [if_neg (by omega)] at hF
            rw [if_neg (by omega)] at hL
            have hI2 : isTo xs (s, z) (k + 1) = false := by
              rw [hI]
              rw [decide_eq_false (by intro e; rw [e] at HCP; omega)]; rfl
            have HNX := hid (And.intro hF.symm (And.intro hL.symm hI2.symm))
            clear hF hL hI hI2 HCP
            go_roundw
            case rel => exact ⟨k + 1, A8, A9, false, by have := HKX.out; have := HN.out; omega, by go_num, rfl, rfl, by go_num, HNX.out, HB11.out⟩
            case measure => have := HKX.out; have := HN.out; simp [intOf]; omega
          · skip
            go_wp2_with fail
            have hF := fd_next (k := (s, z)) HFA.out HKX.out
            have hL := last_next (k := (s, z)) HFA.out HOK.out HO.out HKX.out
            have hI := isTo_next (k := (s, z)) HKX.out
            have HCP : plK (s, z) < plK (s1, z1) := by rw [← HP1.out, ← HPK.out]; exact HCC.out
            rw [← HKE.out, ← HST.out.1] at hF
            rw [← HKE.out, ← HST.out.2.1] at hL
            rw [← HKE.out, ← HST.out.2.2] at hI
            simp only at hF hL hI
            rw [if_neg (by omega)] at hF
            rw [if_neg (by omega)] at hL
            have hI2 : isTo xs (s, z) (k + 1) = true := by
              rw [hI]
              rfl
            have HNX := hid (And.intro hF.symm (And.intro hL.symm hI2.symm))
            clear hF hL hI hI2 HCP
            go_roundw
            case rel => exact ⟨k + 1, A8, A9, true, by have := HKX.out; have := HN.out; omega, by go_num, rfl, rfl, by go_num, HNX.out, HB10.out⟩
            case measure => have := HKX.out; have := HN.out; simp [intOf]; omega
    · skip
      have hkf : (k < n1) = False := eq_false (by omega)
      have HKN : Hid (k = xs.length) := hid (by have := HN.out; omega)
      have HA : Hid (A8 = atK xs (s, z) ∧ A9 = childK xs (s, z) ∧ IS = inK xs (s, z)) := hid ⟨by rw [HST.out.1, HKN.out, fd_all], by rw [HST.out.2.1, HKN.out, last_all], by rw [HST.out.2.2, HKN.out, is_all HFA.out]⟩
      have hAA : (((A8 : Nat) : Int) != (A8 : Int)) = false := by simp
      have hII : (IS != IS) = false := by simp
      have HFI : Hid (∀ y, NdOk y a1 n1 c1 xs → Calls Try.prog 24 #[.agg #[.bool true, .slice a1 n1 c1], .agg #[.int .i64 s, .int .i64 z]] y fun e w' => e = .returned (.tuple #[.int .i64 (A8 : Int), .bool IS]) ∧ Below y.heap.size y w') := hid fun y hy => by
        have h := HP.out.nFind a1 n1 c1 true xs s z y hy HC0.out HO.out
        rw [← HA.out.1, ← HA.out.2.2] at h
        exact h
      have HCH : Hid (∀ y, NdOk y a1 n1 c1 xs → Calls Try.prog 25 #[.agg #[.bool true, .slice a1 n1 c1], .agg #[.int .i64 s, .int .i64 z]] y fun e w' => (∃ i, e = .returned (.tuple #[.int .i64 i, .int .i64 11])) ∧ Below y.heap.size y w') := hid fun y hy => by
        have h := HP.out.nChild a1 n1 c1 true xs s z y hy HC0.out HO.out
        rw [← HA.out.2.1] at h
        refine h.mono ?_
        rintro e w' ⟨⟨i, h1, h2⟩, h3⟩
        exact ⟨⟨i, h1⟩, h3⟩
      have HCY : Hid (∀ x, Grew wr.drew x → NdOk x a1 n1 c1 xs ∧ (x.cell? ⟨gp1, 0, none⟩ = some (.bool true) ∧ x.cell? ⟨gp1, 1, none⟩ = some (.slice a1 n1 c1)) ∧ x.cell? ⟨g + 1, 0, none⟩ = some (.int .i64 s) ∧ x.cell? ⟨g + 1, 1, none⟩ = some (.int .i64 z)) := hid fun x hx => by
        have hb := HB.out.trans ((grewDrew hx).mono HB.out.size)
        have h := HALL.out x hb
        exact ⟨HXX.out x hb, h.1, h.2.2⟩
      clear hlt
      go_upto_region 20 with fail
      refine wp_region_grows 9 [EqN (.agg #[.bool true, .slice a1 n1 c1]), EqN (.agg #[.int .i64 s, .int .i64 z]), EqN (.agg #[.int .i64 s, .int .i64 z]), EqN (.tuple #[.int .i64 (A8 : Int), .bool IS]), EqN (.tuple #[.int .i64 (A8 : Int), .bool IS]), EqN (.int .i64 (A8 : Int)), EqN (.bool IS), EqN (.int .i64 (A8 : Int)), EqN (.bool IS)] (by kernel_rfl) (by decide) (by kernel_rfl) ?_ ?_ ?_
      · repeat' (first | exact List.forall_mem_nil _ | refine List.forall_mem_cons.2 ⟨?_, ?_⟩)
        all_goals
          intro w w' v hw h
          first | exact h | exact h
      · simp only [AllLt]
        refine ⟨⟨⟨⟨⟨⟨⟨⟨⟨trivial, ?_⟩, ?_⟩, ?_⟩, ?_⟩, ?_⟩, ?_⟩, ?_⟩, ?_⟩, ?_⟩
        all_goals
          intro o' ho
          simp at ho
          subst ho
          intro ρ w5 hR hL hS hG
          obtain ⟨hl1, hl2, -⟩ := hL
        · refine plainG rfl ?_
          intro bA K Q' hK
          have e5 := hS 5 (by kernel_rfl)
          change ρ (.tmp 5) = _ at e5
          obtain ⟨-, ⟨y0, y1⟩, y2, y3⟩ := HCY.out w5 hR
          simp only [execOp]
          go_simp
          exact hK _ _ rfl (Grew.refl _)
        · refine plainG rfl ?_
          intro bA K Q' hK
          have e3 := hS 3 (by kernel_rfl)
          change ρ (.tmp 3) = _ at e3
          obtain ⟨-, ⟨y0, y1⟩, y2, y3⟩ := HCY.out w5 hR
          simp only [execOp]
          go_simp
          exact hK _ _ rfl (Grew.refl _)
        · refine plainG rfl ?_
          intro bA K Q' hK
          have e116 := hG 1 116 (by decide) (by kernel_rfl) (by kernel_rfl)
          change ρ (.tmp 116) = _ at e116
          simp only [execOp]
          go_simp
          refine (key_any s z w5).mono ?_
          rintro r9 q9 ⟨rfl, hb9⟩
          exact hK _ _ rfl hb9
        · refine plainG rfl ?_
          intro bA K Q' hK
          have e115 := hG 0 115 (by decide) (by kernel_rfl) (by kernel_rfl)
          have e117 := hG 2 117 (by decide) (by kernel_rfl) (by kernel_rfl)
          change ρ (.tmp 115) = _ at e115
          change ρ (.tmp 117) = _ at e117
          simp only [execOp]
          go_simp
          refine (HFI.out w5 (HCY.out w5 hR).1).mono ?_
          rintro r9 q9 ⟨rfl, hb9⟩
          exact hK _ _ rfl hb9
        · refine plainG rfl ?_
          intro bA K Q' hK
          have e118 := hG 3 118 (by decide) (by kernel_rfl) (by kernel_rfl)
          change ρ (.tmp 118) = _ at e118
          simp only [execOp]
          go_simp
          exact hK _ _ rfl (Grew.refl _)
        · refine plainG rfl ?_
          intro bA K Q' hK
          have e114 := hG 4 114 (by decide) (by kernel_rfl) (by kernel_rfl)
          change ρ (.tmp 114) = _ at e114
          simp only [execOp]
          go_simp
          exact hK _ _ rfl (Grew.refl _)
        · refine plainG rfl ?_
          intro bA K Q' hK
          have e114 := hG 4 114 (by decide) (by kernel_rfl) (by kernel_rfl)
          change ρ (.tmp 114) = _ at e114
          simp only [execOp]
          go_simp
          exact hK _ _ rfl (Grew.refl _)
        · refine plainG rfl ?_
          intro bA K Q' hK
          have e119 := hG 5 119 (by decide) (by kernel_rfl) (by kernel_rfl)
          change ρ (.tmp 119) = _ at e119
          simp only [execOp]
          go_simp
          exact hK _ _ rfl (Grew.refl _)
        · refine plainG rfl ?_
          intro bA K Q' hK
          have e120 := hG 6 120 (by decide) (by kernel_rfl) (by kernel_rfl)
          change ρ (.tmp 120) = _ at e120
          simp only [execOp]
          go_simp
          exact hK _ _ rfl (Grew.refl _)
      · skip
        intro vv q8 hR hG
        have h8 : vv 8 = .bool IS := hG.2
        have h7 : vv 7 = .int .i64 (A8 : Int) := hG.1.2
        have hb := grewDrew hR
        have HB8 : Hid (Below w8.heap.size w8 q8) := hid (HB.out.trans (hb.mono HB.out.size))
        clear hG hR HCY hb HB
        simp [stG, stU, dstAt, Act.put, h8, h7]
        clear h8 h7
        have HCY : Hid (∀ x, Grew q8.drew x → NdOk x a1 n1 c1 xs ∧ (x.cell? ⟨gp1, 0, none⟩ = some (.bool true) ∧ x.cell? ⟨gp1, 1, none⟩ = some (.slice a1 n1 c1)) ∧ x.cell? ⟨g + 1, 0, none⟩ = some (.int .i64 s) ∧ x.cell? ⟨g + 1, 1, none⟩ = some (.int .i64 z)) := hid fun x hx => by
          have hb := HB8.out.trans ((grewDrew hx).mono HB8.out.size)
          have h := HALL.out x hb
          exact ⟨HXX.out x hb, h.1, h.2.2⟩
        go_upto_region 21 with fail
        refine wp_region_grows 9 [EqN (.agg #[.bool true, .slice a1 n1 c1]), EqN (.agg #[.int .i64 s, .int .i64 z]), EqN (.agg #[.int .i64 s, .int .i64 z]), (fun _ v => ∃ i, v = .tuple #[.int .i64 i, .int .i64 11]), (fun _ v => ∃ i, v = .tuple #[.int .i64 i, .int .i64 11]), (fun _ v => ∃ i, v = .int .i64 i), EqN (.int .i64 11), (fun _ v => ∃ i, v = .int .i64 i), EqN (.int .i64 11)] (by kernel_rfl) (by decide) (by kernel_rfl) ?_ ?_ ?_
        · repeat' (first | exact List.forall_mem_nil _ | refine List.forall_mem_cons.2 ⟨?_, ?_⟩)
          all_goals
            intro w w' v hw h
            first | exact h | exact h
        · simp only [AllLt]
          refine ⟨⟨⟨⟨⟨⟨⟨⟨⟨trivial, ?_⟩, ?_⟩, ?_⟩, ?_⟩, ?_⟩, ?_⟩, ?_⟩, ?_⟩, ?_⟩
          all_goals
            intro o' ho
            simp at ho
            subst ho
            intro ρ w5 hR hL hS hG
            obtain ⟨hl1, hl2, -⟩ := hL
          · refine plainG rfl ?_
            intro bA K Q' hK
            have e5 := hS 5 (by kernel_rfl)
            change ρ (.tmp 5) = _ at e5
            obtain ⟨-, ⟨y0, y1⟩, y2, y3⟩ := HCY.out w5 hR
            simp only [execOp]
            go_simp
            exact hK _ _ rfl (Grew.refl _)
          · refine plainG rfl ?_
            intro bA K Q' hK
            have e3 := hS 3 (by kernel_rfl)
            change ρ (.tmp 3) = _ at e3
            obtain ⟨-, ⟨y0, y1⟩, y2, y3⟩ := HCY.out w5 hR
            simp only [execOp]
            go_simp
            exact hK _ _ rfl (Grew.refl _)
          · refine plainG rfl ?_
            intro bA K Q' hK
            have e123 := hG 1 123 (by decide) (by kernel_rfl) (by kernel_rfl)
            change ρ (.tmp 123) = _ at e123
            simp only [execOp]
            go_simp
            refine (key_any s z w5).mono ?_
            rintro r9 q9 ⟨rfl, hb9⟩
            exact hK _ _ rfl hb9
          · refine plainG rfl ?_
            intro bA K Q' hK
            have e122 := hG 0 122 (by decide) (by kernel_rfl) (by kernel_rfl)
            have e124 := hG 2 124 (by decide) (by kernel_rfl) (by kernel_rfl)
            change ρ (.tmp 122) = _ at e122
            change ρ (.tmp 124) = _ at e124
            simp only [execOp]
            go_simp
            refine (HCH.out w5 (HCY.out w5 hR).1).mono ?_
            rintro r9 q9 ⟨⟨i, rfl⟩, hb9⟩
            exact hK _ _ ⟨i, rfl⟩ hb9
          · refine plainG rfl ?_
            intro bA K Q' hK
            have e125 := hG 3 125 (by decide) (by kernel_rfl) (by kernel_rfl)
            skip
            obtain ⟨i, ei⟩ := e125
            change ρ (.tmp 125) = _ at ei
            simp only [execOp]
            go_simp
            exact hK _ _ ⟨i, rfl⟩ (Grew.refl _)
          · refine plainG rfl ?_
            intro bA K Q' hK
            have e121 := hG 4 121 (by decide) (by kernel_rfl) (by kernel_rfl)
            skip
            obtain ⟨i, ei⟩ := e121
            change ρ (.tmp 121) = _ at ei
            simp only [execOp]
            go_simp
            exact hK _ _ ⟨i, rfl⟩ (Grew.refl _)
          · refine plainG rfl ?_
            intro bA K Q' hK
            have e121 := hG 4 121 (by decide) (by kernel_rfl) (by kernel_rfl)
            skip
            obtain ⟨i, ei⟩ := e121
            change ρ (.tmp 121) = _ at ei
            simp only [execOp]
            go_simp
            exact hK _ _ rfl (Grew.refl _)
          · refine plainG rfl ?_
            intro bA K Q' hK
            have e126 := hG 5 126 (by decide) (by kernel_rfl) (by kernel_rfl)
            skip
            obtain ⟨i, ei⟩ := e126
            change ρ (.tmp 126) = _ at ei
            simp only [execOp]
            go_simp
            exact hK _ _ ⟨i, rfl⟩ (Grew.refl _)
          · refine plainG rfl ?_
            intro bA K Q' hK
            have e127 := hG 6 127 (by decide) (by kernel_rfl) (by kernel_rfl)
            change ρ (.tmp 127) = _ at e127
            simp only [execOp]
            go_simp
            exact hK _ _ rfl (Grew.refl _)
        · skip
          intro vv q9 hR hG
          have h8 : vv 8 = .int .i64 11 := hG.2
          obtain ⟨i, h7⟩ : ∃ i, vv 7 = .int .i64 i := hG.1.2
          have hb := grewDrew hR
          have HB9 : Hid (Below w8.heap.size w8 q9) := hid (HB8.out.trans (hb.mono HB8.out.size))
          clear hG hR HCY hb HB8
          simp [stG, stU, dstAt, Act.put, h8, h7]
          clear h8 h7
          obtain ⟨-, ⟨hcl, hcu⟩, -⟩ := HALL.out q9 HB9.out
          have h99 : ((A9 : Int) == (A9 : Int)) = true := by simp
          go_wp2_with fail
          refine (known_any HP.out _).mono ?_
          rintro e q10 ⟨rfl, hb⟩
          have HB10 : Hid (Below w8.heap.size w8 q10) := hid (HB9.out.trans (hb.mono HB9.out.size))
          clear hb HB9
          go_wp2_with fail
          go_ret
          exact ⟨rfl, HB_8.out.trans (HB10.out.mono HB_8.out.size)⟩
theorem leafFinds_walk (P : PN) (a : Option Addr) (n c : Nat) (lf : Bool) (es : List Et) (s z : Int) (W : World) (hs : EtS (fun _ => True) W a es) (hn : n = es.length) (hf : ∀ e ∈ es, fitsE e) (hfk : fitsK (s, z)) :
    Calls Try.prog 5 #[.agg #[.bool lf, .slice a n c], .agg #[.int .i64 s, .int .i64 z]] W fun e w' => e = .returned (.bool true) ∧ Below W.heap.size W w' := by
  by_cases hok : okK (s, z) = true
  · by_cases hchk : chkN lf (es.take 18) = 0
    · cases lf
      · exact finds_node2 P a n c es s z W hs hn hf hfk hok hchk
      · exact finds_leaf P a n c es s z W hs hn hf hfk hok hchk
    · exact finds_node P a n c lf es s z W hs hn hf hfk hok hchk
  · have h : ¬ (0 ≤ s ∧ s < 16 ∧ 0 ≤ z ∧ z < 65536) := fun h => hok (okK_iff.2 h)
    by_cases h0 : 0 ≤ s
    · by_cases h1 : s < 16
      · by_cases h2 : 0 ≤ z
        · exact finds_key3 P a n c lf es s z W hs hn hf hfk (decide_eq_true h0) (decide_eq_true h1) (decide_eq_true h2) (decide_eq_false fun h3 => h ⟨h0, h1, h2, h3⟩)
        · exact finds_key2 P a n c lf es s z W hs hn hf hfk (decide_eq_true h0) (decide_eq_true h1) (decide_eq_false h2)
      · exact finds_key1 P a n c lf es s z W hs hn hf hfk (decide_eq_true h0) (decide_eq_false h1)
    · exact finds_key0 P a n c lf es s z W hs hn hf hfk (decide_eq_false h0)
end Go.Proofs.Ytokeihpmagcneaa
