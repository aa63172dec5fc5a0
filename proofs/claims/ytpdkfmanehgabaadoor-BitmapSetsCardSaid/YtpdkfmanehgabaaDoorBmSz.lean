/- THE LAW BitmapSets: the walk. -/
import Derived.Test.YtpdkfmanehgabaaDoorBmNz
import Derived.Test.YtpdkfmanehgabaaDoorBmPz
import Derived.BigRegion
namespace Go.Proofs.YtpdkfmanehgabaaDoor
open Go.RowKit Go.Inc

theorem set_same {m : List Bool} {i : Nat} (h : inB m i = true) : m.set i true = m := ext_inB (by rw [List.length_set]) fun j hj => by
  rw [inB_set (inB_lt h)]
  by_cases hij : j = i
  · rw [if_pos hij, hij, h]
  · rw [if_neg hij]
theorem newTo_put (S : Nat) (zs : List Int) : ∀ k, (putTo true (List.replicate S false) zs k).1 = newTo S zs k
  | 0 => rfl
  | k + 1 => by
    have ih := newTo_put S zs k
    have hl : (putTo true (List.replicate S false) zs k).1.length = S := by rw [putTo_len, List.length_replicate]
    unfold putTo newTo setB
    rw [hl, ih]
    by_cases hz : 0 ≤ zs.getD k 0 ∧ zs.getD k 0 < S
    · rw [if_pos hz]
      by_cases hh : hasB (newTo S zs k) (zs.getD k 0) = true
      · rw [if_neg (fun h => h.2.2 hh), ih, set_same]
        unfold hasB at hh
        simp only [Bool.and_eq_true] at hh
        exact hh.2
      · rw [if_pos ⟨hz.1, hz.2, hh⟩]
    · rw [if_neg hz, if_neg (fun h => hz ⟨h.1, h.2.1⟩), ih]
theorem newB_is (S : Nat) (zs : List Int) : newB S zs = newTo S zs zs.length := newTo_put S zs zs.length
theorem refNewB_any (ok : Nat → Prop) (size : Nat) (a : Option Addr) (c : Nat) (zs : List Int) (w : World) (hz : Si ok w a zs) (h1 : (1 : Int) ≤ size) (h2 : (size : Int) ≤ 2048) (hl : (zs.length : Int) ≤ 9223372036854775807) :
    Calls Tryd.prog 10 #[.int .i64 (size : Int), .slice a zs.length c] w fun r w' => (∃ a c, r = .returned (.slice a size c) ∧ Bl (fun b => w.heap.size ≤ b) w' a (newB size zs)) ∧ Below w.heap.size w w' :=
  (refNew_any ok size a c zs w hz h1 h2 hl).mono fun r w' ⟨⟨v, h1, h2⟩, hb⟩ => ⟨by
    rw [← newB_is] at h2
    obtain ⟨a, c, h3, _, _, _, _, h4⟩ := Bl.owned h2
    exact ⟨a, c, by rw [h1, h3, newB_len], h4⟩, hb⟩
theorem numsI_inj {a b : List Bool} (hl : a.length = b.length) : (numsI a = numsI b) = (a = b) := propext ⟨fun h => ext_inB hl fun i hi => by
  have e : ∀ {m : List Bool}, ((i : Int) ∈ numsI m) ↔ (i < m.length ∧ inB m i = true) := fun {m} => by
    unfold numsI
    rw [List.mem_map]
    constructor
    · rintro ⟨x, hx, hxi⟩
      obtain rfl : x = i := by omega
      exact numsTo_mem.1 hx
    · intro h
      exact ⟨i, numsTo_mem.2 h, rfl⟩
  have e1 := @e a
  have e2 := @e b
  rw [h, e2] at e1
  cases ha : inB a i <;> cases hb : inB b i <;> simp_all, fun h => by rw [h]⟩
/-- What is reckoned for the first k. -/
def partTo (h : Nat → Bool) (S k : Nat) : List Bool := (List.range S).map fun i => decide (i < k) && h i
theorem partTo_len (h : Nat → Bool) (S k : Nat) : (partTo h S k).length = S := by simp [partTo]
theorem partTo_get {h : Nat → Bool} {S k i : Nat} (hi : i < S) : (partTo h S k)[i]? = some (decide (i < k) && h i) := by
  unfold partTo
  rw [List.getElem?_map, List.getElem?_range hi]
  rfl
theorem partTo_zero (h : Nat → Bool) (S : Nat) : partTo h S 0 = List.replicate S false := by
  apply List.ext_getElem?
  intro i
  by_cases hi : i < S
  · rw [partTo_get hi, List.getElem?_replicate, if_pos hi]; simp
  · rw [List.getElem?_eq_none (by rw [partTo_len]; omega), List.getElem?_eq_none (by rw [List.length_replicate]; omega)]
theorem partTo_succ {h : Nat → Bool} {S k : Nat} (hk : k < S) : partTo h S (k + 1) = (partTo h S k).set k (h k) := by
  apply List.ext_getElem?
  intro i
  by_cases hi : i < S
  · rw [partTo_get hi, List.getElem?_set]
    by_cases hki : k = i
    · subst hki; rw [if_pos rfl, if_pos (by rw [partTo_len]; exact hk)]; simp
    · rw [if_neg hki, partTo_get hi]
      have : (i < k + 1) = (i < k) := propext (by omega)
      simp only [this]
  · rw [List.getElem?_eq_none (by rw [partTo_len]; omega), List.getElem?_eq_none (by rw [List.length_set, partTo_len]; omega)]
theorem partTo_all (f : Bool → Bool → Bool) (m o : List Bool) : partTo (fun i => f (inB m i) (inB o i)) m.length m.length = mix f m o := by
  unfold partTo mix
  apply List.map_congr_left
  intro i hi
  rw [List.mem_range] at hi
  rw [decide_eq_true hi, Bool.true_and]
/-- Three rows of bools, apart. -/
def Three (w4 : World) (S : Nat) (x y z : Value) (wc : World) (A B C : List Bool) : Prop :=
  ∃ g1 g2 g3, x = .slice (some ⟨g1, 0, none⟩) S S ∧ y = .slice (some ⟨g2, 0, none⟩) S S ∧ z = .slice (some ⟨g3, 0, none⟩) S S ∧ g1 ≠ g2 ∧ g1 ≠ g3 ∧ g2 ≠ g3 ∧ w4.heap.size ≤ g1 ∧ w4.heap.size ≤ g2 ∧ w4.heap.size ≤ g3 ∧
    wc.ownsRow w4.heap.size 4 1 x S (bvals A) ∧ wc.ownsRow w4.heap.size 4 1 y S (bvals B) ∧ wc.ownsRow w4.heap.size 4 1 z S (bvals C) ∧ Below w4.heap.size w4 wc
theorem made_row {w4 : World} {S g : Nat} (hS : S ≤ maxLen) {wc : World} (h : wc.heap[g]? = some (.cells (madeCells #[.bool false] S) 4 (0, 0))) (hg : w4.heap.size ≤ g) :
    wc.ownsRow w4.heap.size 4 1 (.slice (some ⟨g, 0, none⟩) S S) S (bvals (List.replicate S false)) :=
  ⟨by simp [bvals], .inr ⟨g, S, _, rfl, hg, h, Nat.le_refl _, hS, by simp [madeCells], by
    rw [Nat.mul_one, ← bvals_zeros S]
    apply List.take_of_length_le
    simp [madeCells]⟩⟩
theorem three_rows (w4 : World) (o : Obj) : (((w4.alloc o).alloc o).alloc o).drew.heap[w4.heap.size]? = some o ∧ (((w4.alloc o).alloc o).alloc o).drew.heap[w4.heap.size + 1]? = some o ∧ (((w4.alloc o).alloc o).alloc o).drew.heap[w4.heap.size + 1 + 1]? = some o := by
  have h1 := heap_alloc_new w4 o
  have h2 := heap_alloc_new (w4.alloc o) o
  have h3 := heap_alloc_new ((w4.alloc o).alloc o) o
  have e1 : (w4.alloc o).heap.size = w4.heap.size + 1 := by simp
  have e2 : ((w4.alloc o).alloc o).heap.size = w4.heap.size + 1 + 1 := by simp
  rw [e1] at h2
  rw [e2] at h3
  exact ⟨(row_below (row_below h1 (alloc_below _ o)) (alloc_below _ o) : (((w4.alloc o).alloc o).alloc o).heap[_]? = _), (row_below h2 (alloc_below _ o) : (((w4.alloc o).alloc o).alloc o).heap[_]? = _), h3⟩
theorem three_made (w4 : World) (S i j k : Nat) (hS : S ≤ maxLen) (hi : i < 3) (hj : j < 3) (hk : k < 3) (hij : i ≠ j) (hik : i ≠ k) (hjk : j ≠ k) :
    Three w4 S (.slice (some ⟨w4.heap.size + i, 0, none⟩) S S) (.slice (some ⟨w4.heap.size + j, 0, none⟩) S S) (.slice (some ⟨w4.heap.size + k, 0, none⟩) S S) (((w4.alloc (.cells (madeCells #[.bool false] S) 4)).alloc (.cells (madeCells #[.bool false] S) 4)).alloc (.cells (madeCells #[.bool false] S) 4)).drew (List.replicate S false) (List.replicate S false) (List.replicate S false) := by
  obtain ⟨h1, h2, h3⟩ := three_rows w4 (.cells (madeCells #[.bool false] S) 4)
  have hr : ∀ i, i < 3 → (((w4.alloc (.cells (madeCells #[.bool false] S) 4)).alloc (.cells (madeCells #[.bool false] S) 4)).alloc (.cells (madeCells #[.bool false] S) 4)).drew.heap[w4.heap.size + i]? = some (.cells (madeCells #[.bool false] S) 4 (0, 0)) := fun i hi => by
    match i, hi with
    | 0, _ => exact h1
    | 1, _ => exact h2
    | 2, _ => exact h3
  refine ⟨_, _, _, rfl, rfl, rfl, by omega, by omega, by omega, by omega, by omega, by omega, made_row hS (hr i hi) (by omega), made_row hS (hr j hj) (by omega), made_row hS (hr k hk) (by omega), ?_⟩
  exact (((Below.refl _ _).alloc (Nat.le_refl _) _).alloc (by simp) _).alloc (by simp; omega) _ |>.drew
theorem Three.drew {w4 : World} {S : Nat} {x y z : Value} {wc : World} {A B C : List Bool} (h : Three w4 S x y z wc A B C) : Three w4 S x y z wc.drew A B C := by
  obtain ⟨g1, g2, g3, e1, e2, e3, n12, n13, n23, l1, l2, l3, r1, r2, r3, hb⟩ := h
  have m : Mv (fun _ => False) wc wc.drew := (Mv.refl _ _).drew
  exact ⟨g1, g2, g3, e1, e2, e3, n12, n13, n23, l1, l2, l3, owns_mv r1 m (fun _ _ => id), owns_mv r2 m (fun _ _ => id), owns_mv r3 m (fun _ _ => id), hb.drew⟩
/-- One number is written into each of three. -/
theorem Three.put {w4 : World} {S g1 g2 g3 k : Nat} {wc : World} {A B C : List Bool} (h : Three w4 S (.slice (some ⟨g1, 0, none⟩) S S) (.slice (some ⟨g2, 0, none⟩) S S) (.slice (some ⟨g3, 0, none⟩) S S) wc A B C) (x y z : Bool) :
    Three w4 S (.slice (some ⟨g1, 0, none⟩) S S) (.slice (some ⟨g2, 0, none⟩) S S) (.slice (some ⟨g3, 0, none⟩) S S) (((wc.setCell ⟨g1, k, none⟩ (.bool x)).setCell ⟨g2, k, none⟩ (.bool y)).setCell ⟨g3, k, none⟩ (.bool z)) (A.set k x) (B.set k y) (C.set k z) := by
  obtain ⟨_, _, _, e1, e2, e3, n12, n13, n23, l1, l2, l3, r1, r2, r3, hb⟩ := h
  cases e1; cases e2; cases e3
  have s1 := r1.stored k (.bool x)
  have m1 : Mv (fun i => i = g1) wc (wc.setCell ⟨g1, k, none⟩ (.bool x)) := mv_setCell (F := fun i => i = g1) (Mv.refl _ _) rfl _
  have r2' := owns_mv r2 m1 (fun i hi e => by cases hi; exact n12 e.symm)
  have r3' := owns_mv r3 m1 (fun i hi e => by cases hi; exact n13 e.symm)
  have s2 := r2'.stored k (.bool y)
  have m2 : Mv (fun i => i = g2) (wc.setCell ⟨g1, k, none⟩ (.bool x)) ((wc.setCell ⟨g1, k, none⟩ (.bool x)).setCell ⟨g2, k, none⟩ (.bool y)) := mv_setCell (F := fun i => i = g2) (Mv.refl _ _) rfl _
  have r1' := owns_mv s1.1 m2 (fun i hi e => by cases hi; exact n12 e)
  have r3'' := owns_mv r3' m2 (fun i hi e => by cases hi; exact n23 e.symm)
  have s3 := r3''.stored k (.bool z)
  have m3 : Mv (fun i => i = g3) ((wc.setCell ⟨g1, k, none⟩ (.bool x)).setCell ⟨g2, k, none⟩ (.bool y)) (((wc.setCell ⟨g1, k, none⟩ (.bool x)).setCell ⟨g2, k, none⟩ (.bool y)).setCell ⟨g3, k, none⟩ (.bool z)) := mv_setCell (F := fun i => i = g3) (Mv.refl _ _) rfl _
  have r1'' := owns_mv r1' m3 (fun i hi e => by cases hi; exact n13 e)
  have r2'' := owns_mv s2.1 m3 (fun i hi e => by cases hi; exact n23 e)
  refine ⟨g1, g2, g3, rfl, rfl, rfl, n12, n13, n23, l1, l2, l3, by rw [← bvals_set]; exact r1'', by rw [← bvals_set]; exact r2'', by rw [← bvals_set]; exact s3.1, ?_⟩
  exact ((hb.setCell (p := ⟨g1, k, none⟩) l1 _).setCell (p := ⟨g2, k, none⟩) l2 _).setCell (p := ⟨g3, k, none⟩) l3 _
set_option maxRecDepth 20000 in
set_option maxHeartbeats 4000000 in
theorem bitmapSets_walk (size other no : Int) (a b : Option Addr) (c d : Nat) (zs ys : List Int) (W : World) (hs : Si (fun _ => True) W a zs) (hlc : zs.length ≤ c) (hcm : c ≤ maxLen) (hsy : Si (fun _ => True) W b ys) (hld : ys.length ≤ d) (hdm : d ≤ maxLen) (hT : Tab W)
    (hz0 : -9223372036854775808 ≤ no ∧ no ≤ 9223372036854775807) :
    Calls Tryd.prog 5 #[.int .i64 size, .int .i64 other, .slice a zs.length c, .slice b ys.length d, .int .i64 no] W fun e w' => e = .returned (.bool true) ∧ Below W.heap.size W w' := by
  obtain ⟨zh, hzh⟩ : ∃ zh, zh = zs.take 30 := ⟨_, rfl⟩
  have hmin : min (zs.length : Int) 30 = (zh.length : Int) := by rw [hzh, List.length_take]; omega
  have HSA : Hid (Si (fun _ => True) W a zh) := hid (by rw [hzh]; exact hs.front 30)
  have hzb : (zh.length : Int) ≤ 30 := by omega
  have hzc : (zh.length : Int) ≤ c := by omega
  have hcm2 : (c : Int) ≤ 9223372036854775807 := by unfold maxLen at hcm; omega
  obtain ⟨yh, hyh⟩ : ∃ yh, yh = ys.take 30 := ⟨_, rfl⟩
  have hmin2 : min (ys.length : Int) 30 = (yh.length : Int) := by rw [hyh, List.length_take]; omega
  have HSB : Hid (Si (fun _ => True) W b yh) := hid (by rw [hyh]; exact hsy.front 30)
  have hyb : (yh.length : Int) ≤ 30 := by omega
  have hyd : (yh.length : Int) ≤ d := by omega
  have hdm2 : (d : Int) ≤ 9223372036854775807 := by unfold maxLen at hdm; omega
  have HT := hid hT
  obtain ⟨r1, hr1, hr1'⟩ : ∃ r : Nat, (IntKind.u64.wrap size).tmod 200 = (r : Int) ∧ r < 200 := ⟨((IntKind.u64.wrap size).tmod 200).toNat, by
    rw [IntKind.wrap_u64, Int.tmod_eq_emod_of_nonneg (by omega)]; omega, by rw [IntKind.wrap_u64, Int.tmod_eq_emod_of_nonneg (by omega)]; omega⟩
  obtain ⟨r2, hr2, hr2'⟩ : ∃ r : Nat, (IntKind.u64.wrap other).tmod 200 = (r : Int) ∧ r < 200 := ⟨((IntKind.u64.wrap other).tmod 200).toNat, by
    rw [IntKind.wrap_u64, Int.tmod_eq_emod_of_nonneg (by omega)]; omega, by rw [IntKind.wrap_u64, Int.tmod_eq_emod_of_nonneg (by omega)]; omega⟩
  have hw1 : IntKind.i64.wrap (r1 : Int) = (r1 : Int) := by rw [IntKind.wrap_i64]; omega
  have hw2 : IntKind.i64.wrap (r2 : Int) = (r2 : Int) := by rw [IntKind.wrap_i64]; omega
  obtain ⟨S, hS⟩ : ∃ S, S = 1 + r1 := ⟨_, rfl⟩
  obtain ⟨O, hO⟩ : ∃ O, O = 1 + r2 := ⟨_, rfl⟩
  have hSi : 1 + (r1 : Int) = (S : Int) := by omega
  have hOi : 1 + (r2 : Int) = (O : Int) := by omega
  have hS1 : (1 : Int) ≤ S := by omega
  have hS2 : (S : Int) ≤ 200 := by omega
  have hO1 : (1 : Int) ≤ O := by omega
  have hO2 : (O : Int) ≤ 200 := by omega
  have HN1 := hid (fun z hz => new_any (fun b => b < W.heap.size) S a c zh z hz (by omega) (by omega) (by omega))
  have HN2 := hid (fun z hz => new_any (fun b => b < W.heap.size) O b d yh z hz (by omega) (by omega) (by omega))
  have HR1 := hid (fun z hz => refNewB_any (fun b => b < W.heap.size) S a c zh z hz (by omega) (by omega) (by omega))
  have HR2 := hid (fun z hz => refNewB_any (fun b => b < W.heap.size) O b d yh z hz (by omega) (by omega) (by omega))
  have HZA : Hid (∀ z, Below W.heap.size W z → Si (fun b => b < W.heap.size) z a zh) := hid fun z hz => (HSA.out.mono fun _ _ h => h).below hz
  have HZB : Hid (∀ z, Below W.heap.size W z → Si (fun b => b < W.heap.size) z b yh) := hid fun z hz => (HSB.out.mono fun _ _ h => h).below hz
  obtain ⟨m, hm⟩ : ∃ m, m = newB S zh := ⟨_, rfl⟩
  obtain ⟨mo, hmo⟩ : ∃ m, m = newB O yh := ⟨_, rfl⟩
  have HML : Hid (m.length = S) := hid (by rw [hm, newB_len])
  have HOL : Hid (mo.length = O) := hid (by rw [hmo, newB_len])
  rw [← hm] at HN1 HR1
  rw [← hmo] at HN2 HR2
  clear hs hsy hT hzh hyh hS hO HSA HSB hm hmo
  go_enter Tryd.func5, Tryd.ntmps5
  go_wp2_with fail
  go_quiet (fail)
  have HB0 : Hid (Below W.heap.size W (W.drewN nq)) := hid (below_drewN W nq)
  generalize W.drewN nq = w0 at *
  go_wp2_with fail
  refine (HN1.out w0 (HZA.out w0 HB0.out)).mono ?_
  clear HN1
  rintro e w1 ⟨⟨vs, rfl, hvs⟩, hb1⟩
  have HVS1 := hid hvs
  have HB1 := hid (HB0.out.trans (hb1.mono HB0.out.size))
  clear hvs hb1 HB0
  go_wp2_with fail
  refine (HN2.out w1 (HZB.out w1 HB1.out)).mono ?_
  clear HN2
  rintro e w2 ⟨⟨vt, rfl, hvt⟩, hb2⟩
  have HVS2 := hid (HVS1.out.below hb2)
  have HVT2 := hid hvt
  have HB2 := hid (HB1.out.trans (hb2.mono HB1.out.size))
  clear hvt hb2 HB1 HVS1
  go_wp2_with fail
  refine (HR1.out w2 (HZA.out w2 HB2.out)).mono ?_
  clear HR1
  rintro e w3 ⟨⟨am, cm, rfl, ham⟩, hb3⟩
  have HVS3 := hid (HVS2.out.below hb3)
  have HVT3 := hid (HVT2.out.below hb3)
  have HAM3 := hid ham
  have HB3 := hid (HB2.out.trans (hb3.mono HB2.out.size))
  clear ham hb3 HB2 HVS2 HVT2
  go_wp2_with fail
  refine (HR2.out w3 (HZB.out w3 HB3.out)).mono ?_
  clear HR2
  rintro e w4 ⟨⟨ao, co, rfl, hao⟩, hb4⟩
  have HVS := hid (HVS3.out.below hb4)
  have HVT := hid (HVT3.out.below hb4)
  have HAM := hid (HAM3.out.below hb4)
  have HAO := hid hao
  have HB4 := hid (HB3.out.trans (hb4.mono HB3.out.size))
  clear hao hb4 HB3 HVS3 HVT3 HAM3 HZA HZB
  have hmk : ∀ x : World, (Instr.makeSlice 30 (.int .i64 (S : Int)) (.int .i64 (S : Int))).run Tryd.prog x = .ok (.slice (some ⟨x.heap.size, 0, none⟩) S S) (x.alloc (.cells (madeCells #[.bool false] S) 4)) := fun x =>
    run_make_row' 30 4 (.bool false) 1 Tryd.underlying30 infoBool rfl .i64 .i64 S (by omega) (by omega) x
  go_upto_region 8 with fail
  go_cut [17, 18, 19] from 66 to 71 (fun x y z wc => Three w4 S x y z wc (List.replicate S false) (List.replicate S false) (List.replicate S false))
  case first =>
    go_region
    all_goals
      clear hmk
      go_wp2_with fail
      go_meet
      (first | exact three_made w4 S 0 1 2 (by unfold maxLen; omega) (by decide) (by decide) (by decide) (by decide) (by decide) (by decide) | exact three_made w4 S 0 2 1 (by unfold maxLen; omega) (by decide) (by decide) (by decide) (by decide) (by decide) (by decide) | exact three_made w4 S 1 0 2 (by unfold maxLen; omega) (by decide) (by decide) (by decide) (by decide) (by decide) (by decide) | exact three_made w4 S 1 2 0 (by unfold maxLen; omega) (by decide) (by decide) (by decide) (by decide) (by decide) (by decide) | exact three_made w4 S 2 0 1 (by unfold maxLen; omega) (by decide) (by decide) (by decide) (by decide) (by decide) (by decide) | exact three_made w4 S 2 1 0 (by unfold maxLen; omega) (by decide) (by decide) (by decide) (by decide) (by decide) (by decide))
  case rest =>
    clear hmk
    obtain ⟨w5, hw5⟩ : ∃ w5, w5 = wc := ⟨_, rfl⟩
    subst hw5
    obtain ⟨g1, g2, g3, rfl, rfl, rfl, n12, n13, n23, l1, l2, l3, q1, q2, q3, qb⟩ := hcut
    have HZ : Hid (Three w4 S (.slice (some ⟨g1, 0, none⟩) S S) (.slice (some ⟨g2, 0, none⟩) S S) (.slice (some ⟨g3, 0, none⟩) S S) w5 (partTo (fun i => inB m i || inB mo i) S 0) (partTo (fun i => inB m i && inB mo i) S 0) (partTo (fun i => inB m i && !inB mo i) S 0)) := hid (by
      rw [partTo_zero, partTo_zero, partTo_zero]
      exact ⟨g1, g2, g3, rfl, rfl, rfl, n12, n13, n23, l1, l2, l3, q1, q2, q3, qb⟩)
    have k12 : ¬ g2 = g1 := fun e => n12 e.symm
    have k13 : ¬ g3 = g1 := fun e => n13 e.symm
    have k23 : ¬ g3 = g2 := fun e => n23 e.symm
    clear q1 q2 q3 qb
    go_wp2_with fail
    go_loopw [20] (fun i wr => ∃ k : Nat, k ≤ S ∧ i = .int .i64 (k : Int) ∧ Three w4 S (.slice (some ⟨g1, 0, none⟩) S S) (.slice (some ⟨g2, 0, none⟩) S S) (.slice (some ⟨g3, 0, none⟩) S S) wr (partTo (fun i => inB m i || inB mo i) S k) (partTo (fun i => inB m i && inB mo i) S k) (partTo (fun i => inB m i && !inB mo i) S k)) (fun i _ => S - (intOf i).toNat)
    case atStart => exact ⟨0, Nat.zero_le _, rfl, HZ.out⟩
    case round =>
      obtain ⟨k, hk, rfl, h3⟩ := hrel
      have HT3 := hid h3
      obtain ⟨_, _, _, e1, e2, e3, _, _, _, _, _, _, q1, q2, q3, qb⟩ := h3
      have HR1 := hid q1
      have HR2 := hid q2
      have HR3 := hid q3
      have HBR := hid qb
      clear e1 e2 e3 q1 q2 q3 qb HZ
      by_cases hlt : (k : Int) < S
      · obtain ⟨bm, om, rfl, hcm⟩ : ∃ bm om, am = some ⟨bm, om, none⟩ ∧ wr.cell? ⟨bm, om + k, none⟩ = some (.bool (inB m k)) := by
          rcases HAM.out.below HBR.out with h | ⟨b', o, h, _, hc⟩
          · have := HML.out; rw [h] at this; simp at this; omega
          · exact ⟨b', o, h, hc k (by have := HML.out; omega)⟩
        have hz1 : ∃ u, wr.cell? ⟨g1, k, none⟩ = some (.bool u) := ⟨_, by
          have h := HR1.out.cells (g := g1) rfl k _ (bvals_get (by rw [partTo_len]; omega))
          rw [Addr.add_lit] at h
          simpa only [Nat.zero_add] using h⟩
        have hz2 : ∃ u, wr.cell? ⟨g2, k, none⟩ = some (.bool u) := ⟨_, by
          have h := HR2.out.cells (g := g2) rfl k _ (bvals_get (by rw [partTo_len]; omega))
          rw [Addr.add_lit] at h
          simpa only [Nat.zero_add] using h⟩
        have hz3 : ∃ u, wr.cell? ⟨g3, k, none⟩ = some (.bool u) := ⟨_, by
          have h := HR3.out.cells (g := g3) rfl k _ (bvals_get (by rw [partTo_len]; omega))
          rw [Addr.add_lit] at h
          simpa only [Nat.zero_add] using h⟩
        obtain ⟨u1, hz1⟩ := hz1
        obtain ⟨u2, hz2⟩ := hz2
        obtain ⟨u3', hz3⟩ := hz3
        have hf1 : wr.frozen? ⟨g1, k, none⟩ = false := HR1.out.frozenAt k
        have hf2 : wr.frozen? ⟨g2, k, none⟩ = false := HR2.out.frozenAt k
        have hf3 : wr.frozen? ⟨g3, k, none⟩ = false := HR3.out.frozenAt k
        have HP1 : Hid (∀ b, b = (inB m k || inB mo k) → partTo (fun i => inB m i || inB mo i) S (k + 1) = (partTo (fun i => inB m i || inB mo i) S k).set k b) := hid fun b hb => by rw [partTo_succ (by omega), hb]
        have HP2 : Hid (∀ b, b = (inB m k && inB mo k) → partTo (fun i => inB m i && inB mo i) S (k + 1) = (partTo (fun i => inB m i && inB mo i) S k).set k b) := hid fun b hb => by rw [partTo_succ (by omega), hb]
        have HP3 : Hid (∀ b, b = (inB m k && !inB mo k) → partTo (fun i => inB m i && !inB mo i) S (k + 1) = (partTo (fun i => inB m i && !inB mo i) S k).set k b) := hid fun b hb => by rw [partTo_succ (by omega), hb]
        have hkS : (k < S) = True := eq_true (by omega)
        clear HR1 HR2 HR3
        by_cases hkO : (k : Int) < O
        · obtain ⟨bo, oo, rfl, hco⟩ : ∃ bo oo, ao = some ⟨bo, oo, none⟩ ∧ wr.cell? ⟨bo, oo + k, none⟩ = some (.bool (inB mo k)) := by
            rcases HAO.out.below HBR.out with h | ⟨b', o, h, _, hc⟩
            · have := HOL.out; rw [h] at this; simp at this; omega
            · exact ⟨b', o, h, hc k (by have := HOL.out; omega)⟩
          have hkO2 : (k < O) = True := eq_true (by omega)
          have hmn : min (k : Int) ((O : Int) - 1) = (k : Int) := by omega
          cases hy : inB mo k
          · rw [hy] at hco
            cases hx : inB m k
            · rw [hx] at hcm
              have HXY := hid (And.intro hx hy)
              clear hx hy
              have HTH : Hid (Three w4 S _ _ _ (((wr.setCell ⟨g1, k, none⟩ (.bool false)).setCell ⟨g2, k, none⟩ (.bool false)).setCell ⟨g3, k, none⟩ (.bool false)) _ _ _) := hid (HT3.out.put (k := k) false false false)
              rw [← HP1.out false (by rw [HXY.out.1, HXY.out.2]; rfl), ← HP2.out false (by rw [HXY.out.1, HXY.out.2]; rfl), ← HP3.out false (by rw [HXY.out.1, HXY.out.2]; rfl)] at HTH
              clear HP1 HP2 HP3 HT3 HXY
              go_wp2_with fail
              go_region
              go_wp2_with fail
              go_roundw
              case rel => exact ⟨k + 1, by omega, by go_num, HTH.out.drew⟩
              case measure => simp [intOf]; omega
            · rw [hx] at hcm
              have HXY := hid (And.intro hx hy)
              clear hx hy
              have HTH : Hid (Three w4 S _ _ _ (((wr.setCell ⟨g1, k, none⟩ (.bool true)).setCell ⟨g2, k, none⟩ (.bool false)).setCell ⟨g3, k, none⟩ (.bool true)) _ _ _) := hid (HT3.out.put (k := k) true false true)
              rw [← HP1.out true (by rw [HXY.out.1, HXY.out.2]; rfl), ← HP2.out false (by rw [HXY.out.1, HXY.out.2]; rfl), ← HP3.out true (by rw [HXY.out.1, HXY.out.2]; rfl)] at HTH
              clear HP1 HP2 HP3 HT3 HXY
              go_wp2_with fail
              go_region
              go_wp2_with fail
              go_roundw
              case rel => exact ⟨k + 1, by omega, by go_num, HTH.out.drew⟩
              case measure => simp [intOf]; omega
          · rw [hy] at hco
            cases hx : inB m k
            · rw [hx] at hcm
              have HXY := hid (And.intro hx hy)
              clear hx hy
              have HTH : Hid (Three w4 S _ _ _ (((wr.setCell ⟨g1, k, none⟩ (.bool true)).setCell ⟨g2, k, none⟩ (.bool false)).setCell ⟨g3, k, none⟩ (.bool false)) _ _ _) := hid (HT3.out.put (k := k) true false false)
              rw [← HP1.out true (by rw [HXY.out.1, HXY.out.2]; rfl), ← HP2.out false (by rw [HXY.out.1, HXY.out.2]; rfl), ← HP3.out false (by rw [HXY.out.1, HXY.out.2]; rfl)] at HTH
              clear HP1 HP2 HP3 HT3 HXY
              go_wp2_with fail
              go_region
              go_wp2_with fail
              go_roundw
              case rel => exact ⟨k + 1, by omega, by go_num, HTH.out.drew⟩
              case measure => simp [intOf]; omega
            · rw [hx] at hcm
              have HXY := hid (And.intro hx hy)
              clear hx hy
              have HTH : Hid (Three w4 S _ _ _ (((wr.setCell ⟨g1, k, none⟩ (.bool true)).setCell ⟨g2, k, none⟩ (.bool true)).setCell ⟨g3, k, none⟩ (.bool false)) _ _ _) := hid (HT3.out.put (k := k) true true false)
              rw [← HP1.out true (by rw [HXY.out.1, HXY.out.2]; rfl), ← HP2.out true (by rw [HXY.out.1, HXY.out.2]; rfl), ← HP3.out false (by rw [HXY.out.1, HXY.out.2]; rfl)] at HTH
              clear HP1 HP2 HP3 HT3 HXY
              go_wp2_with fail
              go_region
              go_wp2_with fail
              go_roundw
              case rel => exact ⟨k + 1, by omega, by go_num, HTH.out.drew⟩
              case measure => simp [intOf]; omega
        · have hkO2 : (k < O) = False := eq_false (by omega)
          have hy : inB mo k = false := inB_far (by have := HOL.out; omega)
          clear hkO
          cases hx : inB m k
          · rw [hx] at hcm
            have HXY := hid (And.intro hx hy)
            clear hx hy
            have HTH : Hid (Three w4 S _ _ _ (((wr.setCell ⟨g1, k, none⟩ (.bool false)).setCell ⟨g2, k, none⟩ (.bool false)).setCell ⟨g3, k, none⟩ (.bool false)) _ _ _) := hid (HT3.out.put (k := k) false false false)
            rw [← HP1.out false (by rw [HXY.out.1, HXY.out.2]; rfl), ← HP2.out false (by rw [HXY.out.1, HXY.out.2]; rfl), ← HP3.out false (by rw [HXY.out.1, HXY.out.2]; rfl)] at HTH
            clear HP1 HP2 HP3 HT3 HXY
            go_wp2_with fail
            go_region
            go_wp2_with fail
            go_roundw
            case rel => exact ⟨k + 1, by omega, by go_num, HTH.out.drew⟩
            case measure => simp [intOf]; omega
          · rw [hx] at hcm
            have HXY := hid (And.intro hx hy)
            clear hx hy
            have HTH : Hid (Three w4 S _ _ _ (((wr.setCell ⟨g1, k, none⟩ (.bool true)).setCell ⟨g2, k, none⟩ (.bool false)).setCell ⟨g3, k, none⟩ (.bool true)) _ _ _) := hid (HT3.out.put (k := k) true false true)
            rw [← HP1.out true (by rw [HXY.out.1, HXY.out.2]; rfl), ← HP2.out false (by rw [HXY.out.1, HXY.out.2]; rfl), ← HP3.out true (by rw [HXY.out.1, HXY.out.2]; rfl)] at HTH
            clear HP1 HP2 HP3 HT3 HXY
            go_wp2_with fail
            go_region
            go_wp2_with fail
            go_roundw
            case rel => exact ⟨k + 1, by omega, by go_num, HTH.out.drew⟩
            case measure => simp [intOf]; omega
      · have HKS : Hid (k = S) := hid (by omega)
        have hkS : (k < S) = False := eq_false (by omega)
        have HMU : Hid (partTo (fun i => inB m i || inB mo i) S k = mix (fun x y => x || y) m mo) := hid (by rw [HKS.out, ← HML.out]; exact partTo_all (fun x y => x || y) m mo)
        have HMC : Hid (partTo (fun i => inB m i && inB mo i) S k = mix (fun x y => x && y) m mo) := hid (by rw [HKS.out, ← HML.out]; exact partTo_all (fun x y => x && y) m mo)
        have HMW : Hid (partTo (fun i => inB m i && !inB mo i) S k = mix (fun x y => x && !y) m mo) := hid (by rw [HKS.out, ← HML.out]; exact partTo_all (fun x y => x && !y) m mo)
        have hlr : ∀ {f : Bool → Bool → Bool} {g : Nat}, wr.ownsRow w4.heap.size 4 1 (.slice (some ⟨g, 0, none⟩) S S) S (bvals (mix f m mo)) → Bl (fun b => w4.heap.size ≤ b) wr (some ⟨g, 0, none⟩) (mix f m mo) := fun h => by
          obtain ⟨aw, cw, hvw, -, -, -, -, hbl⟩ := Bl.owned h
          obtain ⟨haw, -, -⟩ := Value.slice.inj hvw
          rw [haw]; exact hbl
        have HU : Hid (Bl (fun b => w4.heap.size ≤ b) wr (some ⟨g1, 0, none⟩) (mix (fun x y => x || y) m mo)) := hid (hlr (by rw [← HMU.out]; exact HR1.out))
        have HC : Hid (Bl (fun b => w4.heap.size ≤ b) wr (some ⟨g2, 0, none⟩) (mix (fun x y => x && y) m mo)) := hid (hlr (by rw [← HMC.out]; exact HR2.out))
        have HW : Hid (Bl (fun b => w4.heap.size ≤ b) wr (some ⟨g3, 0, none⟩) (mix (fun x y => x && !y) m mo)) := hid (hlr (by rw [← HMW.out]; exact HR3.out))
        have HTZ : Hid (∀ z, Two2 W wr z → Tab z) := hid fun z hz => HT.out.below hz.1
        have hte : ∀ {ok ok' : Nat → Prop} {x : Value} {l : List Bool} {g : Option Addr} {n cc : Nat} {z : World}, n = l.length → n = S → Two2 W wr z → Bm ok z x l → Bl ok' z g l → Calls Tryd.prog 13 #[x, .slice g n cc, .int .i64 no] z fun e w' => e = .returned (.bool true) ∧ Below z.heap.size z w' := fun {ok ok' x l g n cc z} hn hnS hz hx hg => by
          have h := tells_any ok ok' x l g cc no z hx hg (HTZ.out z hz) (by omega) hz0.1 hz0.2
          rw [← hn] at h
          exact h
        have HTU : Hid (∀ (z : World) (x : Value) (B : Nat), Two2 W wr z → NewSet B z x (mix (fun x y => x || y) m mo) → Calls Tryd.prog 13 #[x, .slice (some ⟨g1, 0, none⟩) S S, .int .i64 no] z fun e w' => e = .returned (.bool true) ∧ Below z.heap.size z w') := hid fun z x B hz hx => hte (by rw [mix_len, HML.out]) rfl hz hx.bm (HU.out.below hz.2)
        have HTC : Hid (∀ (z : World) (x : Value) (B : Nat), Two2 W wr z → NewSet B z x (mix (fun x y => x && y) m mo) → Calls Tryd.prog 13 #[x, .slice (some ⟨g2, 0, none⟩) S S, .int .i64 no] z fun e w' => e = .returned (.bool true) ∧ Below z.heap.size z w') := hid fun z x B hz hx => hte (by rw [mix_len, HML.out]) rfl hz hx.bm (HC.out.below hz.2)
        have HTW : Hid (∀ (z : World) (x : Value) (B : Nat), Two2 W wr z → NewSet B z x (mix (fun x y => x && !y) m mo) → Calls Tryd.prog 13 #[x, .slice (some ⟨g3, 0, none⟩) S S, .int .i64 no] z fun e w' => e = .returned (.bool true) ∧ Below z.heap.size z w') := hid fun z x B hz hx => hte (by rw [mix_len, HML.out]) rfl hz hx.bm (HW.out.below hz.2)
        have HBS : Hid (∀ z, Two2 W wr z → Bm (fun _ => True) z vs m) := hid fun z hz => ((HVS.out.below HBR.out).below hz.2).bm.mono fun _ _ _ => trivial
        have HBT : Hid (∀ z, Two2 W wr z → Bm (fun _ => True) z vt mo) := hid fun z hz => ((HVT.out.below HBR.out).below hz.2).bm.mono fun _ _ _ => trivial
        have HTS : Hid (∀ z, Two2 W wr z → Calls Tryd.prog 13 #[vs, .slice am S cm, .int .i64 no] z fun e w' => e = .returned (.bool true) ∧ Below z.heap.size z w') := hid fun z hz => hte HML.out.symm rfl hz (HBS.out z hz) ((HAM.out.below HBR.out).below hz.2)
        have HRA : Hid (∀ z, Two2 W wr z → Calls Tryd.prog 23 #[.slice am S cm] z fun e w' => (∃ x, e = .returned x ∧ Ints z.heap.size w' x (numsI m)) ∧ Below z.heap.size z w') := hid fun z hz => by
          have h := refAllI_any _ am cm m z ((HAM.out.below HBR.out).below hz.2) (by rw [HML.out]; omega)
          rw [HML.out] at h
          exact h
        have HRO : Hid (∀ z, Two2 W wr z → Calls Tryd.prog 23 #[.slice ao O co] z fun e w' => (∃ x, e = .returned x ∧ Ints z.heap.size w' x (numsI mo)) ∧ Below z.heap.size z w') := hid fun z hz => by
          have h := refAllI_any _ ao co mo z ((HAO.out.below HBR.out).below hz.2) (by rw [HOL.out]; omega)
          rw [HOL.out] at h
          exact h
        have HNL : Hid ((numsI m).length ≤ S) := hid (by have := numsI_le m; rw [HML.out] at this; exact this)
        have HW0 : Hid (Below W.heap.size W wr) := hid (HB4.out.trans (HBR.out.mono HB4.out.size))
        obtain ⟨w6, hw6⟩ : ∃ w6, w6 = wr := ⟨_, rfl⟩
        have HK0 : Hid (Two2 W wr w6) := hid (by rw [hw6]; exact ⟨HW0.out, Below.refl _ _⟩)
        rw [← hw6]
        obtain ⟨bs, hbs⟩ : ∃ b, vs = .pointer (some ⟨b, 0, none⟩) := by
          obtain ⟨b, g, c, V, h, _⟩ := HVS.out
          exact ⟨b, h⟩
        obtain ⟨bt, hbt⟩ : ∃ b, vt = .pointer (some ⟨b, 0, none⟩) := by
          obtain ⟨b, g, c, V, h, _⟩ := HVT.out
          exact ⟨b, h⟩
        subst hbs hbt
        clear hlr hte hlt HR1 HR2 HR3 HT3 HMU HMC HMW hw6 HW0 HVS HVT
        go_wp2_with fail
        refine (known_any w6 (HTZ.out _ HK0.out)).mono ?_
        rintro e w7 ⟨rfl, hb⟩
        have HK1 := hid (HK0.out.on hb)
        clear hb HK0
        go_wp2_with fail
        have HK2 := hid (HK1.out.on (alloc_below w7 (.cells #[.pointer (some ⟨bt, 0, none⟩)] 23)))
        have HBM := hid (bms_one (HBT.out _ HK1.out) 23)
        clear HK1
        generalize w7.alloc (.cells #[.pointer (some ⟨bt, 0, none⟩)] 23) = w8 at *
        refine (union_any (fun _ => True) _ m _ 1 1 _ w8 (HBS.out _ HK2.out) HBM.out (by decide)).mono ?_
        rintro e w9 ⟨⟨x, rfl, hx⟩, hb⟩
        have HX : Hid (NewSet w8.heap.size w9 x (mix (fun x y => x || y) m mo)) := hid (copy_post_some (by rw [mix_len, HML.out]; omega) hx)
        clear hx HBM
        have HK3 := hid (HK2.out.on hb)
        clear hb HK2
        go_wp2_with fail
        refine (HTU.out _ _ _ HK3.out HX.out).mono ?_
        rintro e w10 ⟨rfl, hb⟩
        have HK4 := hid (HK3.out.on hb)
        clear HX HTU
        clear hb HK3
        go_wp2_with fail
        refine (common_any (fun _ => True) _ _ m mo w10 (HBS.out _ HK4.out) (HBT.out _ HK4.out)).mono ?_
        rintro e w11 ⟨⟨x, rfl, hx⟩, hb⟩
        have HK5 := hid (HK4.out.on hb)
        have HX := hid (copy_post_some (by rw [mix_len, HML.out]; omega) hx)
        clear hx
        clear hb HK4
        go_wp2_with fail
        refine (HTC.out _ _ _ HK5.out HX.out).mono ?_
        rintro e w12 ⟨rfl, hb⟩
        have HK6 := hid (HK5.out.on hb)
        clear HX HTC
        clear hb HK5
        go_wp2_with fail
        refine (without_any (fun _ => True) _ _ m mo w12 (HBS.out _ HK6.out) (HBT.out _ HK6.out)).mono ?_
        rintro e w13 ⟨⟨x, rfl, hx⟩, hb⟩
        have HK7 := hid (HK6.out.on hb)
        have HX := hid (copy_post_some (by rw [mix_len, HML.out]; omega) hx)
        clear hx
        clear hb HK6
        go_wp2_with fail
        refine (HTW.out _ _ _ HK7.out HX.out).mono ?_
        rintro e w14 ⟨rfl, hb⟩
        have HK8 := hid (HK7.out.on hb)
        clear HX HTW
        clear hb HK7
        go_wp2_with fail
        refine (HTS.out _ HK8.out).mono ?_
        rintro e w15 ⟨rfl, hb⟩
        have HK9 := hid (HK8.out.on hb)
        clear hb HK8
        by_cases hSO : S = O
        · have hSOi : ((S : Int) == O) = true := by rw [beq_iff_eq]; omega
          obtain ⟨bb, hbb⟩ : ∃ bb, bb = decide (m = mo) := ⟨_, rfl⟩
          have HBB : Hid (decide (m = mo) = bb) := hid hbb.symm
          have HBE : Hid (decide (numsI m = numsI mo) = bb) := hid (by rw [hbb]; exact decide_eq_decide.2 (Iff.of_eq (numsI_inj (by rw [HML.out, HOL.out, hSO]))))
          clear hbb hSO
          go_wp2_with fail
          refine (sameSet_any (fun _ => True) _ _ m mo w15 (HBS.out _ HK9.out) (HBT.out _ HK9.out)).mono ?_
          rintro e w16 ⟨rfl, hb⟩
          have HK10 := hid (HK9.out.on hb)
          clear hb HK9
          rw [HBB.out]
          go_wp2_with fail
          refine (HRA.out _ HK10.out).mono ?_
          rintro e w17 ⟨⟨x1, rfl, hx1⟩, hb⟩
          obtain ⟨a1, c1, rfl, -, -, hs1⟩ := hx1
          have HS1 := hid hs1
          have HK11 := hid (HK10.out.on hb)
          clear hb HK10 hs1
          go_wp2_with fail
          refine (HRO.out _ HK11.out).mono ?_
          rintro e w18 ⟨⟨x2, rfl, hx2⟩, hb⟩
          obtain ⟨a2, c2, rfl, -, -, hs2⟩ := hx2
          have HSM := hid (refSame_any _ _ a1 a2 c1 c2 _ _ w18 (HS1.out.below hb) hs2 (by have := HNL.out; omega))
          rw [HBE.out] at HSM
          have HK12 := hid (HK11.out.on hb)
          clear hb HK11 hs2 HS1
          generalize (numsI m).length = n1 at *
          generalize (numsI mo).length = n2 at *
          go_wp2_with fail
          refine (HSM.out).mono ?_
          rintro e w19 ⟨rfl, hb⟩
          have HK13 := hid (HK12.out.on hb)
          clear HSM
          clear hb HK12
          go_wp2_with fail
          refine (copy_any (fun _ => True) _ m w19 (HBS.out _ HK13.out)).mono ?_
          rintro e w20 ⟨⟨x, rfl, hx⟩, hb⟩
          have HK14 := hid (HK13.out.on hb)
          have HX := hid (copy_post_some (by rw [HML.out]; omega) hx)
          clear hx
          clear hb HK13
          go_wp2_with fail
          refine (same_selves _ _ m w20 (HBS.out _ HK14.out) (HX.out.bm.mono fun _ _ _ => trivial)).mono ?_
          rintro e w21 ⟨rfl, hb⟩
          have HK15 := hid (HK14.out.on hb)
          clear HX
          clear hb HK14
          go_wp2_with fail
          go_ret
          exact ⟨by simp, HK15.out.1⟩
        · have hSOi : ((S : Int) == O) = false := by rw [beq_eq_false_iff_ne]; omega
          have HBB : Hid (decide (m = mo) = false) := hid (decide_eq_false fun e => hSO (by rw [← HML.out, ← HOL.out, e]))
          clear hSO
          go_wp2_with fail
          refine (sameSet_any (fun _ => True) _ _ m mo w15 (HBS.out _ HK9.out) (HBT.out _ HK9.out)).mono ?_
          rintro e w16 ⟨rfl, hb⟩
          have HK10 := hid (HK9.out.on hb)
          clear hb HK9
          rw [HBB.out]
          go_wp2_with fail
          refine (copy_any (fun _ => True) _ m w16 (HBS.out _ HK10.out)).mono ?_
          rintro e w17 ⟨⟨x, rfl, hx⟩, hb⟩
          have HK11 := hid (HK10.out.on hb)
          have HX := hid (copy_post_some (by rw [HML.out]; omega) hx)
          clear hx
          clear hb HK10
          go_wp2_with fail
          refine (same_selves _ _ m w17 (HBS.out _ HK11.out) (HX.out.bm.mono fun _ _ _ => trivial)).mono ?_
          rintro e w18 ⟨rfl, hb⟩
          have HK12 := hid (HK11.out.on hb)
          clear HX
          clear hb HK11
          go_wp2_with fail
          go_ret
          exact ⟨by simp, HK12.out.1⟩
end Go.Proofs.YtpdkfmanehgabaaDoor
