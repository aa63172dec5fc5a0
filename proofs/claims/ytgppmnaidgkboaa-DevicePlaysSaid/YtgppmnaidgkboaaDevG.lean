/- CONTRACTS: what survives of a page: the first versions alone; a part alone. -/
import Derived.Test.YtgppmnaidgkboaaDevF
namespace Go.Proofs.Ytgppmnaidgkboaa
open Go.RowKit Go.Inc

set_option maxRecDepth 20000 in
set_option maxHeartbeats 1000000 in
theorem survive_first {C w g L c M f I p n S} (h : DevAt C w g L c M f I p n S) (x : Nat) (N part : Int) (hn : n ≤ 1000000) (hI : I x ≠ []) (h0 : 0 < keptN (I x).length N) (hl : keptN (I x).length N = (I x).length) :
    Calls Try.prog 39 #[.pointer (some ⟨g, 0, none⟩), .agg #[.int .i64 (x : Int), .int .i64 N, .int .i64 part]] w fun e w' => e = .returned (.int .i64 (keptN (I x).length N : Nat)) ∧
      w'.ownsRow 0 5 1 (.slice (some ⟨L, 0, none⟩) (256 * p) c) (256 * p) (u8s (keptB S.B x (S.W x) N part)) ∧ Mv (fun b => b = L) w w' := by
  obtain ⟨v, hv, hV⟩ := look_some h hI
  obtain ⟨hx0, hxp⟩ := h.dom _ _ hv
  have hmn := h.few x
  obtain ⟨w1, hw1⟩ : ∃ w1, w1 = w.alloc (.cells #[.int .i64 (x : Int), .int .i64 N, .int .i64 part] 68) := ⟨_, rfl⟩
  have hb1 : Below w.heap.size w w1 := by rw [hw1]; exact (Below.refl _ _).alloc (Nat.le_refl _) _
  have hd1 := h.keep (Mv.of_below (F := fun _ => False) hb1) (fun _ h => h.elim)
  have hgw := h.lt g (by rw [h.cg]; decide)
  have hV1 := hd1.ver _ _ hv
  obtain ⟨R, cap, rfl, hR, hcap1, hcap2, hcell⟩ := hV1.shape
  obtain ⟨qa, hqa, hsa, hla, hca, hca'⟩ := hV1.item (i := keptN (I x).length N - 1) (by omega)
  have cellA := hcell _ _ hqa
  obtain ⟨ada, ha1, ha2, ha3, ha4⟩ := Sl.addr hsa (by omega)
  have hWB : S.W x = (I x).map Item.b := h.wait x
  have hwa : (S.W x).getD (keptN (I x).length N - 1) [] = qa.b := by rw [hWB, List.getD_eq_getElem?_getD, List.getElem?_map, hqa]; rfl
  have hwl : (S.W x).length = (I x).length := by rw [hWB, List.length_map]
  have hKB : Hid (keptB S.B x (S.W x) N part = splice S.B (256 * x) qa.b) := hid (by
    unfold keptB
    simp only [hwl, hwa]
    rw [if_neg (by omega), if_pos h0])
  have hk0 : w1.cell? ⟨w.heap.size, 0, none⟩ = some (.int .i64 (x : Int)) := by rw [hw1]; exact cell_of_row _ _ 0 _ _ _ (heap_alloc_new w _)
  have hk1 : w1.cell? ⟨w.heap.size, 1, none⟩ = some (.int .i64 N) := by rw [hw1]; exact cell_of_row _ _ 1 _ _ _ (heap_alloc_new w _)
  have c4 := hd1.row.c4
  have hbx : -9223372036854775808 ≤ (x : Int) ∧ (x : Int) ≤ 9223372036854775807 := by have := h.pp; omega
  have hlook : ∀ k, (Instr.lookup 72 (.map (some M)) (.int .i64 (x : Int)) false).run Try.prog (w1.drewN k) = .ok (.slice (some ⟨R, 0, none⟩) (I x).length cap) (w1.drewN k) := fun k => by
    have := Mp.look_run (hd1.map.same (w' := w1.drewN k) rfl) Try.underlying3 Try.underlying72 (.slice none 0 0) (by kernel_rfl) (x : Int) hbx
    rw [hv] at this
    exact this
  have hml : (I x).length ≤ 1000000 := by omega
  have hkk : Hid (max 0 (min N ((I x).length : Int)) = ((keptN (I x).length N : Nat) : Int)) := hid (by unfold keptN; omega)
  rw [hKB.out]
  clear hKB
  have hlaid := hid hd1.laid
  have hrow := hid hd1.row
  have hpp := h.pp
  have hcp := own_cap hd1.laid
  have HB : S.B.length = 256 * p := by have := hd1.laid.1; rw [u8s_length] at this; omega
  have hCL := h.cL
  have hCR := hR
  have hCg := h.cg
  have hgL : g ≠ L := by rintro rfl; rw [hCg] at hCL; omega
  have hRL : R ≠ L := by rintro rfl; omega
  have haL : ada.block ≠ L := by intro e; rw [e] at ha2; omega
  have hBL : w.heap.size ≠ L := by have := h.lt L (by omega); omega
  rw [ha1] at cellA
  generalize hmk : (I x).length = m at *
  generalize hkn : keptN m N = k at *
  have HW := hid hw1
  have HB1 := hid hb1
  have HA4 := hid ha4
  have hkm : (k : Int) = m ∧ (0 : Int) < k := by omega
  have hwk := fun w' => within_any w' N m
  rw [hkk.out] at hwk
  clear h hd1 hw1 hb1 hV hV1 hv hcell hWB hwa hwl hmk hkn ha4 hsa hqa hkk hCL hCR hCg hR ha2 ha1
  clear hI
  go_enter Try.func39, Try.ntmps39
  go_wp2_with fail
  rw [← HW.out]
  go_quiet (fail)
  obtain ⟨w2, hw2⟩ : ∃ w2, w2 = w1.drewN nq := ⟨_, rfl⟩
  rw [← hw2]
  have HW2 := hid hw2
  have cellA' : w2.cell? ⟨R, k - 1, none⟩ = some (.slice (some ada) 256 qa.c) := by rw [hw2]; exact cellA
  have k0 : w2.cell? ⟨w.heap.size, 0, none⟩ = some (.int .i64 (x : Int)) := by rw [hw2]; exact hk0
  have k1 : w2.cell? ⟨w.heap.size, 1, none⟩ = some (.int .i64 N) := by rw [hw2]; exact hk1
  have hrow2 : DevRow w2 g S.on S.armed S.left (.slice (some ⟨L, 0, none⟩) (256 * p) c) (.map (some M)) S.r S.s S.t := by rw [hw2]; exact hrow.out
  have hP := hid (calls_sym (page_some w2.drew g _ _ _ _ p _ x _ _ _ _ hrow2 hpp.2 (by omega) hcp.1 hcp.2))
  have hlaid2 : w2.ownsRow 0 5 1 (.slice (some ⟨L, 0, none⟩) (256 * p) c) (256 * p) (u8s S.B) := by rw [hw2]; exact hlaid.out
  clear hw2 hlook hk0 hk1
  obtain ⟨j, hj⟩ : ∃ j, j = k - 1 := ⟨_, rfl⟩
  rw [← hj] at cellA'
  have hkm1 : wrap64 ((k : Int) - 1) = (j : Int) := by simp [wrap64]; omega
  have hkm2 : (k : Int) - 1 = (j : Int) := by omega
  have hwj : IntKind.i64.wrap (j : Int) = (j : Int) := by rw [IntKind.wrap_i64]; omega
  have hjm : (j : Int) < m ∧ (0 : Int) ≤ j := by omega
  clear hj cellA
  have t0 : (0 < k) = True := by simp; omega
  have t1 : (k < m) = False := by simp; omega
  have t2 : (m : Int) ≤ k := by omega
  have HNM := hid (And.intro HB (And.intro hca (And.intro hcp hla)))
  have hkme := hid hkm.1
  clear hkm hl
  have HXP := hid (And.intro hxp hpp)
  clear hmn hcap2 hla hca' HB hca hcp hml hn hxp hx0 hpp
  go_wp2_with fail
  refine (hwk _).mono ?_
  rintro e w' ⟨rfl, rfl⟩
  go_wp2_with fail
  go_still_tail 9, mixed
  still_call hP.out
  repeat still_step
  refine wpStill_nil ?_
  change wpList _ _ _ _ _ w2.drew
  have HN := HNM.out
  refine wpList_copy_row rfl (.tmp 24) (.tmp 29) 31 31 rfl 5 Try.underlying31 sizeU8 0 L (256 * p) c (u8s S.B) hlaid2 (256 * x) 256 _ rfl ada 256 _ rfl (u8s qa.b) ?_ ?_ ?_ (u8s_one _) ?_
  · rw [u8s_length, HN.2.2.2]; rfl
  · rw [HW2.out]; exact HA4.out
  · rw [u8s_length, HN.2.2.2]; have := HXP.out; omega
  intro w3 hlaid3 hg3
  rw [u8s_splice] at hlaid3
  have HL3 := hid hlaid3
  have HG3 := hid hg3
  have HM3 : Hid (Mv (fun b => b = L) w w3) := hid (by
    have m1 : Mv (fun b => b = L) w w2.drew := by rw [HW2.out]; exact ((Mv.of_below HB1.out).drewN nq).drew
    exact m1.trans (Mv.of_grown HG3.out fun g h _ => by cases h; rfl))
  clear hlaid3 hg3 hP k0 k1 cellA' HN hkm1 hkm2 hwj
  go_wp2_with fail
  go_ret
  exact ⟨rfl, HL3.out, HM3.out⟩

set_option maxRecDepth 20000 in
set_option maxHeartbeats 1000000 in
theorem survive_part {C w g L c M f I p n S} (h : DevAt C w g L c M f I p n S) (x : Nat) (N part : Int) (hn : n ≤ 1000000) (hI : I x ≠ []) (h0 : keptN (I x).length N = 0) :
    Calls Try.prog 39 #[.pointer (some ⟨g, 0, none⟩), .agg #[.int .i64 (x : Int), .int .i64 N, .int .i64 part]] w fun e w' => e = .returned (.int .i64 (keptN (I x).length N : Nat)) ∧
      w'.ownsRow 0 5 1 (.slice (some ⟨L, 0, none⟩) (256 * p) c) (256 * p) (u8s (keptB S.B x (S.W x) N part)) ∧ Mv (fun b => b = L) w w' := by
  obtain ⟨v, hv, hV⟩ := look_some h hI
  obtain ⟨hx0, hxp⟩ := h.dom _ _ hv
  have hmn := h.few x
  obtain ⟨w1, hw1⟩ : ∃ w1, w1 = w.alloc (.cells #[.int .i64 (x : Int), .int .i64 N, .int .i64 part] 68) := ⟨_, rfl⟩
  have hb1 : Below w.heap.size w w1 := by rw [hw1]; exact (Below.refl _ _).alloc (Nat.le_refl _) _
  have hd1 := h.keep (Mv.of_below (F := fun _ => False) hb1) (fun _ h => h.elim)
  have hgw := h.lt g (by rw [h.cg]; decide)
  have hV1 := hd1.ver _ _ hv
  obtain ⟨R, cap, rfl, hR, hcap1, hcap2, hcell⟩ := hV1.shape
  have hl : keptN (I x).length N < (I x).length := by rw [h0]; exact List.length_pos_iff.2 hI
  obtain ⟨qb, hqb, hsb, hlb, hcb, hcb'⟩ := hV1.item (i := keptN (I x).length N) hl
  have cellB := hcell _ _ hqb
  obtain ⟨adb, hb1', hb2, hb3, hb4⟩ := Sl.addr hsb (by omega)
  have hWB : S.W x = (I x).map Item.b := h.wait x
  have hwb : (S.W x).getD (keptN (I x).length N) [] = qb.b := by rw [hWB, List.getD_eq_getElem?_getD, List.getElem?_map, hqb]; rfl
  have hwl : (S.W x).length = (I x).length := by rw [hWB, List.length_map]
  have hKB : Hid (keptB S.B x (S.W x) N part = splice S.B (256 * x) (qb.b.take (max 0 (min part 256)).toNat)) := hid (by
    unfold keptB
    simp only [hwl, hwb]
    rw [if_pos hl, if_neg (by omega)])
  have hk0 : w1.cell? ⟨w.heap.size, 0, none⟩ = some (.int .i64 (x : Int)) := by rw [hw1]; exact cell_of_row _ _ 0 _ _ _ (heap_alloc_new w _)
  have hk1 : w1.cell? ⟨w.heap.size, 1, none⟩ = some (.int .i64 N) := by rw [hw1]; exact cell_of_row _ _ 1 _ _ _ (heap_alloc_new w _)
  have hk2 : w1.cell? ⟨w.heap.size, 2, none⟩ = some (.int .i64 part) := by rw [hw1]; exact cell_of_row _ _ 2 _ _ _ (heap_alloc_new w _)
  have c4 := hd1.row.c4
  have hbx : -9223372036854775808 ≤ (x : Int) ∧ (x : Int) ≤ 9223372036854775807 := by have := h.pp; omega
  have hlook : ∀ k, (Instr.lookup 72 (.map (some M)) (.int .i64 (x : Int)) false).run Try.prog (w1.drewN k) = .ok (.slice (some ⟨R, 0, none⟩) (I x).length cap) (w1.drewN k) := fun k => by
    have := Mp.look_run (hd1.map.same (w' := w1.drewN k) rfl) Try.underlying3 Try.underlying72 (.slice none 0 0) (by kernel_rfl) (x : Int) hbx
    rw [hv] at this
    exact this
  have hml : (I x).length ≤ 1000000 := by omega
  have hkk : Hid (max 0 (min N ((I x).length : Int)) = ((keptN (I x).length N : Nat) : Int)) := hid (by unfold keptN; omega)
  obtain ⟨pt, hpt, hpt2⟩ : ∃ pt : Nat, max 0 (min part 256) = (pt : Int) ∧ pt ≤ 256 := ⟨(max 0 (min part 256)).toNat, by omega, by omega⟩
  have hptn : (max 0 (min part 256)).toNat = pt := by rw [hpt]; rfl
  rw [hptn] at hKB
  rw [hKB.out]
  clear hKB
  have hlaid := hid hd1.laid
  have hrow := hid hd1.row
  have hpp := h.pp
  have hcp := own_cap hd1.laid
  have HB : S.B.length = 256 * p := by have := hd1.laid.1; rw [u8s_length] at this; omega
  have hCL := h.cL
  have hCR := hR
  have hCg := h.cg
  have hgL : g ≠ L := by rintro rfl; rw [hCg] at hCL; omega
  have hRL : R ≠ L := by rintro rfl; omega
  have hbL : adb.block ≠ L := by intro e; rw [e] at hb2; omega
  have hBL : w.heap.size ≠ L := by have := h.lt L (by omega); omega
  rw [hb1'] at cellB
  generalize hmk : (I x).length = m at *
  generalize hkn : keptN m N = k at *
  subst h0
  have HW := hid hw1
  have HB1 := hid hb1
  have HB4 := hid hb4
  have hkm : (0 : Int) < m := by omega
  have h00 : ((0 : Nat) : Int) = 0 := rfl
  rw [h00] at hkk
  clear h00
  have Hpt := hid hpt
  have hwk := fun w' => within_any w' N m
  rw [hkk.out] at hwk
  have hwp := fun w' => within_any w' part 256
  rw [hpt] at hwp
  clear h hd1 hw1 hb1 hV hV1 hv hcell hWB hwb hwl hmk hkn hb4 hsb hqb hpt hptn hkk hCL hCR hCg hR hb2 hb1'
  clear hI
  go_enter Try.func39, Try.ntmps39
  go_wp2_with fail
  rw [← HW.out]
  go_quiet (fail)
  obtain ⟨w2, hw2⟩ : ∃ w2, w2 = w1.drewN nq := ⟨_, rfl⟩
  rw [← hw2]
  have HW2 := hid hw2
  have k0 : w2.cell? ⟨w.heap.size, 0, none⟩ = some (.int .i64 (x : Int)) := by rw [hw2]; exact hk0
  have k1 : w2.cell? ⟨w.heap.size, 1, none⟩ = some (.int .i64 N) := by rw [hw2]; exact hk1
  have hrow2 : DevRow w2 g S.on S.armed S.left (.slice (some ⟨L, 0, none⟩) (256 * p) c) (.map (some M)) S.r S.s S.t := by rw [hw2]; exact hrow.out
  have hlaid2 : w2.ownsRow 0 5 1 (.slice (some ⟨L, 0, none⟩) (256 * p) c) (256 * p) (u8s S.B) := by rw [hw2]; exact hlaid.out
  have cellB' : w2.cell? ⟨R, 0, none⟩ = some (.slice (some adb) 256 qb.c) := by rw [hw2]; exact cellB
  have hk2' : w2.cell? ⟨w.heap.size, 2, none⟩ = some (.int .i64 part) := by rw [hw2]; exact hk2
  have HCB := hid (And.intro cellB' hk2')
  clear hw2 hlook hk0 hk1 hk2 cellB cellB' hk2'
  have t1 : (0 < m) = True := by simp; omega
  have HNM := hid (And.intro HB (And.intro hpt2 (And.intro True.intro (And.intro hcb (And.intro hcp (And.intro True.intro hlb))))))
  have HXP := hid (And.intro hxp hpp)
  clear hmn hcap2 hlb hcb' HB hpt2 hcb hcp hml hn hxp hx0 hpp
  go_wp2_with fail
  refine (hwk _).mono ?_
  rintro e w' ⟨rfl, rfl⟩
  obtain ⟨w3, hw3⟩ : ∃ w3, w3 = w2 := ⟨_, rfl⟩
  rw [← hw3] at HW2 k0 k1 hrow2 hlaid2 HCB ⊢
  clear hw3
  have HL3 := hid hlaid2
  have HN := HNM.out
  have k0' : w3.cell? ⟨w.heap.size, 0, none⟩ = some (.int .i64 (x : Int)) := k0
  have k2' : w3.cell? ⟨w.heap.size, 2, none⟩ = some (.int .i64 part) := HCB.out.2
  have cB' : w3.cell? ⟨R, 0, none⟩ = some (.slice (some adb) 256 qb.c) := HCB.out.1
  have hrow3 : DevRow w3 g S.on S.armed S.left (.slice (some ⟨L, 0, none⟩) (256 * p) c) (.map (some M)) S.r S.s S.t := hrow2
  have hP3 := hid (calls_sym (page_some w3.drew g _ _ _ _ p _ x _ _ _ _ hrow3 HXP.out.2.2 (by have := HXP.out; omega) HN.2.2.2.2.1.1 HN.2.2.2.2.1.2))
  have hW3 := hid (calls_sym (hwp w3.drew))
  have hB3 : Hid (∀ j u, (u8s (qb.b.take pt))[j]? = some u → w3.cell? (adb.add j) = some u) := hid (take_cells (fun j u hu => by rw [HW2.out]; exact HB4.out j u hu) pt)
  clear hrow3 k0 k1 hwp HCB hrow2 HN hlaid2
  have hpi : (0 : Int) ≤ pt ∧ (pt : Int) ≤ 256 ∧ (pt : Int) ≤ (qb.c : Int) := by have := HNM.out; omega
  go_wp2_with fail
  go_still_tail 12, mixed
  still_call hP3.out
  repeat still_step
  still_call hW3.out
  repeat still_step
  refine wpStill_nil ?_
  change wpList _ _ _ _ _ w3.drew
  have HN := HNM.out
  have hlt : (qb.b.take pt).length = pt := by rw [List.length_take]; omega
  refine wpList_copy_row rfl (.tmp 38) (.tmp 46) 31 31 rfl 5 Try.underlying31 sizeU8 0 L (256 * p) c (u8s S.B) HL3.out (256 * x) 256 _ rfl adb pt _ rfl (u8s (qb.b.take pt)) ?_ ?_ ?_ (u8s_one _) ?_
  · rw [u8s_length, hlt]; exact (Nat.min_eq_left HN.2.1).symm
  · exact hB3.out
  · rw [u8s_length, hlt]; have := HXP.out; omega
  intro w4 hlaid4 hg4
  rw [u8s_splice] at hlaid4
  have HL4 := hid hlaid4
  have HM4 : Hid (Mv (fun b => b = L) w w4) := hid (by
    have m1 : Mv (fun b => b = L) w w3.drew := by rw [HW2.out]; exact ((Mv.of_below HB1.out).drewN nq).drew
    exact m1.trans (Mv.of_grown hg4 fun g h _ => by cases h; rfl))
  clear hlaid4 hg4 hlt HN
  go_wp2_with fail
  go_ret
  exact ⟨rfl, HL4.out, HM4.out⟩
end Go.Proofs.Ytgppmnaidgkboaa
