/- CONTRACT: what survives of a page. CONTRACT: what survives of a page of which something waits. CONTRACTS: what survives of a page: the first versions alone; a part alone. CONTRACTS: a page's survivors, whatever waits; power, arming, counts, the image. CONTRACTS: what waits in all, counts, the image; reading. -/
import Derived.Test.YtebacgkeolofmaaU24
import Derived.StillTailTactics
namespace Go.Inc
open Go.RowKit Go.Maps

/-- The look-up, as an equation. -/
theorem Mp.look_run {P : Program} {k t e : TypeId} {w : World} {b n : Nat} {f : Int → Option Value} (h : Mp P k w b n f) (hk : P.underlying k = some (.int .i64)) (ht : P.underlying t = some (.map k e)) (z : Value) (hz : (P.info? e).bind (·.zero) = some z)
    (y : Int) (hw : -9223372036854775808 ≤ y ∧ y ≤ 9223372036854775807) : (Instr.lookup t (.map (some b)) (.int .i64 y) false).run P w = .ok ((f y).getD z) w := by
  obtain ⟨D, hD, hs⟩ := h
  have hz' : (zeroValue e).run P w = .ok z w := by
    obtain ⟨i, hi, hz⟩ := Option.bind_eq_some_iff.1 hz
    simp [zeroValue, typeInfo, hi, hz]
  obtain ⟨v, ps, hrun, hv⟩ := hD.lookup (int_keyed hk) ht hz' (zd := .held z) (zp := []) rfl (keyOf_int_mk hk (a := y) (Go.WalkArith.wf_i64 hw))
  rw [hs.at] at hv
  unfold heldElem at hv
  simp only [Option.some.injEq, Prod.mk.injEq, DataW.held.injEq] at hv
  obtain ⟨rfl, _⟩ := hv
  exact hrun

theorem splice_take {α : Type} {L cs : List α} {off n : Nat} (h1 : off + cs.length ≤ n) (h2 : n ≤ L.length) : (splice L off cs).take n = splice (L.take n) off cs := by
  have e1 : min off L.length = off := by omega
  have e2 : min n L.length = n := by omega
  have e3 : min off n = off := by omega
  unfold splice
  apply List.ext_getElem?
  intro i
  simp only [List.getElem?_take, List.getElem?_append, List.length_take, List.getElem?_drop, e1, e2, e3]
  by_cases hi : i < n
  · by_cases ho : i < off
    · simp [hi, ho]
    · by_cases hc : i - off < cs.length
      · simp [hi, ho, hc]
      · have h3 : off + cs.length + (i - off - cs.length) < n := by omega
        simp [hi, ho, hc, h3]
  · have h4 : ¬ i < off := by omega
    have h5 : ¬ i - off < cs.length := by omega
    have h6 : ¬ off + cs.length + (i - off - cs.length) < n := by omega
    simp [hi, h4, h5, h6]

/-- 'copy' into a row of the call's own. -/
theorem wpList_copy_row {P : Program} {w : World} {ops : Array Oper} {rest : List Oper} {o : Oper} {a : Act} {Q : Exit → Act → World → Prop} (hgd : o.guard = none) (d s : Operand) (dT sT : TypeId)
    (ho : o.op = .call { callee := .builtin .copy, args := #[d, s], argTypes := #[dT, sT] }) (e : TypeId) (hu : P.underlying dT = some (.slice e)) (hsz : (P.info? e).map (·.size) = some 1)
    (base g n c : Nat) (xs : List Value) (hown : w.ownsRow base e 1 (.slice (some ⟨g, 0, none⟩) n c) n xs) (off dLen dCap : Nat) (hd : a.eval d = .slice (some ⟨g, off, none⟩) dLen dCap)
    (ad : Addr) (sLen sCap : Nat) (hs : a.eval s = .slice (some ad) sLen sCap) (cs : List Value) (hn : cs.length = Nat.min sLen dLen) (hsrc : ∀ j v, cs[j]? = some v → w.cell? (ad.add j) = some v) (hfit : off + cs.length ≤ n) (h1 : ∀ v ∈ cs, v.oneCell' = true)
    (h : ∀ w', w'.ownsRow base e 1 (.slice (some ⟨g, 0, none⟩) n c) n (splice xs off cs) → w.grownBy w' (some g) → wpList P ops Q rest (a.put o.dst (goInt cs.length)) w') : wpList P ops Q (o :: rest) a w := by
  obtain ⟨hl, h⟩ := And.intro hown h
  rcases hown.2 with ⟨h0, _⟩ | ⟨g', cap, cur, hv, hb, hg, hnc, hm, hcs, ht⟩
  · cases h0
  · simp only [Value.slice.injEq, Option.some.injEq, Addr.mk.injEq, and_true, true_and] at hv
    obtain ⟨rfl, rfl⟩ := hv
    have hxl := hown.1
    have hcur : cur.toList.length = c := by simpa using hcs
    refine wpList_copy_own hgd d s dT sT ho e hu hsz g off dLen dCap ad sLen sCap hd hs cur e hg cs hn hsrc (by simp at hcur; omega) h1 (h _ ?_ ?_)
    · refine ⟨by simp [splice]; omega, .inr ⟨g, c, _, rfl, hb, setRow_heap w g cur _ e _ hg, hnc, hm, by simp; simp at hcur; omega, ?_⟩⟩
      rw [← ht]
      simp only [Nat.mul_one] at ht ⊢
      exact splice_take hfit (by omega)
    · exact ⟨rfl, rfl, rfl, by simp, fun k _ hk => setRow_other w g k _ (by rintro rfl; exact hk rfl)⟩
theorem calls_sym {P : Program} {f : FuncId} {args : Array Value} {w : World} {v : Value} (h : Calls P f args w fun e w' => e = .returned v ∧ w = w') : Calls P f args w fun e w' => e = .returned v ∧ w' = w :=
  h.mono fun _ _ h => ⟨h.1, h.2.symm⟩
end Go.Inc
namespace Go.Proofs.Ytebacgkeolofmaa
open Go.RowKit Go.Inc

/-- Nothing that the device owns has turned. -/
theorem DevAt.keep {C w w' g L c M f I p n S} {F : Nat → Prop} (h : DevAt C w g L c M f I p n S) (hm : Mv F w w') (hF : ∀ b, F b → C b = 0) : DevAt C w' g L c M f I p n S := by
  have hn : ∀ b, C b ≠ 0 → ¬ F b := fun b hb hf => hb (hF b hf)
  refine ⟨hm.row h.row (hn g (by rw [h.cg]; decide)), owns_mv h.laid hm (fun b hb => ?_), h.map.mv hm (hn M (by rw [h.cM]; decide)), fun x v hv => ?_, h.non, h.dom, h.few, h.wait, h.cg, h.cL, h.cM, fun b hb => Nat.lt_of_lt_of_le (h.lt b hb) hm.size, h.pp, h.lb, h.cnt⟩
  · cases hb
    exact hn L (by rw [h.cL]; decide)
  · have hV := h.ver x v hv
    refine ⟨owns_mv hV.own hm fun b hb => hn b (by rw [hV.col b hb]; omega), hV.col, hV.full, fun q hq => ?_⟩
    obtain ⟨h1, h2⟩ := hV.all q hq
    exact ⟨h1.mv hm fun b hb => hn b (by rw [hb]; decide), h2⟩

/-- How many of m versions survive, of N that are told; what is laid then. -/
def keptN (m : Nat) (N : Int) : Nat := (max 0 (min N m)).toNat
def keptB (B : List Nat) (x : Nat) (vs : List (List Nat)) (N part : Int) : List Nat :=
  let k := keptN vs.length N
  let B1 := if 0 < k then splice B (256 * x) (vs.getD (k - 1) []) else B
  if k < vs.length then splice B1 (256 * x) ((vs.getD k []).take (max 0 (min part 256)).toNat) else B1

theorem survive_none {C w g L c M f I p n S} (h : DevAt C w g L c M f I p n S) (x N part : Int) (hx : -9223372036854775808 ≤ x ∧ x ≤ 9223372036854775807) (hI : I x = []) :
    Calls Try.prog 52 #[.pointer (some ⟨g, 0, none⟩), .agg #[.int .i64 x, .int .i64 N, .int .i64 part]] w fun e w' => e = .returned (.int .i64 0) ∧ Below w.heap.size w w' := by
  obtain ⟨w1, hw1⟩ : ∃ w1, w1 = w.alloc (.cells #[.int .i64 x, .int .i64 N, .int .i64 part] 105) := ⟨_, rfl⟩
  have hb1 : Below w.heap.size w w1 := by rw [hw1]; exact (Below.refl _ _).alloc (Nat.le_refl _) _
  have hd1 := h.keep (Mv.of_below (F := fun _ => False) hb1) (fun _ h => h.elim)
  have hk0 : w1.cell? ⟨w.heap.size, 0, none⟩ = some (.int .i64 x) := by rw [hw1]; exact cell_of_row _ _ 0 _ _ _ (heap_alloc_new w _)
  have hk1 : w1.cell? ⟨w.heap.size, 1, none⟩ = some (.int .i64 N) := by rw [hw1]; exact cell_of_row _ _ 1 _ _ _ (heap_alloc_new w _)
  have c4 := hd1.row.c4
  have hlook : ∀ k, (Instr.lookup 93 (.map (some M)) (.int .i64 x) false).run Try.prog (w1.drewN k) = .ok (.slice none 0 0) (w1.drewN k) := fun k => by
    rw [← look_none h hI]; exact Mp.look_run (hd1.map.same (w' := w1.drewN k) rfl) Try.underlying3 Try.underlying93 _ (by kernel_rfl) x hx
  have HW := hid hw1
  have HB1 := hid hb1
  have hwn := fun w' => within_any w' N 0
  have hz : max 0 (min N 0) = 0 := by simp only [Int.max_def, Int.min_def]; repeat split <;> omega
  rw [hz] at hwn
  clear h hd1 hw1 hb1 hz
  go_enter Try.func52, Try.ntmps52
  go_wp2_with fail
  rw [← HW.out]
  go_quiet (fail)
  go_wp2_with (go_at_call 77; refine (hwn _).mono ?_; rintro e w' ⟨rfl, rfl⟩)
  go_ret
  exact ⟨rfl, ⟨HB1.out.os, HB1.out.tape, HB1.out.output, HB1.out.size, HB1.out.block⟩⟩
end Go.Proofs.Ytebacgkeolofmaa
namespace Go.Proofs.Ytebacgkeolofmaa
open Go.RowKit Go.Inc

theorem sizeU8 : (Try.prog.info? 5).map (·.size) = some 1 := by kernel_rfl
theorem mixed : Try.prog.follows .mixedOrders = true := by kernel_rfl

/-- A slice that has bytes has an address. -/
theorem Sl.addr {ok : Nat → Prop} {w : World} {a : Option Addr} {bs : List Nat} (h : Sl ok w a bs) (hl : 0 < bs.length) : ∃ ad, a = some ad ∧ ok ad.block ∧ ad.spot = none ∧ ∀ j u, (u8s bs)[j]? = some u → w.cell? (ad.add j) = some u := by
  have hc := h.cells
  rcases h with rfl | ⟨b, off, rfl, hk, _⟩
  · simp at hl
  · exact ⟨_, rfl, hk, rfl, hc _ rfl⟩
theorem u8s_take (bs : List Nat) (k : Nat) : u8s (bs.take k) = (u8s bs).take k := by simp [u8s, List.map_take]
theorem take_cells {w : World} {ad : Addr} {bs : List Nat} (h : ∀ j u, (u8s bs)[j]? = some u → w.cell? (ad.add j) = some u) (k : Nat) : ∀ j u, (u8s (bs.take k))[j]? = some u → w.cell? (ad.add j) = some u := by
  intro j u hu
  rw [u8s_take, List.getElem?_take] at hu
  split at hu
  · exact h j u hu
  · cases hu

theorem cell_grown {w w' : World} {g : Nat} {p : Addr} {v : Value} (h : w.cell? p = some v) (hg : w.grownBy w' (some g)) (hne : p.block ≠ g) : w'.cell? p = some v := by
  rw [← h]; exact World.cell?_of_block (hg.block _ (cell_lt h) (by intro e; cases e; exact hne rfl))
theorem add_block (a : Addr) (j : Nat) (h : a.spot = none) : (a.add j).block = a.block := by
  obtain ⟨b, o, sp⟩ := a
  subst h
  rw [Addr.add_lit]
theorem u8s_splice (L cs : List Nat) (o : Nat) : splice (u8s L) o (u8s cs) = u8s (splice L o cs) := by
  unfold splice u8s
  simp [List.map_take, List.map_drop]

set_option maxRecDepth 20000 in
set_option maxHeartbeats 1000000 in
theorem survive_both {C w g L c M f I p n S} (h : DevAt C w g L c M f I p n S) (x : Nat) (N part : Int) (hn : n ≤ 1000000) (hI : I x ≠ []) (h0 : 0 < keptN (I x).length N) (hl : keptN (I x).length N < (I x).length) :
    Calls Try.prog 52 #[.pointer (some ⟨g, 0, none⟩), .agg #[.int .i64 (x : Int), .int .i64 N, .int .i64 part]] w fun e w' => e = .returned (.int .i64 (keptN (I x).length N : Nat)) ∧
      w'.ownsRow 0 5 1 (.slice (some ⟨L, 0, none⟩) (256 * p) c) (256 * p) (u8s (keptB S.B x (S.W x) N part)) ∧ Mv (fun b => b = L) w w' := by
  obtain ⟨v, hv, hV⟩ := look_some h hI
  obtain ⟨hx0, hxp⟩ := h.dom _ _ hv
  have hmn := h.few x
  obtain ⟨w1, hw1⟩ : ∃ w1, w1 = w.alloc (.cells #[.int .i64 (x : Int), .int .i64 N, .int .i64 part] 105) := ⟨_, rfl⟩
  have hb1 : Below w.heap.size w w1 := by rw [hw1]; exact (Below.refl _ _).alloc (Nat.le_refl _) _
  have hd1 := h.keep (Mv.of_below (F := fun _ => False) hb1) (fun _ h => h.elim)
  have hgw := h.lt g (by rw [h.cg]; decide)
  have hV1 := hd1.ver _ _ hv
  obtain ⟨R, cap, rfl, hR, hcap1, hcap2, hcell⟩ := hV1.shape
  obtain ⟨qa, hqa, hsa, hla, hca, hca'⟩ := hV1.item (i := keptN (I x).length N - 1) (by omega)
  obtain ⟨qb, hqb, hsb, hlb, hcb, hcb'⟩ := hV1.item (i := keptN (I x).length N) hl
  have cellA := hcell _ _ hqa
  have cellB := hcell _ _ hqb
  obtain ⟨ada, ha1, ha2, ha3, ha4⟩ := Sl.addr hsa (by omega)
  obtain ⟨adb, hb1', hb2, hb3, hb4⟩ := Sl.addr hsb (by omega)
  have hWB : S.W x = (I x).map Item.b := h.wait x
  have hwa : (S.W x).getD (keptN (I x).length N - 1) [] = qa.b := by rw [hWB, List.getD_eq_getElem?_getD, List.getElem?_map, hqa]; rfl
  have hwb : (S.W x).getD (keptN (I x).length N) [] = qb.b := by rw [hWB, List.getD_eq_getElem?_getD, List.getElem?_map, hqb]; rfl
  have hwl : (S.W x).length = (I x).length := by rw [hWB, List.length_map]
  have hKB : Hid (keptB S.B x (S.W x) N part = splice (splice S.B (256 * x) qa.b) (256 * x) (qb.b.take (max 0 (min part 256)).toNat)) := hid (by
    unfold keptB
    simp only [hwl, hwa, hwb]
    rw [if_pos hl, if_pos h0])
  have hk0 : w1.cell? ⟨w.heap.size, 0, none⟩ = some (.int .i64 (x : Int)) := by rw [hw1]; exact cell_of_row _ _ 0 _ _ _ (heap_alloc_new w _)
  have hk1 : w1.cell? ⟨w.heap.size, 1, none⟩ = some (.int .i64 N) := by rw [hw1]; exact cell_of_row _ _ 1 _ _ _ (heap_alloc_new w _)
  have hk2 : w1.cell? ⟨w.heap.size, 2, none⟩ = some (.int .i64 part) := by rw [hw1]; exact cell_of_row _ _ 2 _ _ _ (heap_alloc_new w _)
  have c4 := hd1.row.c4
  have hbx : -9223372036854775808 ≤ (x : Int) ∧ (x : Int) ≤ 9223372036854775807 := by have := h.pp; omega
  have hlook : ∀ k, (Instr.lookup 93 (.map (some M)) (.int .i64 (x : Int)) false).run Try.prog (w1.drewN k) = .ok (.slice (some ⟨R, 0, none⟩) (I x).length cap) (w1.drewN k) := fun k => by
    have := Mp.look_run (hd1.map.same (w' := w1.drewN k) rfl) Try.underlying3 Try.underlying93 (.slice none 0 0) (by kernel_rfl) (x : Int) hbx
    rw [hv] at this
    exact this
  have hml : (I x).length ≤ 1000000 := by omega
  have hkk : Hid (max 0 (min N ((I x).length : Int)) = ((keptN (I x).length N : Nat) : Int)) := hid (by unfold keptN; omega)
  obtain ⟨pt, hpt, hpt2⟩ : ∃ pt : Nat, max 0 (min part 256) = (pt : Int) ∧ pt ≤ 256 := ⟨(max 0 (min part 256)).toNat, by omega, by omega⟩
  have hptn : (max 0 (min part 256)).toNat = pt := by rw [hpt]; rfl
  rw [hptn] at hKB
  rw [hKB.out]
  clear hKB
  have hlaid := hid hd1.laid
  have hrow := hid hd1.row
  have hpp := h.pp
  have hcp := own_cap hd1.laid
  have HB : S.B.length = 256 * p := by have := hd1.laid.1; rw [u8s_length] at this; omega
  have hCL := h.cL
  have hCR := hR
  have hCg := h.cg
  have hgL : g ≠ L := by rintro rfl; rw [hCg] at hCL; omega
  have hRL : R ≠ L := by rintro rfl; omega
  have haL : ada.block ≠ L := by intro e; rw [e] at ha2; omega
  have hbL : adb.block ≠ L := by intro e; rw [e] at hb2; omega
  have hBL : w.heap.size ≠ L := by have := h.lt L (by omega); omega
  rw [ha1] at cellA
  rw [hb1'] at cellB
  generalize hmk : (I x).length = m at *
  generalize hkn : keptN m N = k at *
  have HW := hid hw1
  have HB1 := hid hb1
  have HA4 := hid ha4
  have HB4 := hid hb4
  have hkm : (k : Int) < m ∧ (0 : Int) < k := by omega
  have Hpt := hid hpt
  have hwk := fun w' => within_any w' N m
  rw [hkk.out] at hwk
  have hwp := fun w' => within_any w' part 256
  rw [hpt] at hwp
  clear h hd1 hw1 hb1 hV hV1 hv hcell hWB hwa hwb hwl hmk hkn ha4 hb4 hsa hsb hqa hqb hpt hptn hkk hCL hCR hCg hR ha2 hb2 ha1 hb1'
  clear hI
  go_enter Try.func52, Try.ntmps52
  go_wp2_with fail
  rw [← HW.out]
  go_quiet (fail)
  obtain ⟨w2, hw2⟩ : ∃ w2, w2 = w1.drewN nq := ⟨_, rfl⟩
  rw [← hw2]
  have HW2 := hid hw2
  have cellA' : w2.cell? ⟨R, k - 1, none⟩ = some (.slice (some ada) 256 qa.c) := by rw [hw2]; exact cellA
  have k0 : w2.cell? ⟨w.heap.size, 0, none⟩ = some (.int .i64 (x : Int)) := by rw [hw2]; exact hk0
  have k1 : w2.cell? ⟨w.heap.size, 1, none⟩ = some (.int .i64 N) := by rw [hw2]; exact hk1
  have hrow2 : DevRow w2 g S.on S.armed S.left (.slice (some ⟨L, 0, none⟩) (256 * p) c) (.map (some M)) S.r S.s S.t := by rw [hw2]; exact hrow.out
  have hP := hid (calls_sym (page_some w2.drew g _ _ _ _ p _ x _ _ _ _ hrow2 hpp.2 (by omega) hcp.1 hcp.2))
  have hlaid2 : w2.ownsRow 0 5 1 (.slice (some ⟨L, 0, none⟩) (256 * p) c) (256 * p) (u8s S.B) := by rw [hw2]; exact hlaid.out
  have cellB' : w2.cell? ⟨R, k, none⟩ = some (.slice (some adb) 256 qb.c) := by rw [hw2]; exact cellB
  have hk2' : w2.cell? ⟨w.heap.size, 2, none⟩ = some (.int .i64 part) := by rw [hw2]; exact hk2
  have HCB := hid (And.intro cellB' hk2')
  clear hw2 hlook hk0 hk1 hk2 cellB cellB' hk2'
  obtain ⟨j, hj⟩ : ∃ j, j = k - 1 := ⟨_, rfl⟩
  rw [← hj] at cellA'
  have hkm1 : wrap64 ((k : Int) - 1) = (j : Int) := by simp [wrap64]; omega
  have hkm2 : (k : Int) - 1 = (j : Int) := by omega
  have hwj : IntKind.i64.wrap (j : Int) = (j : Int) := by rw [IntKind.wrap_i64]; omega
  have hjm : (j : Int) < m ∧ (0 : Int) ≤ j := by omega
  clear hj cellA
  have t0 : (0 < k) = True := by simp; omega
  have t1 : (k < m) = True := by simp; omega
  have HNM := hid (And.intro HB (And.intro hpt2 (And.intro hca (And.intro hcb (And.intro hcp (And.intro hla hlb))))))
  have HXP := hid (And.intro hxp hpp)
  clear hmn hcap2 hla hlb hca' hcb' HB hpt2 hca hcb hcp hml hn hxp hx0 hpp
  go_wp2_with fail
  refine (hwk _).mono ?_
  rintro e w' ⟨rfl, rfl⟩
  go_wp2_with fail
  go_still_tail 9, mixed
  still_call hP.out
  repeat still_step
  refine wpStill_nil ?_
  change wpList _ _ _ _ _ w2.drew
  have HN := HNM.out
  refine wpList_copy_row rfl (.tmp 24) (.tmp 29) 26 26 rfl 5 Try.underlying26 sizeU8 0 L (256 * p) c (u8s S.B) hlaid2 (256 * x) 256 _ rfl ada 256 _ rfl (u8s qa.b) ?_ ?_ ?_ (u8s_one _) ?_
  · rw [u8s_length, HN.2.2.2.2.2.1]; rfl
  · rw [HW2.out]; exact HA4.out
  · rw [u8s_length, HN.2.2.2.2.2.1]; have := HXP.out; omega
  intro w3 hlaid3 hg3
  rw [u8s_splice] at hlaid3
  have HL3 := hid hlaid3
  have HG3 := hid hg3
  have k0' : w3.cell? ⟨w.heap.size, 0, none⟩ = some (.int .i64 (x : Int)) := cell_grown (w := w2.drew) k0 hg3 hBL
  have k2' : w3.cell? ⟨w.heap.size, 2, none⟩ = some (.int .i64 part) := cell_grown (w := w2.drew) HCB.out.2 hg3 hBL
  have cB' : w3.cell? ⟨R, k, none⟩ = some (.slice (some adb) 256 qb.c) := cell_grown (w := w2.drew) HCB.out.1 hg3 hRL
  have hrow3 : DevRow w3 g S.on S.armed S.left (.slice (some ⟨L, 0, none⟩) (256 * p) c) (.map (some M)) S.r S.s S.t := row_grown (w := w2.drew) hrow2 hg3 (by intro e; cases e; exact hgL rfl)
  have hP3 := hid (calls_sym (page_some w3.drew g _ _ _ _ p _ x _ _ _ _ hrow3 HXP.out.2.2 (by have := HXP.out; omega) HN.2.2.2.2.1.1 HN.2.2.2.2.1.2))
  have hW3 := hid (calls_sym (hwp w3.drew))
  have hB3 : Hid (∀ j u, (u8s (qb.b.take pt))[j]? = some u → w3.cell? (adb.add j) = some u) := hid (take_cells (fun j u hu => cell_grown (w := w2.drew) (by rw [HW2.out]; exact HB4.out j u hu) hg3 (by rw [add_block adb j hb3]; exact hbL)) pt)
  clear hlaid3 hg3 hrow3 hP k0 k1 cellA' hwp HCB hrow2 HN
  have hki : (0 : Int) ≤ k ∧ (k : Int) < m := by omega
  have hpi : (0 : Int) ≤ pt ∧ (pt : Int) ≤ 256 ∧ (pt : Int) ≤ (qb.c : Int) := by have := HNM.out; omega
  go_wp2_with fail
  go_still_tail 12, mixed
  still_call hP3.out
  repeat still_step
  still_call hW3.out
  repeat still_step
  refine wpStill_nil ?_
  change wpList _ _ _ _ _ w3.drew
  have HN := HNM.out
  have hlt : (qb.b.take pt).length = pt := by rw [List.length_take]; omega
  refine wpList_copy_row rfl (.tmp 38) (.tmp 46) 26 26 rfl 5 Try.underlying26 sizeU8 0 L (256 * p) c (u8s (splice S.B (256 * x) qa.b)) HL3.out (256 * x) 256 _ rfl adb pt _ rfl (u8s (qb.b.take pt)) ?_ ?_ ?_ (u8s_one _) ?_
  · rw [u8s_length, hlt]; exact (Nat.min_eq_left HN.2.1).symm
  · exact hB3.out
  · rw [u8s_length, hlt]; have := HXP.out; omega
  intro w4 hlaid4 hg4
  rw [u8s_splice] at hlaid4
  have HL4 := hid hlaid4
  have HM4 : Hid (Mv (fun b => b = L) w w4) := hid (by
    have m1 : Mv (fun b => b = L) w w2.drew := by rw [HW2.out]; exact ((Mv.of_below HB1.out).drewN nq).drew
    have m2 : Mv (fun b => b = L) w2.drew w3.drew := (Mv.of_grown HG3.out fun g h _ => by cases h; rfl).drew
    exact (m1.trans m2).trans (Mv.of_grown hg4 fun g h _ => by cases h; rfl))
  clear hlaid4 hg4 hlt HN
  go_wp2_with fail
  go_ret
  exact ⟨rfl, HL4.out, HM4.out⟩
end Go.Proofs.Ytebacgkeolofmaa
namespace Go.Proofs.Ytebacgkeolofmaa
open Go.RowKit Go.Inc

set_option maxRecDepth 20000 in
set_option maxHeartbeats 1000000 in
theorem survive_first {C w g L c M f I p n S} (h : DevAt C w g L c M f I p n S) (x : Nat) (N part : Int) (hn : n ≤ 1000000) (hI : I x ≠ []) (h0 : 0 < keptN (I x).length N) (hl : keptN (I x).length N = (I x).length) :
    Calls Try.prog 52 #[.pointer (some ⟨g, 0, none⟩), .agg #[.int .i64 (x : Int), .int .i64 N, .int .i64 part]] w fun e w' => e = .returned (.int .i64 (keptN (I x).length N : Nat)) ∧
      w'.ownsRow 0 5 1 (.slice (some ⟨L, 0, none⟩) (256 * p) c) (256 * p) (u8s (keptB S.B x (S.W x) N part)) ∧ Mv (fun b => b = L) w w' := by
  obtain ⟨v, hv, hV⟩ := look_some h hI
  obtain ⟨hx0, hxp⟩ := h.dom _ _ hv
  have hmn := h.few x
  obtain ⟨w1, hw1⟩ : ∃ w1, w1 = w.alloc (.cells #[.int .i64 (x : Int), .int .i64 N, .int .i64 part] 105) := ⟨_, rfl⟩
  have hb1 : Below w.heap.size w w1 := by rw [hw1]; exact (Below.refl _ _).alloc (Nat.le_refl _) _
  have hd1 := h.keep (Mv.of_below (F := fun _ => False) hb1) (fun _ h => h.elim)
  have hgw := h.lt g (by rw [h.cg]; decide)
  have hV1 := hd1.ver _ _ hv
  obtain ⟨R, cap, rfl, hR, hcap1, hcap2, hcell⟩ := hV1.shape
  obtain ⟨qa, hqa, hsa, hla, hca, hca'⟩ := hV1.item (i := keptN (I x).length N - 1) (by omega)
  have cellA := hcell _ _ hqa
  obtain ⟨ada, ha1, ha2, ha3, ha4⟩ := Sl.addr hsa (by omega)
  have hWB : S.W x = (I x).map Item.b := h.wait x
  have hwa : (S.W x).getD (keptN (I x).length N - 1) [] = qa.b := by rw [hWB, List.getD_eq_getElem?_getD, List.getElem?_map, hqa]; rfl
  have hwl : (S.W x).length = (I x).length := by rw [hWB, List.length_map]
  have hKB : Hid (keptB S.B x (S.W x) N part = splice S.B (256 * x) qa.b) := hid (by
    unfold keptB
    simp only [hwl, hwa]
    rw [if_neg (by omega), if_pos h0])
  have hk0 : w1.cell? ⟨w.heap.size, 0, none⟩ = some (.int .i64 (x : Int)) := by rw [hw1]; exact cell_of_row _ _ 0 _ _ _ (heap_alloc_new w _)
  have hk1 : w1.cell? ⟨w.heap.size, 1, none⟩ = some (.int .i64 N) := by rw [hw1]; exact cell_of_row _ _ 1 _ _ _ (heap_alloc_new w _)
  have c4 := hd1.row.c4
  have hbx : -9223372036854775808 ≤ (x : Int) ∧ (x : Int) ≤ 9223372036854775807 := by have := h.pp; omega
  have hlook : ∀ k, (Instr.lookup 93 (.map (some M)) (.int .i64 (x : Int)) false).run Try.prog (w1.drewN k) = .ok (.slice (some ⟨R, 0, none⟩) (I x).length cap) (w1.drewN k) := fun k => by
    have := Mp.look_run (hd1.map.same (w' := w1.drewN k) rfl) Try.underlying3 Try.underlying93 (.slice none 0 0) (by kernel_rfl) (x : Int) hbx
    rw [hv] at this
    exact this
  have hml : (I x).length ≤ 1000000 := by omega
  have hkk : Hid (max 0 (min N ((I x).length : Int)) = ((keptN (I x).length N : Nat) : Int)) := hid (by unfold keptN; omega)
  rw [hKB.out]
  clear hKB
  have hlaid := hid hd1.laid
  have hrow := hid hd1.row
  have hpp := h.pp
  have hcp := own_cap hd1.laid
  have HB : S.B.length = 256 * p := by have := hd1.laid.1; rw [u8s_length] at this; omega
  have hCL := h.cL
  have hCR := hR
  have hCg := h.cg
  have hgL : g ≠ L := by rintro rfl; rw [hCg] at hCL; omega
  have hRL : R ≠ L := by rintro rfl; omega
  have haL : ada.block ≠ L := by intro e; rw [e] at ha2; omega
  have hBL : w.heap.size ≠ L := by have := h.lt L (by omega); omega
  rw [ha1] at cellA
  generalize hmk : (I x).length = m at *
  generalize hkn : keptN m N = k at *
  have HW := hid hw1
  have HB1 := hid hb1
  have HA4 := hid ha4
  have hkm : (k : Int) = m ∧ (0 : Int) < k := by omega
  have hwk := fun w' => within_any w' N m
  rw [hkk.out] at hwk
  clear h hd1 hw1 hb1 hV hV1 hv hcell hWB hwa hwl hmk hkn ha4 hsa hqa hkk hCL hCR hCg hR ha2 ha1
  clear hI
  go_enter Try.func52, Try.ntmps52
  go_wp2_with fail
  rw [← HW.out]
  go_quiet (fail)
  obtain ⟨w2, hw2⟩ : ∃ w2, w2 = w1.drewN nq := ⟨_, rfl⟩
  rw [← hw2]
  have HW2 := hid hw2
  have cellA' : w2.cell? ⟨R, k - 1, none⟩ = some (.slice (some ada) 256 qa.c) := by rw [hw2]; exact cellA
  have k0 : w2.cell? ⟨w.heap.size, 0, none⟩ = some (.int .i64 (x : Int)) := by rw [hw2]; exact hk0
  have k1 : w2.cell? ⟨w.heap.size, 1, none⟩ = some (.int .i64 N) := by rw [hw2]; exact hk1
  have hrow2 : DevRow w2 g S.on S.armed S.left (.slice (some ⟨L, 0, none⟩) (256 * p) c) (.map (some M)) S.r S.s S.t := by rw [hw2]; exact hrow.out
  have hP := hid (calls_sym (page_some w2.drew g _ _ _ _ p _ x _ _ _ _ hrow2 hpp.2 (by omega) hcp.1 hcp.2))
  have hlaid2 : w2.ownsRow 0 5 1 (.slice (some ⟨L, 0, none⟩) (256 * p) c) (256 * p) (u8s S.B) := by rw [hw2]; exact hlaid.out
  clear hw2 hlook hk0 hk1
  obtain ⟨j, hj⟩ : ∃ j, j = k - 1 := ⟨_, rfl⟩
  rw [← hj] at cellA'
  have hkm1 : wrap64 ((k : Int) - 1) = (j : Int) := by simp [wrap64]; omega
  have hkm2 : (k : Int) - 1 = (j : Int) := by omega
  have hwj : IntKind.i64.wrap (j : Int) = (j : Int) := by rw [IntKind.wrap_i64]; omega
  have hjm : (j : Int) < m ∧ (0 : Int) ≤ j := by omega
  clear hj cellA
  have t0 : (0 < k) = True := by simp; omega
  have t1 : (k < m) = False := by simp; omega
  have t2 : (m : Int) ≤ k := by omega
  have HNM := hid (And.intro HB (And.intro hca (And.intro hcp hla)))
  have hkme := hid hkm.1
  clear hkm hl
  have HXP := hid (And.intro hxp hpp)
  clear hmn hcap2 hla hca' HB hca hcp hml hn hxp hx0 hpp
  go_wp2_with fail
  refine (hwk _).mono ?_
  rintro e w' ⟨rfl, rfl⟩
  go_wp2_with fail
  go_still_tail 9, mixed
  still_call hP.out
  repeat still_step
  refine wpStill_nil ?_
  change wpList _ _ _ _ _ w2.drew
  have HN := HNM.out
  refine wpList_copy_row rfl (.tmp 24) (.tmp 29) 26 26 rfl 5 Try.underlying26 sizeU8 0 L (256 * p) c (u8s S.B) hlaid2 (256 * x) 256 _ rfl ada 256 _ rfl (u8s qa.b) ?_ ?_ ?_ (u8s_one _) ?_
  · rw [u8s_length, HN.2.2.2]; rfl
  · rw [HW2.out]; exact HA4.out
  · rw [u8s_length, HN.2.2.2]; have := HXP.out; omega
  intro w3 hlaid3 hg3
  rw [u8s_splice] at hlaid3
  have HL3 := hid hlaid3
  have HG3 := hid hg3
  have HM3 : Hid (Mv (fun b => b = L) w w3) := hid (by
    have m1 : Mv (fun b => b = L) w w2.drew := by rw [HW2.out]; exact ((Mv.of_below HB1.out).drewN nq).drew
    exact m1.trans (Mv.of_grown HG3.out fun g h _ => by cases h; rfl))
  clear hlaid3 hg3 hP k0 k1 cellA' HN hkm1 hkm2 hwj
  go_wp2_with fail
  go_ret
  exact ⟨rfl, HL3.out, HM3.out⟩

set_option maxRecDepth 20000 in
set_option maxHeartbeats 1000000 in
theorem survive_part {C w g L c M f I p n S} (h : DevAt C w g L c M f I p n S) (x : Nat) (N part : Int) (hn : n ≤ 1000000) (hI : I x ≠ []) (h0 : keptN (I x).length N = 0) :
    Calls Try.prog 52 #[.pointer (some ⟨g, 0, none⟩), .agg #[.int .i64 (x : Int), .int .i64 N, .int .i64 part]] w fun e w' => e = .returned (.int .i64 (keptN (I x).length N : Nat)) ∧
      w'.ownsRow 0 5 1 (.slice (some ⟨L, 0, none⟩) (256 * p) c) (256 * p) (u8s (keptB S.B x (S.W x) N part)) ∧ Mv (fun b => b = L) w w' := by
  obtain ⟨v, hv, hV⟩ := look_some h hI
  obtain ⟨hx0, hxp⟩ := h.dom _ _ hv
  have hmn := h.few x
  obtain ⟨w1, hw1⟩ : ∃ w1, w1 = w.alloc (.cells #[.int .i64 (x : Int), .int .i64 N, .int .i64 part] 105) := ⟨_, rfl⟩
  have hb1 : Below w.heap.size w w1 := by rw [hw1]; exact (Below.refl _ _).alloc (Nat.le_refl _) _
  have hd1 := h.keep (Mv.of_below (F := fun _ => False) hb1) (fun _ h => h.elim)
  have hgw := h.lt g (by rw [h.cg]; decide)
  have hV1 := hd1.ver _ _ hv
  obtain ⟨R, cap, rfl, hR, hcap1, hcap2, hcell⟩ := hV1.shape
  have hl : keptN (I x).length N < (I x).length := by rw [h0]; exact List.length_pos_iff.2 hI
  obtain ⟨qb, hqb, hsb, hlb, hcb, hcb'⟩ := hV1.item (i := keptN (I x).length N) hl
  have cellB := hcell _ _ hqb
  obtain ⟨adb, hb1', hb2, hb3, hb4⟩ := Sl.addr hsb (by omega)
  have hWB : S.W x = (I x).map Item.b := h.wait x
  have hwb : (S.W x).getD (keptN (I x).length N) [] = qb.b := by rw [hWB, List.getD_eq_getElem?_getD, List.getElem?_map, hqb]; rfl
  have hwl : (S.W x).length = (I x).length := by rw [hWB, List.length_map]
  have hKB : Hid (keptB S.B x (S.W x) N part = splice S.B (256 * x) (qb.b.take (max 0 (min part 256)).toNat)) := hid (by
    unfold keptB
    simp only [hwl, hwb]
    rw [if_pos hl, if_neg (by omega)])
  have hk0 : w1.cell? ⟨w.heap.size, 0, none⟩ = some (.int .i64 (x : Int)) := by rw [hw1]; exact cell_of_row _ _ 0 _ _ _ (heap_alloc_new w _)
  have hk1 : w1.cell? ⟨w.heap.size, 1, none⟩ = some (.int .i64 N) := by rw [hw1]; exact cell_of_row _ _ 1 _ _ _ (heap_alloc_new w _)
  have hk2 : w1.cell? ⟨w.heap.size, 2, none⟩ = some (.int .i64 part) := by rw [hw1]; exact cell_of_row _ _ 2 _ _ _ (heap_alloc_new w _)
  have c4 := hd1.row.c4
  have hbx : -9223372036854775808 ≤ (x : Int) ∧ (x : Int) ≤ 9223372036854775807 := by have := h.pp; omega
  have hlook : ∀ k, (Instr.lookup 93 (.map (some M)) (.int .i64 (x : Int)) false).run Try.prog (w1.drewN k) = .ok (.slice (some ⟨R, 0, none⟩) (I x).length cap) (w1.drewN k) := fun k => by
    have := Mp.look_run (hd1.map.same (w' := w1.drewN k) rfl) Try.underlying3 Try.underlying93 (.slice none 0 0) (by kernel_rfl) (x : Int) hbx
    rw [hv] at this
    exact this
  have hml : (I x).length ≤ 1000000 := by omega
  have hkk : Hid (max 0 (min N ((I x).length : Int)) = ((keptN (I x).length N : Nat) : Int)) := hid (by unfold keptN; omega)
  obtain ⟨pt, hpt, hpt2⟩ : ∃ pt : Nat, max 0 (min part 256) = (pt : Int) ∧ pt ≤ 256 := ⟨(max 0 (min part 256)).toNat, by omega, by omega⟩
  have hptn : (max 0 (min part 256)).toNat = pt := by rw [hpt]; rfl
  rw [hptn] at hKB
  rw [hKB.out]
  clear hKB
  have hlaid := hid hd1.laid
  have hrow := hid hd1.row
  have hpp := h.pp
  have hcp := own_cap hd1.laid
  have HB : S.B.length = 256 * p := by have := hd1.laid.1; rw [u8s_length] at this; omega
  have hCL := h.cL
  have hCR := hR
  have hCg := h.cg
  have hgL : g ≠ L := by rintro rfl; rw [hCg] at hCL; omega
  have hRL : R ≠ L := by rintro rfl; omega
  have hbL : adb.block ≠ L := by intro e; rw [e] at hb2; omega
  have hBL : w.heap.size ≠ L := by have := h.lt L (by omega); omega
  rw [hb1'] at cellB
  generalize hmk : (I x).length = m at *
  generalize hkn : keptN m N = k at *
  subst h0
  have HW := hid hw1
  have HB1 := hid hb1
  have HB4 := hid hb4
  have hkm : (0 : Int) < m := by omega
  have h00 : ((0 : Nat) : Int) = 0 := rfl
  rw [h00] at hkk
  clear h00
  have Hpt := hid hpt
  have hwk := fun w' => within_any w' N m
  rw [hkk.out] at hwk
  have hwp := fun w' => within_any w' part 256
  rw [hpt] at hwp
  clear h hd1 hw1 hb1 hV hV1 hv hcell hWB hwb hwl hmk hkn hb4 hsb hqb hpt hptn hkk hCL hCR hCg hR hb2 hb1'
  clear hI
  go_enter Try.func52, Try.ntmps52
  go_wp2_with fail
  rw [← HW.out]
  go_quiet (fail)
  obtain ⟨w2, hw2⟩ : ∃ w2, w2 = w1.drewN nq := ⟨_, rfl⟩
  rw [← hw2]
  have HW2 := hid hw2
  have k0 : w2.cell? ⟨w.heap.size, 0, none⟩ = some (.int .i64 (x : Int)) := by rw [hw2]; exact hk0
  have k1 : w2.cell? ⟨w.heap.size, 1, none⟩ = some (.int .i64 N) := by rw [hw2]; exact hk1
  have hrow2 : DevRow w2 g S.on S.armed S.left (.slice (some ⟨L, 0, none⟩) (256 * p) c) (.map (some M)) S.r S.s S.t := by rw [hw2]; exact hrow.out
  have hlaid2 : w2.ownsRow 0 5 1 (.slice (some ⟨L, 0, none⟩) (256 * p) c) (256 * p) (u8s S.B) := by rw [hw2]; exact hlaid.out
  have cellB' : w2.cell? ⟨R, 0, none⟩ = some (.slice (some adb) 256 qb.c) := by rw [hw2]; exact cellB
  have hk2' : w2.cell? ⟨w.heap.size, 2, none⟩ = some (.int .i64 part) := by rw [hw2]; exact hk2
  have HCB := hid (And.intro cellB' hk2')
  clear hw2 hlook hk0 hk1 hk2 cellB cellB' hk2'
  have t1 : (0 < m) = True := by simp; omega
  have HNM := hid (And.intro HB (And.intro hpt2 (And.intro True.intro (And.intro hcb (And.intro hcp (And.intro True.intro hlb))))))
  have HXP := hid (And.intro hxp hpp)
  clear hmn hcap2 hlb hcb' HB hpt2 hcb hcp hml hn hxp hx0 hpp
  go_wp2_with fail
  refine (hwk _).mono ?_
  rintro e w' ⟨rfl, rfl⟩
  obtain ⟨w3, hw3⟩ : ∃ w3, w3 = w2 := ⟨_, rfl⟩
  rw [← hw3] at HW2 k0 k1 hrow2 hlaid2 HCB ⊢
  clear hw3
  have HL3 := hid hlaid2
  have HN := HNM.out
  have k0' : w3.cell? ⟨w.heap.size, 0, none⟩ = some (.int .i64 (x : Int)) := k0
  have k2' : w3.cell? ⟨w.heap.size, 2, none⟩ = some (.int .i64 part) := HCB.out.2
  have cB' : w3.cell? ⟨R, 0, none⟩ = some (.slice (some adb) 256 qb.c) := HCB.out.1
  have hrow3 : DevRow w3 g S.on S.armed S.left (.slice (some ⟨L, 0, none⟩) (256 * p) c) (.map (some M)) S.r S.s S.t := hrow2
  have hP3 := hid (calls_sym (page_some w3.drew g _ _ _ _ p _ x _ _ _ _ hrow3 HXP.out.2.2 (by have := HXP.out; omega) HN.2.2.2.2.1.1 HN.2.2.2.2.1.2))
  have hW3 := hid (calls_sym (hwp w3.drew))
  have hB3 : Hid (∀ j u, (u8s (qb.b.take pt))[j]? = some u → w3.cell? (adb.add j) = some u) := hid (take_cells (fun j u hu => by rw [HW2.out]; exact HB4.out j u hu) pt)
  clear hrow3 k0 k1 hwp HCB hrow2 HN hlaid2
  have hpi : (0 : Int) ≤ pt ∧ (pt : Int) ≤ 256 ∧ (pt : Int) ≤ (qb.c : Int) := by have := HNM.out; omega
  go_wp2_with fail
  go_still_tail 12, mixed
  still_call hP3.out
  repeat still_step
  still_call hW3.out
  repeat still_step
  refine wpStill_nil ?_
  change wpList _ _ _ _ _ w3.drew
  have HN := HNM.out
  have hlt : (qb.b.take pt).length = pt := by rw [List.length_take]; omega
  refine wpList_copy_row rfl (.tmp 38) (.tmp 46) 26 26 rfl 5 Try.underlying26 sizeU8 0 L (256 * p) c (u8s S.B) HL3.out (256 * x) 256 _ rfl adb pt _ rfl (u8s (qb.b.take pt)) ?_ ?_ ?_ (u8s_one _) ?_
  · rw [u8s_length, hlt]; exact (Nat.min_eq_left HN.2.1).symm
  · exact hB3.out
  · rw [u8s_length, hlt]; have := HXP.out; omega
  intro w4 hlaid4 hg4
  rw [u8s_splice] at hlaid4
  have HL4 := hid hlaid4
  have HM4 : Hid (Mv (fun b => b = L) w w4) := hid (by
    have m1 : Mv (fun b => b = L) w w3.drew := by rw [HW2.out]; exact ((Mv.of_below HB1.out).drewN nq).drew
    exact m1.trans (Mv.of_grown hg4 fun g h _ => by cases h; rfl))
  clear hlaid4 hg4 hlt HN
  go_wp2_with fail
  go_ret
  exact ⟨rfl, HL4.out, HM4.out⟩
end Go.Proofs.Ytebacgkeolofmaa
namespace Go.Proofs.Ytebacgkeolofmaa
open Go.RowKit Go.Inc

section
variable {C : Nat → Nat} {w w' : World} {g L c M p n : Nat} {f : Int → Option Value} {I : Int → List Item} {S : St}
theorem DevAt.ne_of (h : DevAt C w g L c M f I p n S) : g ≠ L ∧ g ≠ M ∧ L ≠ M := by
  have h1 := h.cg; have h2 := h.cL; have h3 := h.cM
  refine ⟨?_, ?_, ?_⟩ <;> (rintro rfl; omega)
/-- The device's own row has turned. -/
theorem DevAt.turn (h : DevAt C w g L c M f I p n S) {F : Nat → Prop} (hm : Mv F w w') (hF : ∀ b, F b → b = g) {on armed : Bool} {left r s t : Int} (hr : DevRow w' g on armed left (.slice (some ⟨L, 0, none⟩) (256 * p) c) (.map (some M)) r s t)
    (hl : 0 ≤ left ∧ left ≤ 9223372036854775807 ∨ armed = false) (hc : 0 ≤ r ∧ 0 ≤ s ∧ 0 ≤ t) : DevAt C w' g L c M f I p n { S with on := on, armed := armed, left := left, r := r, s := s, t := t } := by
  have hn : ∀ b, C b ≠ 1 → ¬ F b := fun b hb hf => hb (by rw [hF b hf]; exact h.cg)
  refine ⟨hr, owns_mv h.laid hm (fun b hb => ?_), h.map.mv hm (hn M (by rw [h.cM]; decide)), fun x v hv => ?_, h.non, h.dom, h.few, h.wait, h.cg, h.cL, h.cM, fun b hb => Nat.lt_of_lt_of_le (h.lt b hb) hm.size, h.pp, hl, hc⟩
  · cases hb
    exact hn L (by rw [h.cL]; decide)
  · have hV := h.ver x v hv
    refine ⟨owns_mv hV.own hm fun b hb => hn b (by rw [hV.col b hb]; omega), hV.col, hV.full, fun q hq => ?_⟩
    obtain ⟨h1, h2⟩ := hV.all q hq
    exact ⟨h1.mv hm fun b hb => hn b (by rw [hb]; decide), h2⟩
/-- What is laid has turned. -/
theorem DevAt.relay (h : DevAt C w g L c M f I p n S) {F : Nat → Prop} (hm : Mv F w w') (hF : ∀ b, F b → b = L) {B : List Nat} (hB : w'.ownsRow 0 5 1 (.slice (some ⟨L, 0, none⟩) (256 * p) c) (256 * p) (u8s B)) : DevAt C w' g L c M f I p n { S with B := B } := by
  have hn : ∀ b, C b ≠ 2 → ¬ F b := fun b hb hf => hb (by rw [hF b hf]; exact h.cL)
  refine ⟨hm.row h.row (hn g (by rw [h.cg]; decide)), hB, h.map.mv hm (hn M (by rw [h.cM]; decide)), fun x v hv => ?_, h.non, h.dom, h.few, h.wait, h.cg, h.cL, h.cM, fun b hb => Nat.lt_of_lt_of_le (h.lt b hb) hm.size, h.pp, h.lb, h.cnt⟩
  have hV := h.ver x v hv
  refine ⟨owns_mv hV.own hm fun b hb => hn b (by rw [hV.col b hb]; omega), hV.col, hV.full, fun q hq => ?_⟩
  obtain ⟨h1, h2⟩ := hV.all q hq
  exact ⟨h1.mv hm fun b hb => hn b (by rw [hb]; decide), h2⟩
/-- The map has lost keys. -/
theorem DevAt.remap (h : DevAt C w g L c M f I p n S) {F : Nat → Prop} (hm : Mv F w w') (hF : ∀ b, F b → b = M) {f' : Int → Option Value} {I' : Int → List Item} {n' : Nat} {W : Int → List (List Nat)} (hM : Mp Try.prog 3 w' M n' f')
    (hf : ∀ x v, f' x = some v → f x = some v ∧ I' x = I x) (hno : ∀ x, f' x = none → I' x = []) (hfew : ∀ x, (I' x).length ≤ n') (hW : ∀ x, W x = (I' x).map Item.b) : DevAt C w' g L c M f' I' p n' { S with W := W } := by
  have hn : ∀ b, C b ≠ 3 → ¬ F b := fun b hb hf => hb (by rw [hF b hf]; exact h.cM)
  refine ⟨hm.row h.row (hn g (by rw [h.cg]; decide)), owns_mv h.laid hm (fun b hb => ?_), hM, fun x v hv => ?_, hno, fun x v hv => h.dom x v (hf x v hv).1, hfew, hW, h.cg, h.cL, h.cM, fun b hb => Nat.lt_of_lt_of_le (h.lt b hb) hm.size, h.pp, h.lb, h.cnt⟩
  · cases hb
    exact hn L (by rw [h.cL]; decide)
  · obtain ⟨h1, h2⟩ := hf x v hv
    rw [h2]
    have hV := h.ver x v h1
    refine ⟨owns_mv hV.own hm fun b hb => hn b (by rw [hV.col b hb]; omega), hV.col, hV.full, fun q hq => ?_⟩
    obtain ⟨h1, h2⟩ := hV.all q hq
    exact ⟨h1.mv hm fun b hb => hn b (by rw [hb]; decide), h2⟩
theorem DevAt.cleared (h : DevAt C w g L c M f I p n S) (hg : w.grownBy w' (some M)) (hM : Mp Try.prog 3 w' M 0 noKeys) : DevAt C w' g L c M noKeys (fun _ => []) p 0 { S with W := fun _ => [] } :=
  h.remap (Mv.of_grown (F := fun b => b = M) hg fun g h _ => by cases h; rfl) (fun _ h => h) hM (fun _ _ h => by cases h) (fun _ _ => rfl) (fun _ => Nat.zero_le _) (fun _ => rfl)
theorem DevAt.len (h : DevAt C w g L c M f I p n S) : S.B.length = 256 * p := by
  have := h.laid.1
  rw [u8s_length] at this
  omega
theorem DevAt.wlen (h : DevAt C w g L c M f I p n S) (x : Int) : (S.W x).length = (I x).length := by rw [h.wait x, List.length_map]
theorem DevAt.wnil (h : DevAt C w g L c M f I p n S) {x : Int} (hx : I x = []) : S.W x = [] := by rw [h.wait x, hx]; rfl
end

theorem keptN_zero (N : Int) : keptN 0 N = 0 := by unfold keptN; omega
theorem keptN_le (m : Nat) (N : Int) : keptN m N ≤ m := by unfold keptN; omega
theorem keptB_nil (B : List Nat) (x : Nat) (N part : Int) : keptB B x [] N part = B := by
  unfold keptB
  simp [keptN_zero]

theorem survive_any {C w g L c M f I p n S} (h : DevAt C w g L c M f I p n S) (x N part : Int) (hx : -9223372036854775808 ≤ x ∧ x ≤ 9223372036854775807) (hn : n ≤ 1000000) :
    Calls Try.prog 52 #[.pointer (some ⟨g, 0, none⟩), .agg #[.int .i64 x, .int .i64 N, .int .i64 part]] w fun e w' => e = .returned (.int .i64 (keptN (S.W x).length N : Nat)) ∧
      DevAt C w' g L c M f I p n { S with B := keptB S.B x.toNat (S.W x) N part } ∧ Mv (fun b => b = L) w w' := by
  by_cases hI : I x = []
  · rw [h.wnil hI]
    refine (survive_none h x N part hx hI).mono ?_
    rintro e w' ⟨rfl, hb⟩
    refine ⟨ret_int (by simp [keptN_zero]), ?_, Mv.of_below hb⟩
    rw [keptB_nil]
    exact h.keep (Mv.of_below (F := fun _ => False) hb) fun _ h => h.elim
  · obtain ⟨v, hv, _⟩ := look_some h hI
    obtain ⟨k, rfl⟩ := Int.eq_ofNat_of_zero_le (h.dom _ _ hv).1
    rw [h.wlen]
    have hk : (Int.ofNat k).toNat = k := rfl
    have fin : ∀ {P : Ending → World → Prop}, Calls Try.prog 52 #[.pointer (some ⟨g, 0, none⟩), .agg #[.int .i64 (k : Int), .int .i64 N, .int .i64 part]] w (fun e w' => e = .returned (.int .i64 (keptN (I k).length N : Nat)) ∧
        w'.ownsRow 0 5 1 (.slice (some ⟨L, 0, none⟩) (256 * p) c) (256 * p) (u8s (keptB S.B k (S.W k) N part)) ∧ Mv (fun b => b = L) w w') →
        (∀ e w', (e = .returned (.int .i64 (keptN (I k).length N : Nat)) ∧ DevAt C w' g L c M f I p n { S with B := keptB S.B k (S.W k) N part } ∧ Mv (fun b => b = L) w w') → P e w') →
        Calls Try.prog 52 #[.pointer (some ⟨g, 0, none⟩), .agg #[.int .i64 (k : Int), .int .i64 N, .int .i64 part]] w P := fun hc hP => hc.mono fun e w' ⟨h1, h2, h3⟩ => hP e w' ⟨h1, h.relay h3 (fun _ h => h) h2, h3⟩
    by_cases h0 : keptN (I k).length N = 0
    · exact fin (survive_part h k N part hn hI h0) fun _ _ h => h
    · by_cases hl : keptN (I k).length N = (I k).length
      · exact fin (survive_first h k N part hn hI (by omega) hl) fun _ _ h => h
      · have := keptN_le (I k).length N
        exact fin (survive_both h k N part hn hI (by omega) (by omega)) fun _ _ h => h

theorem arm_some {C w g L c M f I p n S} (h : DevAt C w g L c M f I p n S) (k : Int) (hk : -9223372036854775808 ≤ k ∧ k ≤ 9223372036854775807) :
    Calls Try.prog 28 #[.pointer (some ⟨g, 0, none⟩), .int .i64 k] w fun e w' => e = .returned (.tuple #[]) ∧ DevAt C w' g L c M f I p n { S with armed := decide (0 ≤ k), left := k } ∧ Mv (fun b => b = g) w w' := by
  have H := hid (limit_any w g _ _ _ _ _ _ _ _ k h.row)
  have HD := hid h
  clear h
  go_enter Try.func28, Try.ntmps28
  go_wp2_with fail
  refine H.out.mono ?_
  rintro e w1 ⟨rfl, h1, h2⟩
  have hM : Mv (fun b => b = g) w w1 := Mv.of_grown h2 fun g h _ => by cases h; rfl
  have HM := hid hM
  have HT := hid (HD.out.turn hM (fun _ h => h) h1 (by by_cases h0 : 0 ≤ k; exact .inl ⟨h0, hk.2⟩; exact .inr (decide_eq_false h0)) HD.out.cnt)
  clear h1 h2 hM H
  go_wp2_with fail
  go_end0
  exact ⟨rfl, HT.out, HM.out⟩
theorem power_some {C w g L c M f I p n S} (h : DevAt C w g L c M f I p n S) :
    Calls Try.prog 31 #[.pointer (some ⟨g, 0, none⟩)] w fun e w' => e = .returned (.tuple #[]) ∧ DevAt C w' g L c M noKeys (fun _ => []) p 0 { S with on := true, armed := false, left := 0, W := fun _ => [] } ∧ Mv (fun b => C b ≠ 0) w w' := by
  have c4 := h.row.c4
  have HM := hid h.map
  have HD := hid h
  clear h
  go_enter Try.func31, Try.ntmps31
  go_wp2_with (refine wpList_clear _ rfl (.tmp 7) 93 rfl 3 118 Try.underlying93 M n f rfl HM.out ?_)
  intro w1 hm1 hg1
  have HD1 := hid (HD.out.cleared hg1 hm1)
  have H := hid (light_any w1 g _ _ _ _ _ _ _ _ HD1.out.row)
  have HG1 := hid hg1
  clear hm1 hg1 c4 HM
  go_wp2_with fail
  refine H.out.mono ?_
  rintro e w2 ⟨rfl, h1, h2⟩
  have hM : Mv (fun b => b = g) w1 w2 := Mv.of_grown h2 fun g h _ => by cases h; rfl
  have HT := hid (HD1.out.turn hM (fun _ h => h) h1 (.inr rfl) HD1.out.cnt)
  have HMV : Hid (Mv (fun b => C b ≠ 0) w w2) := hid ((Mv.of_grown HG1.out fun j h _ => by cases h; show C M ≠ 0; rw [HD1.out.cM]; decide).trans (hM.sub fun b _ h => by cases h; show C g ≠ 0; rw [HD1.out.cg]; decide))
  clear h1 h2 hM H
  go_wp2_with fail
  go_end0
  exact ⟨rfl, HT.out, HMV.out⟩
end Go.Proofs.Ytebacgkeolofmaa
namespace Go.Proofs.Ytebacgkeolofmaa
open Go.RowKit Go.Inc

/-- A slice of what is laid. -/
theorem DevAt.slB {C w g L c M f I p n S} (h : DevAt C w g L c M f I p n S) : Sl (fun b => C b ≠ 0) w (some ⟨L, 0, none⟩) S.B := by
  have hl := h.len
  refine .inr ⟨L, 0, rfl, (by show C L ≠ 0; rw [h.cL]; decide), fun i hi => ?_⟩
  have hc := h.laid.cells (g := L) rfl i _ (u8s_get hi)
  rwa [Addr.add_lit] at hc
/-- A page of it. -/
def pg (B : List Nat) (k : Nat) : List Nat := (B.drop (256 * k)).take 256
theorem pg_len {B : List Nat} {p k : Nat} (hl : B.length = 256 * p) (hk : k < p) : (pg B k).length = 256 := by unfold pg; rw [List.length_take, List.length_drop]; omega
theorem DevAt.slPg {C w g L c M f I p n S} (h : DevAt C w g L c M f I p n S) (k : Nat) : Sl (fun b => C b ≠ 0) w (some ⟨L, 256 * k, none⟩) (pg S.B k) := by
  exact (h.slB.behind (256 * k) (some ⟨L, 256 * k, none⟩) (fun _ => by simp [Addr.add])).front 256

/-- What is read of a page. -/
def rd (S : St) (k : Nat) : List Nat := if S.W k = [] then pg S.B k else (S.W k).getD ((S.W k).length - 1) []

theorem read_range {C w g L c M f I p n S} (h : DevAt C w g L c M f I p n S) (x : Int) (ho : S.on = true) (hx : ¬ (0 ≤ x ∧ x < p)) :
    Calls Try.prog 46 #[.pointer (some ⟨g, 0, none⟩), .int .i64 x] w fun e w' => e = .returned (.tuple #[.slice none 0 0, .int .i64 10]) ∧ w = w' := by
  have H := hid (on_some w g _ _ _ _ _ _ _ _ h.row)
  have H1 := hid (has_some w g _ _ _ _ _ _ _ _ _ _ x h.row h.pp.2)
  rw [ho] at H
  rw [decide_eq_false hx] at H1
  clear h ho hx
  go_enter Try.func46, Try.ntmps46
  go_wp2_with fail
  refine H.out.mono ?_
  rintro e w1 ⟨rfl, rfl⟩
  go_wp2_with fail
  refine H1.out.mono ?_
  rintro e w1 ⟨rfl, rfl⟩
  go_wp2_with fail
  go_ret2
  exact ⟨rfl, rfl⟩

set_option maxRecDepth 20000 in
theorem read_some {C w g L c M f I p n S} (h : DevAt C w g L c M f I p n S) (k : Nat) (hk : k < p) (ho : S.on = true) (hn : n ≤ 1000000) (hr : S.r ≤ 1000000) :
    Calls Try.prog 46 #[.pointer (some ⟨g, 0, none⟩), .int .i64 (k : Int)] w fun e w' => ∃ v, e = .returned (.tuple #[v, .int .i64 0]) ∧ Row 5 w.heap.size w' v (rd S k) ∧
      DevAt C w' g L c M f I p n { S with r := S.r + 1 } ∧ Mv (fun b => b = g) w w' := by
  have H := hid (on_some w g _ _ _ _ _ _ _ _ h.row)
  have H1 := hid (has_some w g _ _ _ _ _ _ _ _ _ _ (k : Int) h.row h.pp.2)
  rw [ho] at H
  rw [decide_eq_true (by omega)] at H1
  have H2 := hid (add64_any w ⟨g, 5, none⟩ S.r h.row.c5 (h.row.fz 5) (by have := h.cnt; omega) rfl)
  have hcnt := h.cnt
  have hm2 : Mv (fun b => b = g) w (w.setCell ⟨g, 5, none⟩ (.int .i64 (S.r + 1))) := Mv.of_grown (r := some g) (grown_setCell (grown_refl _ _) (.inl rfl) _) fun g h _ => by cases h; rfl
  have hd2 := h.turn hm2 (fun _ h => h) (h.row.s5 (S.r + 1)) h.lb ⟨by omega, hcnt.2.1, hcnt.2.2⟩
  have hsz : w.heap.size ≤ (w.setCell ⟨g, 5, none⟩ (.int .i64 (S.r + 1))).heap.size := hm2.size
  obtain ⟨w2, hw2⟩ : ∃ w2, w2 = w.setCell ⟨g, 5, none⟩ (.int .i64 (S.r + 1)) := ⟨_, rfl⟩
  rw [← hw2] at H2 hm2 hd2 hsz
  have HW := hid hw2
  have HM2 := hid hm2
  have HSZ := hid hsz
  have hbx : -9223372036854775808 ≤ (k : Int) ∧ (k : Int) ≤ 9223372036854775807 := by have := h.pp; omega
  have c4 := hd2.row.c4
  have hpp := h.pp
  have hcp := own_cap h.laid
  have hfew := h.few
  have hwl := h.wlen k
  have hwt := h.wait k
  clear hm2 hw2 hsz hcnt h ho
  by_cases hI : I k = []
  · have hrd : Hid (rd S k = pg S.B k) := hid (by unfold rd; rw [if_pos (by rw [hwt, hI]; rfl)])
    have H3 := hid (last_none w2 M n f (k : Int) hd2.map hbx (look_none hd2 hI))
    have H4 := hid (page_some w2 g _ _ _ L p c k _ _ _ _ hd2.row hpp.2 hk hcp.1 hcp.2)
    have hpl : (pg S.B k).length = 256 := pg_len hd2.len hk
    have hpl' := hid hpl
    have H5 := hid (clone_any _ _ (c - 256 * k) (pg S.B k) w2 (hd2.slPg k) (by omega) (fun h => by cases h))
    have HD := hid hd2
    rw [hpl] at H5
    rw [hrd.out]
    clear hd2 hwl hwt hI hfew hpl
    go_enter Try.func46, Try.ntmps46
    go_wp2_with fail
    refine H.out.mono ?_
    rintro e w1 ⟨rfl, rfl⟩
    go_wp2_with fail
    refine H1.out.mono ?_
    rintro e w1 ⟨rfl, rfl⟩
    go_wp2_with fail
    refine H2.out.mono ?_
    rintro e w1 ⟨rfl, rfl⟩
    go_wp2_with fail
    refine H3.out.mono ?_
    rintro e w1 ⟨rfl, rfl⟩
    go_wp2_with fail
    refine H4.out.mono ?_
    rintro e w1 ⟨rfl, rfl⟩
    go_wp2_with fail
    refine H5.out.mono ?_
    rintro e w3 ⟨v, rfl, hr3, hb3⟩
    have HR : Hid (Row 5 w.heap.size w3 v (pg S.B k)) := hid (Row.weaken (B := _) (by unfold Row; rw [hpl'.out]; exact hr3) HSZ.out)
    have HD3 := hid (HD.out.keep (Mv.of_below (F := fun _ => False) hb3) fun _ h => h.elim)
    have HM3 := hid (HM2.out.trans (Mv.of_below hb3))
    clear hr3 hb3
    go_wp2_with fail
    go_ret2
    exact ⟨v, rfl, HR.out, HD3.out, HM3.out⟩
  · obtain ⟨v, hv, hV⟩ := look_some hd2 hI
    obtain ⟨R, cap, rfl, hR, hcap1, hcap2, hcell⟩ := hV.shape
    have hlen := List.length_pos_iff.2 hI
    obtain ⟨q, hq, hsq, hlq, hcq, hcq'⟩ := hV.item (i := (I k).length - 1) (by omega)
    have hrd : Hid (rd S k = q.b) := hid (by
      unfold rd
      rw [if_neg (by rw [hwt]; intro e; exact hI (List.map_eq_nil_iff.1 e)), hwl, hwt, List.getD_eq_getElem?_getD, List.getElem?_map, hq]; rfl)
    have hx1 : (I k).length - 1 + 1 = (I k).length := by omega
    have H3 := hid (last_some w2 M n f (k : Int) R ((I k).length - 1) cap _ hd2.map hbx (by rw [hv, hx1]; rfl) (by have := hfew k; omega) (hcell _ _ hq))
    have H5 := hid (clone_any _ _ q.c q.b w2 hsq (by omega) (fun h => by have := hsq.some_len h; omega))
    have HD := hid hd2
    have hpl' := hid hlq
    rw [hlq] at H5
    rw [hrd.out]
    clear hd2 hwl hwt hI hfew hV hcell hv hsq hq hlq hlen hx1
    go_enter Try.func46, Try.ntmps46
    go_wp2_with fail
    refine H.out.mono ?_
    rintro e w1 ⟨rfl, rfl⟩
    go_wp2_with fail
    refine H1.out.mono ?_
    rintro e w1 ⟨rfl, rfl⟩
    go_wp2_with fail
    refine H2.out.mono ?_
    rintro e w1 ⟨rfl, rfl⟩
    go_wp2_with fail
    refine H3.out.mono ?_
    rintro e w1 ⟨rfl, rfl⟩
    go_wp2_with fail
    refine H5.out.mono ?_
    rintro e w3 ⟨v, rfl, hr3, hb3⟩
    have HR : Hid (Row 5 w.heap.size w3 v q.b) := hid (Row.weaken (B := _) (by unfold Row; rw [hpl'.out]; exact hr3) HSZ.out)
    have HD3 := hid (HD.out.keep (Mv.of_below (F := fun _ => False) hb3) fun _ h => h.elim)
    have HM3 := hid (HM2.out.trans (Mv.of_below hb3))
    clear hr3 hb3
    go_wp2_with fail
    go_ret2
    exact ⟨v, rfl, HR.out, HD3.out, HM3.out⟩
end Go.Proofs.Ytebacgkeolofmaa
