/- CONTRACT: what survives of a page. -/
import Derived.Test.YtgppmnaidgkboaaDevD
import Derived.StillTailTactics
namespace Go.Inc
open Go.RowKit Go.Maps

/-- The look-up, as an equation. -/
theorem Mp.look_run {P : Program} {k t e : TypeId} {w : World} {b n : Nat} {f : Int → Option Value} (h : Mp P k w b n f) (hk : P.underlying k = some (.int .i64)) (ht : P.underlying t = some (.map k e)) (z : Value) (hz : (P.info? e).bind (·.zero) = some z)
    (y : Int) (hw : -9223372036854775808 ≤ y ∧ y ≤ 9223372036854775807) : (Instr.lookup t (.map (some b)) (.int .i64 y) false).run P w = .ok ((f y).getD z) w := by
  obtain ⟨D, hD, hs⟩ := h
  have hz' : (zeroValue e).run P w = .ok z w := by
    obtain ⟨i, hi, hz⟩ := Option.bind_eq_some_iff.1 hz
    simp [zeroValue, typeInfo, hi, hz]
  obtain ⟨v, ps, hrun, hv⟩ := hD.lookup (int_keyed hk) ht hz' (zd := .held z) (zp := []) rfl (keyOf_int_mk hk (a := y) (Go.WalkArith.wf_i64 hw))
  rw [hs.at] at hv
  unfold heldElem at hv
  simp only [Option.some.injEq, Prod.mk.injEq, DataW.held.injEq] at hv
  obtain ⟨rfl, _⟩ := hv
  exact hrun

theorem splice_take {α : Type} {L cs : List α} {off n : Nat} (h1 : off + cs.length ≤ n) (h2 : n ≤ L.length) : (splice L off cs).take n = splice (L.take n) off cs := by
  have e1 : min off L.length = off := by omega
  have e2 : min n L.length = n := by omega
  have e3 : min off n = off := by omega
  unfold splice
  apply List.ext_getElem?
  intro i
  simp only [List.getElem?_take, List.getElem?_append, List.length_take, List.getElem?_drop, e1, e2, e3]
  by_cases hi : i < n
  · by_cases ho : i < off
    · simp [hi, ho]
    · by_cases hc : i - off < cs.length
      · simp [hi, ho, hc]
      · have h3 : off + cs.length + (i - off - cs.length) < n := by omega
        simp [hi, ho, hc, h3]
  · have h4 : ¬ i < off := by omega
    have h5 : ¬ i - off < cs.length := by omega
    have h6 : ¬ off + cs.length + (i - off - cs.length) < n := by omega
    simp [hi, h4, h5, h6]

/-- 'copy' into a row of the call's own. -/
theorem wpList_copy_row {P : Program} {w : World} {ops : Array Oper} {rest : List Oper} {o : Oper} {a : Act} {Q : Exit → Act → World → Prop} (hgd : o.guard = none) (d s : Operand) (dT sT : TypeId)
    (ho : o.op = .call { callee := .builtin .copy, args := #[d, s], argTypes := #[dT, sT] }) (e : TypeId) (hu : P.underlying dT = some (.slice e)) (hsz : (P.info? e).map (·.size) = some 1)
    (base g n c : Nat) (xs : List Value) (hown : w.ownsRow base e 1 (.slice (some ⟨g, 0, none⟩) n c) n xs) (off dLen dCap : Nat) (hd : a.eval d = .slice (some ⟨g, off, none⟩) dLen dCap)
    (ad : Addr) (sLen sCap : Nat) (hs : a.eval s = .slice (some ad) sLen sCap) (cs : List Value) (hn : cs.length = Nat.min sLen dLen) (hsrc : ∀ j v, cs[j]? = some v → w.cell? (ad.add j) = some v) (hfit : off + cs.length ≤ n) (h1 : ∀ v ∈ cs, v.oneCell' = true)
    (h : ∀ w', w'.ownsRow base e 1 (.slice (some ⟨g, 0, none⟩) n c) n (splice xs off cs) → w.grownBy w' (some g) → wpList P ops Q rest (a.put o.dst (goInt cs.length)) w') : wpList P ops Q (o :: rest) a w := by
  obtain ⟨hl, h⟩ := And.intro hown h
  rcases hown.2 with ⟨h0, _⟩ | ⟨g', cap, cur, hv, hb, hg, hnc, hm, hcs, ht⟩
  · cases h0
  · simp only [Value.slice.injEq, Option.some.injEq, Addr.mk.injEq, and_true, true_and] at hv
    obtain ⟨rfl, rfl⟩ := hv
    have hxl := hown.1
    have hcur : cur.toList.length = c := by simpa using hcs
    refine wpList_copy_own hgd d s dT sT ho e hu hsz g off dLen dCap ad sLen sCap hd hs cur e hg cs hn hsrc (by simp at hcur; omega) h1 (h _ ?_ ?_)
    · refine ⟨by simp [splice]; omega, .inr ⟨g, c, _, rfl, hb, setRow_heap w g cur _ e _ hg, hnc, hm, by simp; simp at hcur; omega, ?_⟩⟩
      rw [← ht]
      simp only [Nat.mul_one] at ht ⊢
      exact splice_take hfit (by omega)
    · exact ⟨rfl, rfl, rfl, by simp, fun k _ hk => setRow_other w g k _ (by rintro rfl; exact hk rfl)⟩
theorem calls_sym {P : Program} {f : FuncId} {args : Array Value} {w : World} {v : Value} (h : Calls P f args w fun e w' => e = .returned v ∧ w = w') : Calls P f args w fun e w' => e = .returned v ∧ w' = w :=
  h.mono fun _ _ h => ⟨h.1, h.2.symm⟩
end Go.Inc
namespace Go.Proofs.Ytgppmnaidgkboaa
open Go.RowKit Go.Inc

/-- Nothing that the device owns has turned. -/
theorem DevAt.keep {C w w' g L c M f I p n S} {F : Nat → Prop} (h : DevAt C w g L c M f I p n S) (hm : Mv F w w') (hF : ∀ b, F b → C b = 0) : DevAt C w' g L c M f I p n S := by
  have hn : ∀ b, C b ≠ 0 → ¬ F b := fun b hb hf => hb (hF b hf)
  refine ⟨hm.row h.row (hn g (by rw [h.cg]; decide)), owns_mv h.laid hm (fun b hb => ?_), h.map.mv hm (hn M (by rw [h.cM]; decide)), fun x v hv => ?_, h.non, h.dom, h.few, h.wait, h.cg, h.cL, h.cM, fun b hb => Nat.lt_of_lt_of_le (h.lt b hb) hm.size, h.pp, h.lb, h.cnt⟩
  · cases hb
    exact hn L (by rw [h.cL]; decide)
  · have hV := h.ver x v hv
    refine ⟨owns_mv hV.own hm fun b hb => hn b (by rw [hV.col b hb]; omega), hV.col, hV.full, fun q hq => ?_⟩
    obtain ⟨h1, h2⟩ := hV.all q hq
    exact ⟨h1.mv hm fun b hb => hn b (by rw [hb]; decide), h2⟩

/-- How many of m versions survive, of N that are told; what is laid then. -/
def keptN (m : Nat) (N : Int) : Nat := (max 0 (min N m)).toNat
def keptB (B : List Nat) (x : Nat) (vs : List (List Nat)) (N part : Int) : List Nat :=
  let k := keptN vs.length N
  let B1 := if 0 < k then splice B (256 * x) (vs.getD (k - 1) []) else B
  if k < vs.length then splice B1 (256 * x) ((vs.getD k []).take (max 0 (min part 256)).toNat) else B1

theorem survive_none {C w g L c M f I p n S} (h : DevAt C w g L c M f I p n S) (x N part : Int) (hx : -9223372036854775808 ≤ x ∧ x ≤ 9223372036854775807) (hI : I x = []) :
    Calls Try.prog 39 #[.pointer (some ⟨g, 0, none⟩), .agg #[.int .i64 x, .int .i64 N, .int .i64 part]] w fun e w' => e = .returned (.int .i64 0) ∧ Below w.heap.size w w' := by
  obtain ⟨w1, hw1⟩ : ∃ w1, w1 = w.alloc (.cells #[.int .i64 x, .int .i64 N, .int .i64 part] 68) := ⟨_, rfl⟩
  have hb1 : Below w.heap.size w w1 := by rw [hw1]; exact (Below.refl _ _).alloc (Nat.le_refl _) _
  have hd1 := h.keep (Mv.of_below (F := fun _ => False) hb1) (fun _ h => h.elim)
  have hk0 : w1.cell? ⟨w.heap.size, 0, none⟩ = some (.int .i64 x) := by rw [hw1]; exact cell_of_row _ _ 0 _ _ _ (heap_alloc_new w _)
  have hk1 : w1.cell? ⟨w.heap.size, 1, none⟩ = some (.int .i64 N) := by rw [hw1]; exact cell_of_row _ _ 1 _ _ _ (heap_alloc_new w _)
  have c4 := hd1.row.c4
  have hlook : ∀ k, (Instr.lookup 72 (.map (some M)) (.int .i64 x) false).run Try.prog (w1.drewN k) = .ok (.slice none 0 0) (w1.drewN k) := fun k => by
    rw [← look_none h hI]; exact Mp.look_run (hd1.map.same (w' := w1.drewN k) rfl) Try.underlying3 Try.underlying72 _ (by kernel_rfl) x hx
  have HW := hid hw1
  have HB1 := hid hb1
  have hwn := fun w' => within_any w' N 0
  have hz : max 0 (min N 0) = 0 := by simp only [Int.max_def, Int.min_def]; repeat split <;> omega
  rw [hz] at hwn
  clear h hd1 hw1 hb1 hz
  go_enter Try.func39, Try.ntmps39
  go_wp2_with fail
  rw [← HW.out]
  go_quiet (fail)
  go_wp2_with (go_at_call 49; refine (hwn _).mono ?_; rintro e w' ⟨rfl, rfl⟩)
  go_ret
  exact ⟨rfl, ⟨HB1.out.os, HB1.out.tape, HB1.out.output, HB1.out.size, HB1.out.block⟩⟩
end Go.Proofs.Ytgppmnaidgkboaa
