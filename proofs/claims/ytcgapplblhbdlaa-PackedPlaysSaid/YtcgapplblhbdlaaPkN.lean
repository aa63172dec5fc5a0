/- CONTRACT: an array copied. -/
import Derived.Test.YtcgapplblhbdlaaPkM
import Derived.Laws.CopyOwn
import Derived.Deep.OwnRows
namespace Go.Inc
open Go.RowKit
theorem splice_take' {α : Type} {L cs : List α} {off n : Nat} (h1 : off + cs.length ≤ n) (h2 : n ≤ L.length) : (splice L off cs).take n = splice (L.take n) off cs := by
  have e1 : min off L.length = off := by omega
  have e2 : min n L.length = n := by omega
  have e3 : min off n = off := by omega
  unfold splice
  apply List.ext_getElem?
  intro i
  simp only [List.getElem?_take, List.getElem?_append, List.length_take, List.getElem?_drop, e1, e2, e3]
  by_cases hi : i < n
  · by_cases ho : i < off
    · simp [hi, ho]
    · by_cases hc : i - off < cs.length
      · simp [hi, ho, hc]
      · have h6 : off + cs.length + (i - off - cs.length) < n := by omega
        simp [hi, ho, hc, h6]
  · have h4 : ¬ i < off := by omega
    have h5 : ¬ i - off < cs.length := by omega
    have h6 : ¬ off + cs.length + (i - off - cs.length) < n := by omega
    simp [hi, h4, h5, h6]
/-- 'copy' into a row of the call's own. -/
theorem wpList_copy_row' {P : Program} {w : World} {ops : Array Oper} {rest : List Oper} {o : Oper} {a : Act} {Q : Exit → Act → World → Prop} (hgd : o.guard = none) (d s : Operand) (dT sT : TypeId)
    (ho : o.op = .call { callee := .builtin .copy, args := #[d, s], argTypes := #[dT, sT] }) (e : TypeId) (hu : P.underlying dT = some (.slice e)) (hsz : (P.info? e).map (·.size) = some 1)
    (base g n c : Nat) (xs : List Value) (hown : w.ownsRow base e 1 (.slice (some ⟨g, 0, none⟩) n c) n xs) (off dLen dCap : Nat) (hd : a.eval d = .slice (some ⟨g, off, none⟩) dLen dCap)
    (ad : Addr) (sLen sCap : Nat) (hs : a.eval s = .slice (some ad) sLen sCap) (cs : List Value) (hn : cs.length = Nat.min sLen dLen) (hsrc : ∀ j v, cs[j]? = some v → w.cell? (ad.add j) = some v) (hfit : off + cs.length ≤ n) (h1 : ∀ v ∈ cs, v.oneCell' = true)
    (h : ∀ w', w'.ownsRow base e 1 (.slice (some ⟨g, 0, none⟩) n c) n (splice xs off cs) → w.grownBy w' (some g) → wpList P ops Q rest (a.put o.dst (goInt cs.length)) w') : wpList P ops Q (o :: rest) a w := by
  rcases hown.2 with ⟨h0, _⟩ | ⟨g', cap, cur, hv, hb, hg, hnc, hm, hcs, ht⟩
  · cases h0
  · simp only [Value.slice.injEq, Option.some.injEq, Addr.mk.injEq, and_true, true_and] at hv
    obtain ⟨rfl, rfl⟩ := hv
    have hxl := hown.1
    have hcur : cur.toList.length = c := by simpa using hcs
    refine wpList_copy_own hgd d s dT sT ho e hu hsz g off dLen dCap ad sLen sCap hd hs cur e hg cs hn hsrc (by simp at hcur; omega) h1 (h _ ?_ ?_)
    · refine ⟨by simp [splice]; omega, .inr ⟨g, c, _, rfl, hb, setRow_heap w g cur _ e _ hg, hnc, hm, by simp; simp at hcur; omega, ?_⟩⟩
      rw [← ht]
      simp only [Nat.mul_one] at ht ⊢
      exact splice_take' hfit (by omega)
    · exact ⟨rfl, rfl, rfl, by simp, fun k _ hk => setRow_other w g k _ (by rintro rfl; exact hk rfl)⟩
/-- 'copy' of nothing. -/
theorem wpList_copy_none {P : Program} {w : World} {ops : Array Oper} {rest : List Oper} {o : Oper} {a : Act} {Q : Exit → Act → World → Prop} (hgd : o.guard = none) (d s : Operand) (dT sT : TypeId)
    (ho : o.op = .call { callee := .builtin .copy, args := #[d, s], argTypes := #[dT, sT] }) (e : TypeId) (hu : P.underlying dT = some (.slice e)) (hsz : (P.info? e).map (·.size) = some 1)
    (ad : Option Addr) (dLen dCap : Nat) (ao : Option Addr) (sCap : Nat) (hd : a.eval d = .slice ad dLen dCap) (hs : a.eval s = .slice ao 0 sCap)
    (h : wpList P ops Q rest (a.put o.dst (goInt 0)) w) : wpList P ops Q (o :: rest) a w := by
  obtain ⟨i, hi, -⟩ := Option.map_eq_some_iff.1 hsz
  refine wpList_plain hgd fun K hK => ?_
  unfold Oper.wp execOp
  cases ao <;> cases ad <;> simp [ho, resolve, invoke, builtin, hd, hs, Builtin.copy_, run_underlying hu, sizeOf, typeInfo, hi, Builtin.firstCells, Builtin.lenOf, loadCells, loadCellsFrom, storeCells, Result.andThen]
  all_goals exact hK _ _ h
theorem splice_all {α : Type} {L cs : List α} (h : L.length = cs.length) : splice L 0 cs = cs := by
  unfold splice
  rw [List.take_zero, List.nil_append, Nat.zero_add, ← h, List.drop_length, List.append_nil]
end Go.Inc
namespace Go.Proofs.Ytcgapplblhbdlaa
open Go.RowKit Go.Inc
theorem pkR_new {z : World} {B g nw w n : Nat} (hr : z.ownsRow B 35 1 (.slice (some ⟨g, 0, none⟩) nw nw) nw (wvals (List.replicate nw 0))) (hg : g < z.heap.size) :
    PkR (z.alloc (.cells #[.int .i64 (w : Int), .int .i64 (n : Int), .slice (some ⟨g, 0, none⟩) nw nw] 56)) z.heap.size (.slice (some ⟨g, 0, none⟩) nw nw) w n (List.replicate nw 0) B := by
  have hb : Below z.heap.size z (z.alloc (.cells #[.int .i64 (w : Int), .int .i64 (n : Int), .slice (some ⟨g, 0, none⟩) nw nw] 56)) := (Below.refl _ _).alloc (Nat.le_refl _) _
  refine ⟨heap_alloc_new z _, ?_, fun e => ?_⟩
  · rw [List.length_replicate]
    exact owns_mv (F := fun _ => False) hr (Mv.of_below hb) (fun _ _ => id)
  · simp [Value.ownBlock] at e; omega
def MkA (B nw : Nat) (x : World) (v : Value) : Prop := ∃ g2, v = .slice (some ⟨g2, 0, none⟩) nw nw ∧ B ≤ g2 ∧ g2 < x.heap.size ∧ x.ownsRow B 35 1 (.slice (some ⟨g2, 0, none⟩) nw nw) nw (wvals (List.replicate nw 0))
def MkB (B nw w n : Nat) (x : World) (v : Value) : Prop := ∃ g2, v = .agg #[.int .i64 (w : Int), .int .i64 (n : Int), .slice (some ⟨g2, 0, none⟩) nw nw] ∧ B ≤ g2 ∧ g2 < x.heap.size ∧ x.ownsRow B 35 1 (.slice (some ⟨g2, 0, none⟩) nw nw) nw (wvals (List.replicate nw 0))
def MkC (B nw w n : Nat) (x : World) (v : Value) : Prop := ∃ b2 g2, v = .pointer (some ⟨b2, 0, none⟩) ∧ B ≤ b2 ∧ B ≤ g2 ∧ PkR x b2 (.slice (some ⟨g2, 0, none⟩) nw nw) w n (List.replicate nw 0) B
theorem MkA.kept {B nw : Nat} {x y : World} {v : Value} (h : MkA B nw x v) (hg : Grew x y) : MkA B nw y v := by
  obtain ⟨g2, h1, h2, h3, h4⟩ := h
  exact ⟨g2, h1, h2, Nat.lt_of_lt_of_le h3 hg.size, owns_mv (F := fun _ => False) h4 (Mv.of_below hg) (fun _ _ => id)⟩
theorem MkB.kept {B nw w n : Nat} {x y : World} {v : Value} (h : MkB B nw w n x v) (hg : Grew x y) : MkB B nw w n y v := by
  obtain ⟨g2, h1, h2, h3, h4⟩ := h
  exact ⟨g2, h1, h2, Nat.lt_of_lt_of_le h3 hg.size, owns_mv (F := fun _ => False) h4 (Mv.of_below hg) (fun _ _ => id)⟩
theorem MkC.kept {B nw w n : Nat} {x y : World} {v : Value} (h : MkC B nw w n x v) (hg : Grew x y) : MkC B nw w n y v := by
  obtain ⟨b2, g2, h1, h2, h3, h4⟩ := h
  exact ⟨b2, g2, h1, h2, h3, h4.below hg⟩
set_option maxRecDepth 20000 in
set_option maxHeartbeats 4000000 in
theorem pkCopy_any (x : World) (b B : Nat) (v : Value) (w : Nat) (l W : List Nat) (h : PkAt x b v w l W B) :
    Calls Try.prog 9 #[.pointer (some ⟨b, 0, none⟩)] x fun e w' => (∃ p, e = .returned p ∧ NewPk x w' p w l) ∧ Below x.heap.size x w' := by
  have HH := hid h
  obtain ⟨nw, hnw⟩ : ∃ nw, nw = W.length := ⟨_, rfl⟩
  obtain ⟨n, hn⟩ : ∃ n, n = l.length := ⟨_, rfl⟩
  obtain ⟨a, c, hv⟩ := h.raw.slice
  subst hv
  have HNW := hid hnw
  have HN := hid hn
  have hn31 : (nw : Int) ≤ 31745 := by have := h.wlen; omega
  have HC : Hid (∀ z, Grew x.drew z → z.cell? ⟨b, 0, none⟩ = some (.int .i64 (w : Int)) ∧ z.cell? ⟨b, 1, none⟩ = some (.int .i64 (n : Int)) ∧ z.cell? ⟨b, 2, none⟩ = some (.slice a nw c)) := hid fun z hz => by
    have hbz : Below x.heap.size x z := ⟨hz.os, hz.tape, hz.output, hz.size, hz.block⟩
    have h := HH.out.below hbz
    exact ⟨h.raw.c0, by rw [hn]; exact h.raw.c1, by rw [hnw]; exact h.raw.c2⟩
  have HMK : Hid (∀ z : World, (Instr.makeSlice 54 (.int .i64 (nw : Int)) (.int .i64 (nw : Int))).run Try.prog z = .ok (.slice (some ⟨z.heap.size, 0, none⟩) nw nw) (z.alloc (.cells (madeCells #[.int .u64 0] nw) 35))) := hid fun z =>
    run_make_row' 54 35 (.int .u64 0) 8 Try.underlying54 infoU64 rfl .i64 .i64 nw (by omega) (by omega) z
  have HZ : Hid (∀ z : World, x.heap.size ≤ z.heap.size → MkA x.heap.size nw (z.alloc (.cells (madeCells #[.int .u64 0] nw) 35)) (.slice (some ⟨z.heap.size, 0, none⟩) nw nw)) := hid fun z hx =>
    ⟨z.heap.size, rfl, hx, by simp, by simp [wvals], .inr ⟨z.heap.size, nw, _, rfl, hx, heap_alloc_new z _, Nat.le_refl _, by unfold maxLen; omega, by simp [madeCells], by
      rw [Nat.mul_one, ← madeU64 nw]
      apply List.take_of_length_le
      simp [madeCells]⟩⟩
  have HBN : Hid (∀ (z : World) (g2 : Nat), x.heap.size ≤ g2 → z.ownsRow x.heap.size 35 1 (.slice (some ⟨g2, 0, none⟩) nw nw) nw (wvals (List.replicate nw 0)) → g2 < z.heap.size → PkR (z.alloc (.cells #[.int .i64 (w : Int), .int .i64 (n : Int), .slice (some ⟨g2, 0, none⟩) nw nw] 56)) z.heap.size (.slice (some ⟨g2, 0, none⟩) nw nw) w n (List.replicate nw 0) x.heap.size) := hid fun z g2 _ hr hg => pkR_new hr hg
  have HSZ : Hid (∀ z : World, Grew x.drew z → x.heap.size ≤ z.heap.size) := hid fun z hx => hx.size
  clear h hnw hn
  go_enter Try.func9, Try.ntmps9
  go_wp2_with fail
  refine wp_region_grows 17 [EqN (.pointer (some ⟨b, 0, none⟩)), EqN (.pointer (some ⟨b, 0, none⟩)), EqN (.pointer (some ⟨b, 0, none⟩)), EqN (.int .i64 (w : Int)), EqN (.pointer (some ⟨b, 0, none⟩)), EqN (.pointer (some ⟨b, 0, none⟩)), EqN (.pointer (some ⟨b, 1, none⟩)), EqN (.int .i64 (n : Int)), EqN (.pointer (some ⟨b, 0, none⟩)), EqN (.pointer (some ⟨b, 0, none⟩)), EqN (.pointer (some ⟨b, 2, none⟩)), EqN (.slice a nw c), EqN (.int .i64 (nw : Int)), MkA x.heap.size nw, MkB x.heap.size nw w n, MkC x.heap.size nw w n, MkC x.heap.size nw w n] (by kernel_rfl) (by decide) (by kernel_rfl) ?_ ?_ ?_
  · repeat' (first | exact List.forall_mem_nil _ | refine List.forall_mem_cons.2 ⟨?_, ?_⟩)
    all_goals
      intro w w' v hw h
      first | exact h | exact MkA.kept h hw | exact MkB.kept h hw | exact MkC.kept h hw
  · simp only [AllLt]
    refine ⟨⟨⟨⟨⟨⟨⟨⟨⟨⟨⟨⟨⟨⟨⟨⟨⟨trivial, ?_⟩, ?_⟩, ?_⟩, ?_⟩, ?_⟩, ?_⟩, ?_⟩, ?_⟩, ?_⟩, ?_⟩, ?_⟩, ?_⟩, ?_⟩, ?_⟩, ?_⟩, ?_⟩, ?_⟩
    all_goals
      intro o' ho
      simp at ho
      subst ho
      intro ρ w5 hR hL hS hG
      obtain ⟨hl1, hl2, -⟩ := hL
    · refine plainG rfl ?_
      intro bA K Q' hK
      have e0 := hS 0 (by kernel_rfl)
      change ρ (.tmp 0) = _ at e0
      simp only [execOp]
      go_simp
      exact hK _ _ rfl (Grew.refl _)
    · refine plainG rfl ?_
      intro bA K Q' hK
      have e6 := hG 0 6 (by decide) (by kernel_rfl) (by kernel_rfl)
      change ρ (.tmp 6) = _ at e6
      simp only [execOp]
      go_simp
      exact hK _ _ rfl (Grew.refl _)
    · refine plainG rfl ?_
      intro bA K Q' hK
      have e7 := hG 1 7 (by decide) (by kernel_rfl) (by kernel_rfl)
      change ρ (.tmp 7) = _ at e7
      simp only [execOp]
      go_simp
      exact hK _ _ rfl (Grew.refl _)
    · refine plainG rfl ?_
      intro bA K Q' hK
      have e8 := hG 2 8 (by decide) (by kernel_rfl) (by kernel_rfl)
      change ρ (.tmp 8) = _ at e8
      obtain ⟨y0, y1, y2⟩ := HC.out w5 hR
      simp only [execOp]
      go_simp
      exact hK _ _ rfl (Grew.refl _)
    · refine plainG rfl ?_
      intro bA K Q' hK
      have e0 := hS 0 (by kernel_rfl)
      change ρ (.tmp 0) = _ at e0
      simp only [execOp]
      go_simp
      exact hK _ _ rfl (Grew.refl _)
    · refine plainG rfl ?_
      intro bA K Q' hK
      have e10 := hG 4 10 (by decide) (by kernel_rfl) (by kernel_rfl)
      change ρ (.tmp 10) = _ at e10
      simp only [execOp]
      go_simp
      exact hK _ _ rfl (Grew.refl _)
    · refine plainG rfl ?_
      intro bA K Q' hK
      have e11 := hG 5 11 (by decide) (by kernel_rfl) (by kernel_rfl)
      change ρ (.tmp 11) = _ at e11
      simp only [execOp]
      go_simp
      exact hK _ _ rfl (Grew.refl _)
    · refine plainG rfl ?_
      intro bA K Q' hK
      have e12 := hG 6 12 (by decide) (by kernel_rfl) (by kernel_rfl)
      change ρ (.tmp 12) = _ at e12
      obtain ⟨y0, y1, y2⟩ := HC.out w5 hR
      simp only [execOp]
      go_simp
      exact hK _ _ rfl (Grew.refl _)
    · refine plainG rfl ?_
      intro bA K Q' hK
      have e0 := hS 0 (by kernel_rfl)
      change ρ (.tmp 0) = _ at e0
      simp only [execOp]
      go_simp
      exact hK _ _ rfl (Grew.refl _)
    · refine plainG rfl ?_
      intro bA K Q' hK
      have e14 := hG 8 14 (by decide) (by kernel_rfl) (by kernel_rfl)
      change ρ (.tmp 14) = _ at e14
      simp only [execOp]
      go_simp
      exact hK _ _ rfl (Grew.refl _)
    · refine plainG rfl ?_
      intro bA K Q' hK
      have e15 := hG 9 15 (by decide) (by kernel_rfl) (by kernel_rfl)
      change ρ (.tmp 15) = _ at e15
      simp only [execOp]
      go_simp
      exact hK _ _ rfl (Grew.refl _)
    · refine plainG rfl ?_
      intro bA K Q' hK
      have e16 := hG 10 16 (by decide) (by kernel_rfl) (by kernel_rfl)
      change ρ (.tmp 16) = _ at e16
      obtain ⟨y0, y1, y2⟩ := HC.out w5 hR
      simp only [execOp]
      go_simp
      exact hK _ _ rfl (Grew.refl _)
    · refine plainG rfl ?_
      intro bA K Q' hK
      have e17 := hG 11 17 (by decide) (by kernel_rfl) (by kernel_rfl)
      change ρ (.tmp 17) = _ at e17
      simp only [execOp]
      go_simp
      exact hK _ _ rfl (Grew.refl _)
    · refine plainG rfl ?_
      intro bA K Q' hK
      have e18 := hG 12 18 (by decide) (by kernel_rfl) (by kernel_rfl)
      change ρ (.tmp 18) = _ at e18
      have hmk := HMK.out w5
      have hz := HZ.out w5 hR.size
      simp only [execOp]
      go_simp
      exact hK _ _ hz ((Grew.refl _).alloc _)
    · refine plainG rfl ?_
      intro bA K Q' hK
      have e9 := hG 3 9 (by decide) (by kernel_rfl) (by kernel_rfl)
      have e13 := hG 7 13 (by decide) (by kernel_rfl) (by kernel_rfl)
      have e19 := hG 13 19 (by decide) (by kernel_rfl) (by kernel_rfl)
      change ρ (.tmp 9) = _ at e9
      change ρ (.tmp 13) = _ at e13
      obtain ⟨g2, q1, q2, q3, q4⟩ := e19
      change ρ (.tmp 19) = _ at q1
      simp only [execOp]
      go_simp
      exact hK _ _ ⟨g2, rfl, q2, q3, q4⟩ (Grew.refl _)
    · refine plainG rfl ?_
      intro bA K Q' hK
      have e20 := hG 14 20 (by decide) (by kernel_rfl) (by kernel_rfl)
      obtain ⟨g2, q1, q2, q3, q4⟩ := e20
      change ρ (.tmp 20) = _ at q1
      have hnew := HBN.out w5 g2 q2 q4 q3
      have hsz2 := HSZ.out w5 hR
      simp only [execOp]
      go_simp
      exact hK _ _ ⟨_, g2, rfl, hsz2, q2, hnew⟩ ((Grew.refl _).alloc _)
    · refine plainG rfl ?_
      intro bA K Q' hK
      have e21 := hG 15 21 (by decide) (by kernel_rfl) (by kernel_rfl)
      obtain ⟨b2, g2, q1, q2, q3, q4⟩ := e21
      change ρ (.tmp 21) = _ at q1
      simp only [execOp]
      go_simp
      exact hK _ _ ⟨b2, g2, rfl, q2, q3, q4⟩ (Grew.refl _)
  · intro vv w3 hR hG
    obtain ⟨b2, g2, h16, hb2, hg2, hat2⟩ := hG.2
    have hbz : Below x.heap.size x w3 := ⟨hR.os, hR.tape, hR.output, hR.size, hR.block⟩
    have HB3 := hid hbz
    have HAT2 := hid hat2
    have HAT1 := hid (HH.out.below hbz)
    have hbb2 : (b : Int) < b2 := by have := HH.out.raw.blt; omega
    have k2 := HAT1.out.raw.c2
    rw [← HNW.out] at k2
    have j2 := hat2.c2
    have HG2 := hid (And.intro hb2 hg2)
    clear hG hR HC HMK HZ HBN HSZ hbz hat2 hb2 hg2
    simp [stG, stU, dstAt, Act.put, h16]
    clear h16
    go_wp2_with fail
    go_still_tail 8, mixedP
    repeat still_step
    change wpList _ _ _ _ _ w3.drew
    have HD : Hid (Below w3.heap.size w3 w3.drew) := hid ((Below.refl _ _).drew)
    have HR2 : Hid (w3.drew.ownsRow x.heap.size 35 1 (.slice (some ⟨g2, 0, none⟩) nw nw) nw (wvals (List.replicate nw 0))) := hid (by
      have h := (HAT2.out.below HD.out).row
      rwa [List.length_replicate] at h)
    have HB4 : Hid (Below x.heap.size x w3.drew) := hid (HB3.out.trans (Below.mono HD.out HB3.out.size))
    have HBOX : Hid (w3.drew.heap[b2]? = some (.cells #[.int .i64 (w : Int), .int .i64 (n : Int), .slice (some ⟨g2, 0, none⟩) nw nw] 56 (0, 0))) := hid (HAT2.out.below HD.out).box
    have HNE : Hid (g2 ≠ b2) := hid fun e => HAT2.out.ne (by rw [e]; rfl)
    have HFIN : Hid (∀ z : World, z.heap[b2]? = some (.cells #[.int .i64 (w : Int), .int .i64 (n : Int), .slice (some ⟨g2, 0, none⟩) nw nw] 56 (0, 0)) → z.ownsRow x.heap.size 35 1 (.slice (some ⟨g2, 0, none⟩) nw nw) nw (wvals W) → NewPk x z (.pointer (some ⟨b2, 0, none⟩)) w l) := hid fun z hz hr => by
      have h := HH.out
      refine ⟨b2, .slice (some ⟨g2, 0, none⟩) nw nw, W, rfl, HG2.out.1, ⟨⟨?_, ?_, ?_⟩, h.w1, h.w2, h.n, h.fit, h.wd⟩⟩
      · rw [← HN.out]; exact hz
      · rw [← HNW.out]; exact hr
      · intro e
        simp [Value.ownBlock] at e
        exact HNE.out e
    have HAS := hid (HAT1.out.below HD.out)
    clear k2 j2 HAT2 HAT1 HB3 HD
    generalize w3.drew = w4 at *
    by_cases hz : nw = 0
    · have hW : W = [] := List.eq_nil_of_length_eq_zero (by rw [← HNW.out]; exact hz)
      have HF4 : Hid (NewPk x w4 (.pointer (some ⟨b2, 0, none⟩)) w l) := hid (HFIN.out w4 HBOX.out (by
        have h := HR2.out
        rw [hz] at h ⊢
        rw [hW]
        exact h))
      clear HFIN HBOX HR2 HNE HH HAS hW HNW
      subst hz
      refine wpList_copy_none rfl (.tmp 25) (.tmp 29) 54 54 rfl 35 Try.underlying54 (by kernel_rfl) (some ⟨g2, 0, none⟩) 0 0 a c rfl rfl ?_
      go_wp2_with fail
      go_ret
      exact ⟨⟨_, rfl, HF4.out⟩, HB4.out⟩
    · obtain ⟨g, c', hsl, -, -, -, -⟩ := HAS.out.raw.here (by rw [← HNW.out]; omega)
      rw [← HNW.out] at hsl
      simp only [Value.slice.injEq, true_and] at hsl
      obtain ⟨rfl, rfl⟩ := hsl
      have HSRC : Hid (∀ j v, (wvals W)[j]? = some v → w4.cell? ((⟨g, 0, none⟩ : Addr).add j) = some v) := hid (HAS.out.raw.row.cells (g := g) rfl)
      refine wpList_copy_row' rfl (.tmp 25) (.tmp 29) 54 54 rfl 35 Try.underlying54 (by kernel_rfl) x.heap.size g2 nw nw (wvals (List.replicate nw 0)) HR2.out 0 nw nw rfl ⟨g, 0, none⟩ nw c rfl (wvals W) ?_ HSRC.out ?_ (wvals_one _) ?_
      · rw [wvals_len, ← HNW.out]; exact (Nat.min_self _).symm
      · rw [wvals_len, ← HNW.out]; omega
      intro w5 hr5 hg5
      rw [splice_all (by rw [wvals_len, wvals_len, List.length_replicate, HNW.out])] at hr5
      have HF5 : Hid (NewPk x w5 (.pointer (some ⟨b2, 0, none⟩)) w l) := hid (HFIN.out w5 (row_grown HBOX.out hg5 (by simpa using HNE.out)) hr5)
      have HB5 : Hid (Below x.heap.size x w5) := hid (HB4.out.grown hg5 HB4.out.size fun k hk => by
        simp at hk
        rw [← hk]; exact HG2.out.2)
      clear hr5 hg5 HFIN HBOX HR2 HNE HH HAS HSRC
      go_wp2_with fail
      go_ret
      exact ⟨⟨_, rfl, HF5.out⟩, HB5.out⟩
end Go.Proofs.Ytcgapplblhbdlaa
