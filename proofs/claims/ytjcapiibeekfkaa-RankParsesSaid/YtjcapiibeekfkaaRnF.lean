/- CONTRACTS: the directory, handed out; the same rows; the place of the k-th one. -/
import Derived.Test.YtjcapiibeekfkaaRnE
namespace Go.Proofs.Ytjcapiibeekfkaa
open Go.RowKit Go.Inc

def RowP (B : Nat) (L : List Nat) (z : World) (u : Value) : Prop := z.ownsRow B 3 1 u L.length (nvals L)
theorem RowP.kept {B : Nat} {L : List Nat} {y z : World} {u : Value} (h : RowP B L y u) (hg : Grew y z) : RowP B L z u := owns_mv (F := fun _ => False) h (Mv.of_below hg) fun _ _ => id
theorem nvals_one (l : List Nat) : ∀ u ∈ nvals l, u.oneCell' = true := by
  intro u hu
  unfold nvals at hu
  obtain ⟨y, _, rfl⟩ := List.mem_map.1 hu
  rfl
theorem cloneI_nil (w : World) : Calls Try.prog 43 #[.slice none 0 0] w fun e w' => e = .returned (.slice none 0 0) ∧ w = w' := by
  have hq := fun w a l c => Go.Lib.run_eql_slice_nil (P := Try.prog) w 37 3 a l c 0 0 Try.underlying37
  go_enter Try.func43, Try.ntmps43
  go_wp2
  go_ret
  exact ⟨rfl, rfl⟩
theorem cloneI_some (g n c : Nat) (L : List Nat) (w : World) (hs : w.ownsRow 0 3 1 (.slice (some ⟨g, 0, none⟩) n c) n (nvals L)) (hn : n = L.length) (hl : n ≤ 100000) :
    Calls Try.prog 43 #[.slice (some ⟨g, 0, none⟩) n c] w fun e w' => ∃ u, e = .returned u ∧ RowP w.heap.size L w' u ∧ Below w.heap.size w w' := by
  have hb1 : Below w.heap.size w (w.alloc (.cells #[] 3)) := (Below.refl _ _).alloc (Nat.le_refl _) _
  have HC : Hid (∀ ad, (some ⟨g, 0, none⟩ : Option Addr) = some ad → ∀ j u, (nvals L)[j]? = some u → (w.alloc (.cells #[] 3)).cell? (ad.add j) = some u) := hid fun ad ha j u hu => by
    cases ha
    exact (owns_mv (F := fun _ => False) hs (Mv.of_below hb1) fun _ _ => id).cells (g := g) rfl j u hu
  have hown : Hid ((w.alloc (.cells #[] 3)).ownsRow w.heap.size 3 1 (.slice (some ⟨w.heap.size, 0, none⟩) 0 0) 0 (nvals [])) := hid (World.ownsRow_lit w #[] 0 (Nat.le_refl _) (Nat.zero_le _) rfl)
  have HB1 := hid hb1
  have HN := hid hn
  have hq := fun w a l c => Go.Lib.run_eql_slice_nil (P := Try.prog) w 37 3 a l c 0 0 Try.underlying37
  clear hs hb1 hn
  go_enter Try.func43, Try.ntmps43
  go_wp2_with (refine wpList_append_any rfl (.tmp 5) (.tmp 6) 37 rfl w.heap.size 3 (.int .i64 0) 8 Try.underlying37 infoI64 rfl _ 0 (nvals []) rfl hown.out (some ⟨g, 0, none⟩) n c (nvals L) rfl (by rw [nvals_len]; exact HN.out.symm) (by intro h; cases h) HC.out (nvals_one L) (by unfold maxLen; omega) (by omega) (by simp) ?_)
  intro v w2 hv hg _
  have hb2 := below_owned HB1.out hown.out (Nat.le_refl _) hg
  have HV : Hid (RowP w.heap.size L w2 v) := hid (by unfold RowP; rw [← HN.out]; exact hv)
  clear hv hg
  go_wp2_with fail
  go_ret
  exact ⟨_, rfl, HV.out, hb2⟩
theorem cloneI_any (v : Value) (L : List Nat) (w : World) (hs : w.ownsRow 0 3 1 v L.length (nvals L)) (hl : L.length ≤ 100000) :
    Calls Try.prog 43 #[v] w fun e w' => ∃ u, e = .returned u ∧ RowP w.heap.size L w' u ∧ Below w.heap.size w w' := by
  rcases hs.2 with ⟨rfl, h1⟩ | ⟨g, cap, cur, rfl, h1, h2, h3, _⟩
  · refine (cloneI_nil w).mono ?_
    rintro e w' ⟨rfl, rfl⟩
    have : L = [] := List.eq_nil_of_length_eq_zero h1
    subst this
    exact ⟨_, rfl, World.ownsRow_nil _ _ _ _, Below.refl _ _⟩
  · exact cloneI_some g _ cap L w hs rfl hl
set_option maxRecDepth 20000 in
set_option maxHeartbeats 1000000 in
theorem rDirectory_any (x : World) (b : Nat) (m : List Bool) (v : Value) (W : List Nat) (vb vw : Value) (h : RkQ x b m v W vb vw) :
    Calls Try.prog 26 #[.pointer (some ⟨b, 0, none⟩)] x fun e w' => ∃ w1 u1 u2, e = .returned (.tuple #[u1, u2]) ∧ Fnd x b m v W vb vw w1 ∧ Below w1.heap.size w1 w' ∧ RowP w1.heap.size (dirB m ((W.length + 7) / 8)) w' u1 ∧ RowP w1.heap.size (dirW m W.length) w' u2 := by
  have HD := hid (rDir_any x b m v W vb vw h)
  have HWL : Hid (W.length ≤ 1024) := hid (by have := h.wd.len; have := h.le; omega)
  clear h
  go_enter Try.func26, Try.ntmps26
  go_wp2_with fail
  refine HD.out.mono ?_
  rintro e w1 ⟨rfl, hf⟩
  have HF := hid hf
  obtain ⟨vb', vw', hf1, -, -, -⟩ := hf
  obtain ⟨vb, hvb⟩ : ∃ vb, vb = vb' := ⟨_, rfl⟩
  obtain ⟨vw, hvw⟩ : ∃ vw, vw = vw' := ⟨_, rfl⟩
  rw [← hvb, ← hvw] at hf1
  clear hvb hvw
  obtain ⟨D, hD⟩ : ∃ D, D = dirB m ((W.length + 7) / 8) := ⟨_, rfl⟩
  obtain ⟨E, hE⟩ : ∃ E, E = dirW m W.length := ⟨_, rfl⟩
  obtain ⟨B, hB⟩ : ∃ B, B = w1.heap.size := ⟨_, rfl⟩
  have HBB := hid hB
  have HC : Hid (∀ z, Grew w1.drew z → z.cell? ⟨b, 5, none⟩ = some vb ∧ z.cell? ⟨b, 6, none⟩ = some vw) := hid fun z hz => by
    have h3 := hf1.below (show Below w1.heap.size w1 z from ⟨hz.os, hz.tape, hz.output, hz.size, hz.block⟩)
    exact ⟨h3.r.c5, h3.r.c6⟩
  have hDl : D.length ≤ 1024 := by rw [hD, dirB_len]; have := HWL.out; omega
  have hEl : E.length ≤ 1024 := by rw [hE, dirW_len]; exact HWL.out
  have HCB : Hid (∀ z, Grew w1.drew z → Calls Try.prog 43 #[vb] z fun e w' => ∃ u, e = .returned u ∧ RowP B D w' u ∧ Below z.heap.size z w') := hid fun z hz => by
    have h3 := hf1.below (show Below w1.heap.size w1 z from ⟨hz.os, hz.tape, hz.output, hz.size, hz.block⟩)
    refine (cloneI_any vb D z (by rw [hD]; exact h3.r.blk) (by omega)).mono ?_
    rintro e w' ⟨u, h4, h5, h6⟩
    exact ⟨u, h4, own_weaken h5 (by rw [hB]; exact hz.size), h6⟩
  have HCW : Hid (∀ z, Grew w1.drew z → Calls Try.prog 43 #[vw] z fun e w' => ∃ u, e = .returned u ∧ RowP B E w' u ∧ Below z.heap.size z w') := hid fun z hz => by
    have h3 := hf1.below (show Below w1.heap.size w1 z from ⟨hz.os, hz.tape, hz.output, hz.size, hz.block⟩)
    refine (cloneI_any vw E z (by rw [hE]; exact h3.r.wrd) (by omega)).mono ?_
    rintro e w' ⟨u, h4, h5, h6⟩
    exact ⟨u, h4, own_weaken h5 (by rw [hB]; exact hz.size), h6⟩
  have HDD := hid hD
  have HEE := hid hE
  clear hf1 hD hE hB hDl hEl
  go_wp2_with fail
  refine wp_region_grows 12 [EqN (.pointer (some ⟨b, 5, none⟩)), EqN (.pointer (some ⟨b, 5, none⟩)), EqN (.pointer (some ⟨b, 5, none⟩)), EqN vb, RowP B D, EqN (.pointer (some ⟨b, 5, none⟩)), EqN (.pointer (some ⟨b, 5, none⟩)), EqN (.pointer (some ⟨b, 6, none⟩)), EqN vw, RowP B E, RowP B D, RowP B E] (by kernel_rfl) (by decide) (by kernel_rfl) ?_ ?_ ?_
  · repeat' (first | exact List.forall_mem_nil _ | refine List.forall_mem_cons.2 ⟨?_, ?_⟩)
    all_goals
      intro w w' v hw h
      first | exact h | exact RowP.kept h hw
  · simp only [AllLt]
    refine ⟨⟨⟨⟨⟨⟨⟨⟨⟨⟨⟨⟨trivial, ?_⟩, ?_⟩, ?_⟩, ?_⟩, ?_⟩, ?_⟩, ?_⟩, ?_⟩, ?_⟩, ?_⟩, ?_⟩, ?_⟩
    all_goals
      intro o' ho
      simp at ho
      subst ho
      intro ρ w5 hR hL hS hG
      obtain ⟨hl1, hl2, -⟩ := hL
    · refine plainG rfl ?_
      intro bA K Q' hK
      have e4 := hS 4 (by kernel_rfl)
      change ρ (.tmp 4) = _ at e4
      simp only [execOp]
      go_simp
      exact hK _ _ rfl (Grew.refl _)
    · refine plainG rfl ?_
      intro bA K Q' hK
      have e9 := hG 0 9 (by decide) (by kernel_rfl) (by kernel_rfl)
      change ρ (.tmp 9) = _ at e9
      simp only [execOp]
      go_simp
      exact hK _ _ rfl (Grew.refl _)
    · refine plainG rfl ?_
      intro bA K Q' hK
      have e10 := hG 1 10 (by decide) (by kernel_rfl) (by kernel_rfl)
      change ρ (.tmp 10) = _ at e10
      simp only [execOp]
      go_simp
      exact hK _ _ rfl (Grew.refl _)
    · refine plainG rfl ?_
      intro bA K Q' hK
      have e11 := hG 2 11 (by decide) (by kernel_rfl) (by kernel_rfl)
      change ρ (.tmp 11) = _ at e11
      obtain ⟨y5, y6⟩ := HC.out w5 hR
      simp only [execOp]
      go_simp
      exact hK _ _ rfl (Grew.refl _)
    · refine plainG rfl ?_
      intro bA K Q' hK
      have e12 := hG 3 12 (by decide) (by kernel_rfl) (by kernel_rfl)
      change ρ (.tmp 12) = _ at e12
      simp only [execOp]
      go_simp
      refine (HCB.out w5 hR).mono ?_
      rintro r9 w9 ⟨u9, rfl, h9, hb9⟩
      exact hK _ _ h9 hb9
    · refine plainG rfl ?_
      intro bA K Q' hK
      have e4 := hS 4 (by kernel_rfl)
      change ρ (.tmp 4) = _ at e4
      simp only [execOp]
      go_simp
      exact hK _ _ rfl (Grew.refl _)
    · refine plainG rfl ?_
      intro bA K Q' hK
      have e14 := hG 5 14 (by decide) (by kernel_rfl) (by kernel_rfl)
      change ρ (.tmp 14) = _ at e14
      simp only [execOp]
      go_simp
      exact hK _ _ rfl (Grew.refl _)
    · refine plainG rfl ?_
      intro bA K Q' hK
      have e15 := hG 6 15 (by decide) (by kernel_rfl) (by kernel_rfl)
      change ρ (.tmp 15) = _ at e15
      simp only [execOp]
      go_simp
      exact hK _ _ rfl (Grew.refl _)
    · refine plainG rfl ?_
      intro bA K Q' hK
      have e16 := hG 7 16 (by decide) (by kernel_rfl) (by kernel_rfl)
      change ρ (.tmp 16) = _ at e16
      obtain ⟨y5, y6⟩ := HC.out w5 hR
      simp only [execOp]
      go_simp
      exact hK _ _ rfl (Grew.refl _)
    · refine plainG rfl ?_
      intro bA K Q' hK
      have e17 := hG 8 17 (by decide) (by kernel_rfl) (by kernel_rfl)
      change ρ (.tmp 17) = _ at e17
      simp only [execOp]
      go_simp
      refine (HCW.out w5 hR).mono ?_
      rintro r9 w9 ⟨u9, rfl, h9, hb9⟩
      exact hK _ _ h9 hb9
    · refine plainG rfl ?_
      intro bA K Q' hK
      have e13 := hG 4 13 (by decide) (by kernel_rfl) (by kernel_rfl)
      simp only [execOp]
      exact hK _ _ e13 (Grew.refl _)
    · refine plainG rfl ?_
      intro bA K Q' hK
      have e18 := hG 9 18 (by decide) (by kernel_rfl) (by kernel_rfl)
      simp only [execOp]
      exact hK _ _ e18 (Grew.refl _)
  · intro vv w5 hR hG
    have h1 : RowP B D w5 (vv 10) := hG.1.2
    have h2 : RowP B E w5 (vv 11) := hG.2
    have HBL : Hid (Below w1.heap.size w1 w5) := hid ⟨hR.os, hR.tape, hR.output, hR.size, hR.block⟩
    obtain ⟨u1, hu1⟩ : ∃ u1, u1 = vv 10 := ⟨_, rfl⟩
    obtain ⟨u2, hu2⟩ : ∃ u2, u2 = vv 11 := ⟨_, rfl⟩
    rw [← hu1] at h1
    rw [← hu2] at h2
    have H1 := hid h1
    have H2 := hid h2
    clear hG hR HC HCB HCW HD h1 h2
    simp [stG, stU, dstAt, Act.put, ← hu1, ← hu2]
    clear hu1 hu2
    go_wp2_with fail
    go_ret2
    exact ⟨w1, u1, u2, rfl, HF.out, HBL.out, by rw [← HBB.out, ← HDD.out]; exact H1.out, by rw [← HBB.out, ← HEE.out]; exact H2.out⟩
theorem equalW_zero (a b : Option Addr) (c d : Nat) (w : World) : Calls Try.prog 36 #[.slice a 0 c, .slice b 0 d] w fun e w' => e = .returned (.bool true) ∧ w = w' := by
  go_enter Try.func36, Try.ntmps36
  go_wp2_with fail
  go_loopw [13] (fun i wr => i = .int .i64 0 ∧ wr = w) (fun _ _ => 0)
  case atStart => exact ⟨rfl, rfl⟩
  case round =>
    obtain ⟨rfl, rfl⟩ := hrel
    go_wp2_with fail
    go_ret
    exact ⟨rfl, rfl⟩
theorem equalW_any (v u : Value) (W V : List Nat) (w : World) (h : w.ownsRow 0 47 1 v W.length (wvals W)) (k : w.ownsRow 0 47 1 u V.length (wvals V)) (hl : W.length ≤ 1024) :
    Calls Try.prog 36 #[v, u] w fun e w' => e = .returned (.bool (decide (W = V))) ∧ ∃ j, w' = w.drewN j := by
  obtain ⟨a, c, rfl⟩ := own_slice h
  obtain ⟨a', c', rfl⟩ := own_slice k
  by_cases he : W.length = V.length
  · by_cases h0 : W.length = 0
    · have e1 : W = [] := List.eq_nil_of_length_eq_zero h0
      have e2 : V = [] := List.eq_nil_of_length_eq_zero (by omega)
      subst e1 e2
      refine (equalW_zero a a' c c' w).mono ?_
      rintro e w' ⟨rfl, rfl⟩
      exact ⟨rfl, 0, rfl⟩
    · obtain ⟨g, c1, e1, -, -⟩ := own_here h (by omega)
      obtain ⟨g', c2, e2, -, -⟩ := own_here k (by omega)
      simp only [Value.slice.injEq, true_and] at e1 e2
      obtain ⟨rfl, rfl⟩ := e1
      obtain ⟨rfl, rfl⟩ := e2
      have hW : ∀ i, i < W.length → w.cell? ⟨g, i, none⟩ = some (.int .u64 ((W.getD i 0 : Nat) : Int)) := fun i hi => by
        have hc := h.cells (g := g) rfl i _ (wvals_get hi)
        rw [Addr.add_lit] at hc
        simpa only [Nat.zero_add] using hc
      have hV : ∀ i, i < W.length → w.cell? ⟨g', i, none⟩ = some (.int .u64 ((V.getD i 0 : Nat) : Int)) := fun i hi => by
        have hc := k.cells (g := g') rfl i _ (wvals_get (by omega))
        rw [Addr.add_lit] at hc
        simpa only [Nat.zero_add] using hc
      rw [← he]
      exact equal_some g g' W.length c c' W V w rfl he.symm (by omega) hW hV
  · refine (equal_len a a' W.length V.length c c' w he).mono ?_
    rintro e w' ⟨rfl, rfl⟩
    refine ⟨ret_bool ?_, 0, rfl⟩
    symm
    rw [decide_eq_false_iff_not]
    intro e
    exact he (by rw [e])
theorem rSame_nil (x : World) : Calls Try.prog 20 #[.pointer none, .pointer none] x fun e w' => e = .returned (.bool true) ∧ x = w' := by
  go_enter Try.func20, Try.ntmps20
  go_wp2_with fail
  go_ret
  exact ⟨rfl, rfl⟩
theorem rSame_one (x : World) (b : Nat) : Calls Try.prog 20 #[.pointer (some ⟨b, 0, none⟩), .pointer none] x fun e w' => e = .returned (.bool false) ∧ x = w' := by
  go_enter Try.func20, Try.ntmps20
  go_wp2_with fail
  go_ret
  exact ⟨rfl, rfl⟩
set_option maxRecDepth 20000 in
theorem rSame_any (x : World) (b b2 : Nat) (m m2 : List Bool) (v v2 : Value) (W W2 : List Nat) (vb vw vb2 vw2 : Value) (h : RkQ x b m v W vb vw) (k : RkQ x b2 m2 v2 W2 vb2 vw2) :
    Calls Try.prog 20 #[.pointer (some ⟨b, 0, none⟩), .pointer (some ⟨b2, 0, none⟩)] x fun e w' => e = .returned (.bool (decide (m = m2))) ∧ ∃ j, w' = x.drewN j := by
  have k0 := h.c0
  have j0 := k.c0
  have k1 : x.cell? ⟨b, 1, none⟩ = some v := by rcases h with h | h <;> exact h.r.c1
  have j1 : x.cell? ⟨b2, 1, none⟩ = some v2 := by rcases k with h | h <;> exact h.r.c1
  have hr : ∀ n, (x.drewN n).ownsRow 0 47 1 v W.length (wvals W) := fun n => by rcases h.below (below_drewN x n) with h | h <;> exact h.r.row
  have hr2 : ∀ n, (x.drewN n).ownsRow 0 47 1 v2 W2.length (wvals W2) := fun n => by rcases k.below (below_drewN x n) with h | h <;> exact h.r.row
  have hE : ∀ n', Calls Try.prog 36 #[v, v2] (x.drewN n') fun e w' => e = .returned (.bool (decide (W = W2))) ∧ ∃ j, w' = x.drewN j := fun n' => by
    refine (equalW_any v v2 W W2 (x.drewN n') (hr n') (hr2 n') (by have := h.wd.len; have := h.le; omega)).mono ?_
    rintro e w' ⟨h1, j, rfl⟩
    exact ⟨h1, n' + j, by simp [World.drewN, Nat.add_assoc]⟩
  by_cases hl : m.length = m2.length
  · have HW : Hid (decide (W = W2) = decide (m = m2)) := hid (by rw [decide_eq_decide]; exact h.wd.inj k.wd hl)
    obtain ⟨n, hn⟩ : ∃ n, n = m.length := ⟨_, rfl⟩
    rw [← hn] at k0
    rw [← hl, ← hn] at j0
    obtain ⟨B, hB⟩ : ∃ B, B = decide (W = W2) := ⟨_, rfl⟩
    rw [← hB] at hE HW
    rw [← HW.out]
    clear h k hr hr2 hl hn hB
    go_enter Try.func20, Try.ntmps20
    go_wp2_with fail
    go_quiet (with_reducible exact hE _)
    go_wp2_with fail
    go_ret
    exact ⟨rfl, _, rfl⟩
  · have HW : Hid (decide (m = m2) = false) := hid (by rw [decide_eq_false_iff_not]; intro e; exact hl (by rw [e]))
    obtain ⟨n, hn⟩ : ∃ n, n = m.length := ⟨_, rfl⟩
    obtain ⟨n2, hn2⟩ : ∃ n2, n2 = m2.length := ⟨_, rfl⟩
    rw [← hn] at k0
    rw [← hn2] at j0
    have hnn : ((n : Int) == (n2 : Int)) = false := by simp; omega
    have hnn2 : (n == n2) = false := by simp; omega
    have hnn3 : (n = n2) = False := eq_false (by omega)
    rw [HW.out]
    clear h k hr hr2 hl hn hn2 hE
    go_enter Try.func20, Try.ntmps20
    go_wp2_with fail
    go_quiet (fail)
    go_wp2_with fail
    go_ret
    exact ⟨rfl, _, rfl⟩
/-- The boxes of Select's arguments. -/
structure SelB (bx b : Nat) (one : Bool) (kn : Nat) (z : World) : Prop where
  r : z.heap[bx]? = some (.cells #[.pointer (some ⟨b, 0, none⟩)] 25 (0, 0))
  o : z.heap[bx + 1]? = some (.cells #[.bool one] 4 (0, 0))
  k : z.heap[bx + 1 + 1]? = some (.cells #[.int .i64 (kn : Int)] 3 (0, 0))
theorem SelB.c {bx b kn : Nat} {one : Bool} {z : World} (h : SelB bx b one kn z) : z.cell? ⟨bx, 0, none⟩ = some (.pointer (some ⟨b, 0, none⟩)) ∧ z.cell? ⟨bx + 1, 0, none⟩ = some (.bool one) ∧ z.cell? ⟨bx + 1 + 1, 0, none⟩ = some (.int .i64 (kn : Int)) := by
  refine ⟨?_, ?_, ?_⟩
  · rw [cell_of_row _ _ _ _ _ _ h.r]; rfl
  · rw [cell_of_row _ _ _ _ _ _ h.o]; rfl
  · rw [cell_of_row _ _ _ _ _ _ h.k]; rfl
theorem SelB.mv {bx b kn : Nat} {one : Bool} {y z : World} (h : SelB bx b one kn y) (hm : Mv (fun i => i = b) y z) (hb : b < bx) : SelB bx b one kn z :=
  ⟨hm.row h.r (by omega), hm.row h.o (by omega), hm.row h.k (by omega)⟩
theorem SelB.below {bx b kn : Nat} {one : Bool} {y z : World} (h : SelB bx b one kn y) (hb : Below y.heap.size y z) : SelB bx b one kn z := ⟨row_below h.r hb, row_below h.o hb, row_below h.k hb⟩
structure SelJ (x : World) (bx b : Nat) (m : List Bool) (v : Value) (W : List Nat) (vb vw : Value) (one : Bool) (kn : Nat) (z : World) : Prop where
  q : RkQ z b m v W vb vw
  s : SelB bx b one kn z
  hb : Below x.heap.size x z
  lt : b < bx
structure SelK (x : World) (bx b : Nat) (m : List Bool) (v : Value) (W : List Nat) (vb vw : Value) (one : Bool) (kn : Nat) (z : World) : Prop where
  q : Fnd x b m v W vb vw z
  s : SelB bx b one kn z
theorem SelJ.below {x y z : World} {bx b : Nat} {m : List Bool} {v : Value} {W : List Nat} {vb vw : Value} {one : Bool} {kn : Nat} (h : SelJ x bx b m v W vb vw one kn y) (hb : Below y.heap.size y z) : SelJ x bx b m v W vb vw one kn z :=
  ⟨h.q.below hb, h.s.below hb, h.hb.trans (hb.mono h.hb.size), h.lt⟩
theorem SelK.below {x y z : World} {bx b : Nat} {m : List Bool} {v : Value} {W : List Nat} {vb vw : Value} {one : Bool} {kn : Nat} (h : SelK x bx b m v W vb vw one kn y) (hb : Below y.heap.size y z) : SelK x bx b m v W vb vw one kn z := ⟨h.q.below hb, h.s.below hb⟩
theorem own_back {x y : World} {u u' : Value} (h : OwN y u u') (hs : x.heap.size ≤ y.heap.size) : OwN x u u' := fun g hg => by
  rcases h g hg with h | h
  · exact .inl h
  · exact .inr (Nat.le_trans hs h)
theorem Fnd.back {x y z : World} {b : Nat} {m : List Bool} {v : Value} {W : List Nat} {vb vw : Value} (hb : Below x.heap.size x y) (h : Fnd y b m v W vb vw z) : Fnd x b m v W vb vw z := by
  obtain ⟨vb', vw', h1, h2, h3, h4⟩ := h
  exact ⟨vb', vw', h1, own_back h2 hb.size, own_back h3 hb.size, (Mv.of_below hb : Mv (fun i => i = b) x y).trans h4⟩
set_option maxRecDepth 20000 in
theorem rClosure_any (y : World) (bx b i kn : Nat) (one : Bool) (m : List Bool) (v : Value) (W : List Nat) (vb vw : Value) (h : RkF y b m v W vb vw) (hs : SelB bx b one kn y) (hi : i < m.length) :
    Calls Try.prog 35 #[.int .i64 (i : Int), .pointer (some ⟨bx, 0, none⟩), .pointer (some ⟨bx + 1, 0, none⟩), .pointer (some ⟨bx + 1 + 1, 0, none⟩)] y fun e w' => e = .returned (.bool (decide (kn < rkB m one (i + 1)))) ∧ Below y.heap.size y w' := by
  obtain ⟨j, hj⟩ : ∃ j, j = i + 1 := ⟨_, rfl⟩
  have hji : (i : Int) + 1 = (j : Int) := by omega
  have hjw : IntKind.i64.wrap (j : Int) = (j : Int) := by rw [IntKind.wrap_i64]; have := h.le; omega
  rw [← hj]
  obtain ⟨R, hR⟩ : ∃ R, R = rkB m one j := ⟨_, rfl⟩
  have l1 : ∀ n', Calls Try.prog 33 #[.pointer (some ⟨b, 0, none⟩), .bool one, .int .i64 (j : Int)] (y.drewN n') fun e w' => e = .returned (.int .i64 (R : Int)) ∧ ∃ t, w' = y.drewN t := fun n' => by
    refine (rAhead_fnd (y.drewN n') b j one m v W vb vw (h.below (below_drewN y n')) (by omega)).mono ?_
    rintro e w' ⟨h1, t, rfl⟩
    exact ⟨by rw [h1, hR], n' + t, by simp [World.drewN, Nat.add_assoc]⟩
  rw [← hR]
  obtain ⟨k1, k2, k3⟩ := hs.c
  clear h hs hi hj hR
  go_enter Try.func35, Try.ntmps35
  go_wp2_with fail
  go_quiet (with_reducible exact l1 _)
  go_wp2_with fail
  go_ret
  exact ⟨rfl, below_drewN _ _⟩
set_option maxRecDepth 20000 in
set_option maxHeartbeats 2000000 in
theorem rSearch_any (n : Nat) (p : Nat → Bool) (w : World) (hl : (n : Int) ≤ 65536) (g1 g2 g3 : Nat) (hp : ∀ i, i + 1 < n → p i = true → p (i + 1) = true)
    (hc : ∀ y i, i < n → Below w.heap.size w y → Calls Try.prog 35 #[.int .i64 ((i : Nat) : Int), .pointer (some ⟨g1, 0, none⟩), .pointer (some ⟨g2, 0, none⟩), .pointer (some ⟨g3, 0, none⟩)] y fun e w' => e = .returned (.bool (p i)) ∧ Below y.heap.size y w') :
    Calls Try.prog 34 #[.int .i64 (n : Int), .func (Fn.func 35) #[] #[.pointer (some ⟨g1, 0, none⟩), .pointer (some ⟨g2, 0, none⟩), .pointer (some ⟨g3, 0, none⟩)]] w fun e w' => (∃ r : Nat, e = .returned (.int .i64 (r : Int)) ∧ r ≤ n ∧ (∀ i, i < r → p i = false) ∧ (r < n → p r = true)) ∧ Below w.heap.size w w' := by
  have HP : Hid (∀ i, p i = true → ∀ d, i + d < n → p (i + d) = true) := hid fun i hi d => by
    induction d with
    | zero => intro _; exact hi
    | succ d ih => intro h; exact hp (i + d) (by omega) (ih (by omega))
  have HC := hid hc
  clear hp hc
  go_enter Try.func34, Try.ntmps34
  go_wp2_with fail
  go_loopw [5, 6] (fun a b wr => ∃ i j : Nat, a = .int .i64 (i : Int) ∧ b = .int .i64 (j : Int) ∧ i ≤ j ∧ j ≤ n ∧ (∀ x, x < i → p x = false) ∧ (j < n → p j = true) ∧ Below w.heap.size w wr) (fun a b _ => (intOf b).toNat - (intOf a).toNat)
  case atStart => exact ⟨0, n, rfl, rfl, Nat.zero_le _, Nat.le_refl _, fun x h => by omega, fun h => by omega, Below.refl _ _⟩
  case round =>
    obtain ⟨i, j, rfl, rfl, hij, hjn, hlo, hhi, hb⟩ := hrel
    have HLO := hid hlo
    have HHI := hid hhi
    have HB := hid hb
    clear hlo hhi hb
    by_cases hlt : (i : Int) < j
    · have hkn : (i < j) = True := eq_true (by omega)
      obtain ⟨h, hh⟩ : ∃ h, h = (i + j) / 2 := ⟨_, rfl⟩
      have hh1 : ((i : Int) + (j : Int)) / 2 = (h : Int) := by omega
      have hih : i ≤ h := by omega
      have hhj : h < j := by omega
      have HCL := hid (HC.out wr h (by omega) HB.out)
      clear hh
      go_wp2_with fail
      refine HCL.out.mono ?_
      clear HCL
      rintro e w1 ⟨rfl, hb1⟩
      have HB1 : Hid (Below w.heap.size w w1) := hid (HB.out.trans (hb1.mono HB.out.size))
      obtain ⟨Q, hQ⟩ : ∃ Q, Q = p h := ⟨_, rfl⟩
      have HQ := hid hQ
      rw [← hQ]
      clear hb1 HB hQ hh1
      cases Q with
      | false =>
        have HLN : Hid (∀ x, x < h + 1 → p x = false) := hid fun x hx => by
          cases hpx : p x
          · rfl
          · obtain ⟨d, rfl⟩ : ∃ d, h = x + d := ⟨h - x, by omega⟩
            have h9 := HP.out x hpx d (by omega)
            rw [← HQ.out] at h9
            cases h9
        go_wp2_with fail
        go_roundw
        case rel => exact ⟨h + 1, j, by go_num, rfl, by omega, hjn, HLN.out, HHI.out, HB1.out⟩
        case measure => simp [intOf]; omega
      | true =>
        go_wp2_with fail
        go_roundw
        case rel => exact ⟨i, h, rfl, by go_num, hih, by omega, HLO.out, fun _ => HQ.out.symm, HB1.out⟩
        case measure => simp [intOf]; omega
    · have hkf : (i < j) = False := eq_false (by omega)
      have he : i = j := by omega
      subst he
      clear hlt
      go_wp2_with fail
      go_ret
      exact ⟨⟨i, rfl, hjn, HLO.out, HHI.out⟩, HB.out⟩
theorem rSelectN (x : World) (one : Bool) (i : Int) : Calls Try.prog 12 #[.pointer none, .bool one, .int .i64 i] x fun e w' => e = .returned (.tuple #[.int .i64 0, .int .i64 11]) ∧ Below x.heap.size x w' := by
  go_enter Try.func12, Try.ntmps12
  go_wp2_with fail
  go_ret2
  exact ⟨rfl, (((Below.refl _ _).alloc (Nat.le_refl _) _).alloc (by simp) _).alloc (by simp; omega) _⟩
set_option maxRecDepth 20000 in
theorem rSelect_neg (x : World) (b : Nat) (one : Bool) (k : Int) (hk : k < 0) : Calls Try.prog 12 #[.pointer (some ⟨b, 0, none⟩), .bool one, .int .i64 k] x fun e w' => e = .returned (.tuple #[.int .i64 0, .int .i64 7]) ∧ Below x.heap.size x w' := by
  have hkd : decide (k < 0) = true := by simp; omega
  go_enter Try.func12, Try.ntmps12
  go_wp2_with fail
  go_quiet (fail)
  go_wp2_with fail
  go_ret2
  exact ⟨rfl, ((((Below.refl _ _).alloc (Nat.le_refl _) _).alloc (by simp) _).alloc (by simp; omega) _).trans ((below_drewN _ _).mono (by simp; omega))⟩
theorem selJ_start (x : World) (b : Nat) (m : List Bool) (v : Value) (W : List Nat) (vb vw : Value) (one : Bool) (kn : Nat) (h : RkQ x b m v W vb vw) :
    SelJ x x.heap.size b m v W vb vw one kn (((x.alloc (.cells #[.pointer (some ⟨b, 0, none⟩)] 25)).alloc (.cells #[.bool one] 4)).alloc (.cells #[.int .i64 (kn : Int)] 3)) := by
  have hb : Below x.heap.size x (((x.alloc (.cells #[.pointer (some ⟨b, 0, none⟩)] 25)).alloc (.cells #[.bool one] 4)).alloc (.cells #[.int .i64 (kn : Int)] 3)) := (((Below.refl _ _).alloc (Nat.le_refl _) _).alloc (by simp) _).alloc (by simp; omega) _
  refine ⟨h.below hb, ⟨?_, ?_, ?_⟩, hb, h.lt b (.inl rfl)⟩
  · exact row_below (heap_alloc2_old x _ _) ((Below.refl _ _).alloc (Nat.le_refl _) _)
  · exact row_below (heap_alloc2_new x _ _) ((Below.refl _ _).alloc (Nat.le_refl _) _)
  · have h := heap_alloc2_new (x.alloc (.cells #[.pointer (some ⟨b, 0, none⟩)] 25)) (.cells #[.bool one] 4) (.cells #[.int .i64 (kn : Int)] 3)
    rw [World.size_alloc] at h
    exact h
set_option maxRecDepth 20000 in
set_option maxHeartbeats 4000000 in
theorem rSelect_any (x : World) (b kn : Nat) (one : Bool) (m : List Bool) (v : Value) (W : List Nat) (vb vw : Value) (h : RkQ x b m v W vb vw) (hk : (kn : Int) ≤ 9223372036854775807) :
    Calls Try.prog 12 #[.pointer (some ⟨b, 0, none⟩), .bool one, .int .i64 (kn : Int)] x fun e w' => (∃ z, e = .returned (.tuple #[.int .i64 z, .int .i64 (slE m one kn)]) ∧ (slE m one kn = 0 → z = selB m one kn m.length)) ∧ Fnd x b m v W vb vw w' := by
  obtain ⟨bx, hbx⟩ : ∃ bx, bx = x.heap.size := ⟨_, rfl⟩
  obtain ⟨x3, hx3⟩ : ∃ x3, x3 = ((x.alloc (.cells #[.pointer (some ⟨b, 0, none⟩)] 25)).alloc (.cells #[.bool one] 4)).alloc (.cells #[.int .i64 (kn : Int)] 3) := ⟨_, rfl⟩
  have hj := selJ_start x b m v W vb vw one kn h
  rw [← hx3, ← hbx] at hj
  have HJ := hid hj
  obtain ⟨j1, j2, j3⟩ := hj.s.c
  obtain ⟨cnt, hcnt⟩ : ∃ cnt, cnt = rkB m one m.length := ⟨_, rfl⟩
  have hcb : cnt ≤ 65536 := by rw [hcnt]; have := rkB_le m one m.length; have := h.le; omega
  have HCNT : Hid (∀ z, SelJ x bx b m v W vb vw one kn z → Calls Try.prog 21 #[.pointer (some ⟨b, 0, none⟩), .bool one] z fun e w' => e = .returned (.int .i64 (cnt : Int)) ∧ SelK x bx b m v W vb vw one kn w') := hid fun z hz => by
    refine (rCount1_any z b one m v W vb vw hz.q).mono ?_
    rintro e w' ⟨rfl, h1⟩
    refine ⟨by rw [hcnt], h1.back hz.hb, ?_⟩
    obtain ⟨_, _, -, -, -, h4⟩ := h1
    exact hz.s.mv h4 hz.lt
  have HC : Hid (∀ z, (SelJ x bx b m v W vb vw one kn z ∨ SelK x bx b m v W vb vw one kn z) → z.cell? ⟨bx, 0, none⟩ = some (.pointer (some ⟨b, 0, none⟩)) ∧ z.cell? ⟨bx + 1, 0, none⟩ = some (.bool one) ∧ z.cell? ⟨bx + 1 + 1, 0, none⟩ = some (.int .i64 (kn : Int))) := hid fun z hz => by
    rcases hz with hz | hz <;> exact hz.s.c
  obtain ⟨tst, htst⟩ : ∃ tst, tst = decide (cnt ≤ kn) := ⟨_, rfl⟩
  have HX3 := hid hx3
  have HBX := hid hbx
  have hti : decide ((cnt : Int) ≤ (kn : Int)) = tst := by rw [htst, decide_eq_decide]; omega
  have htn : decide (cnt ≤ kn) = tst := htst.symm
  have HT := hid htst
  have HCN := hid hcnt
  have HLE := hid h.le
  clear hj h hbx hx3 hcnt htst hcb
  go_enter Try.func12, Try.ntmps12
  go_wp2_with fail
  rw [← HX3.out, ← HBX.out]
  refine wp_region_growsX 9 6 (SelJ x bx b m v W vb vw one kn) (SelK x bx b m v W vb vw one kn) [] [EqN (.int .i64 (kn : Int)), EqN (.bool false), EqN (.bool false), EqN (.int .i64 (kn : Int)), EqN (.pointer (some ⟨b, 0, none⟩)), EqN (.bool one), EqN (.int .i64 (cnt : Int)), EqN (.bool tst), EqN (.bool tst)] (by kernel_rfl) (by decide) (by kernel_rfl) (by kernel_rfl) (by decide) ?_ ?_ ?_ ?_ ?_ ?_
  · exact HJ.out.below (Below.refl _ _).drew
  · exact fun p q hg h => h.below hg
  · exact fun p q hg h => h.below hg
  · repeat' (first | exact List.forall_mem_nil _ | refine List.forall_mem_cons.2 ⟨?_, ?_⟩)
    all_goals
      intro w w' v hw h
      exact h
  · simp only [AllLt]
    refine ⟨⟨⟨⟨⟨⟨⟨⟨⟨trivial, ?_⟩, ?_⟩, ?_⟩, ?_⟩, ?_⟩, ?_⟩, ?_⟩, ?_⟩, ?_⟩
    all_goals
      intro o' ho
      simp at ho
      subst ho
      intro ρ w5 hR hL hS hG
      obtain ⟨hl1, hl2, -⟩ := hL
    · refine plainG rfl ?_
      intro bA K Q' hK
      have e5 := hS 5 (by kernel_rfl)
      change ρ (.tmp 5) = _ at e5
      obtain ⟨y3, y4, y5⟩ := HC.out w5 hR.any
      simp only [execOp]
      go_simp
      exact hK _ _ rfl (fun _ => Grew.refl _) (fun h => absurd h (by decide))
    · refine plainG rfl ?_
      intro bA K Q' hK
      have e10 := hG 0 10 (by decide) (by kernel_rfl) (by kernel_rfl)
      change ρ (.tmp 10) = _ at e10
      simp only [execOp]
      go_simp
      exact hK _ _ rfl (fun _ => Grew.refl _) (fun h => absurd h (by decide))
    · refine plainG rfl ?_
      intro bA K Q' hK
      have e11 := hG 1 11 (by decide) (by kernel_rfl) (by kernel_rfl)
      change ρ (.tmp 11) = _ at e11
      simp only [execOp]
      go_simp
      exact hK _ _ rfl (fun _ => Grew.refl _) (fun h => absurd h (by decide))
    · have eG : ρ (.tmp 12) = _ := hG 2 12 (by decide) (by kernel_rfl) (by kernel_rfl)
      refine onG rfl (by kernel_rfl) eG ?_
      intro bA K Q' hK
      have e5 := hS 5 (by kernel_rfl)
      change ρ (.tmp 5) = _ at e5
      obtain ⟨y3, y4, y5⟩ := HC.out w5 hR.any
      simp only [execOp]
      go_simp
      exact hK _ _ rfl (fun _ => Grew.refl _) (fun h => absurd h (by decide))
    · have eG : ρ (.tmp 12) = _ := hG 2 12 (by decide) (by kernel_rfl) (by kernel_rfl)
      refine onG rfl (by kernel_rfl) eG ?_
      intro bA K Q' hK
      have e3 := hS 3 (by kernel_rfl)
      change ρ (.tmp 3) = _ at e3
      obtain ⟨y3, y4, y5⟩ := HC.out w5 hR.any
      simp only [execOp]
      go_simp
      exact hK _ _ rfl (fun _ => Grew.refl _) (fun h => absurd h (by decide))
    · have eG : ρ (.tmp 12) = _ := hG 2 12 (by decide) (by kernel_rfl) (by kernel_rfl)
      refine onG rfl (by kernel_rfl) eG ?_
      intro bA K Q' hK
      have e4 := hS 4 (by kernel_rfl)
      change ρ (.tmp 4) = _ at e4
      obtain ⟨y3, y4, y5⟩ := HC.out w5 hR.any
      simp only [execOp]
      go_simp
      exact hK _ _ rfl (fun _ => Grew.refl _) (fun h => absurd h (by decide))
    · have eG : ρ (.tmp 12) = _ := hG 2 12 (by decide) (by kernel_rfl) (by kernel_rfl)
      refine onG rfl (by kernel_rfl) eG ?_
      intro bA K Q' hK
      have e14 := hG 4 14 (by decide) (by kernel_rfl) (by kernel_rfl)
      have e15 := hG 5 15 (by decide) (by kernel_rfl) (by kernel_rfl)
      change ρ (.tmp 14) = _ at e14
      change ρ (.tmp 15) = _ at e15
      have hj := hR.ahead (by decide)
      simp only [execOp]
      go_simp
      refine (HCNT.out w5 hj).mono ?_
      rintro r9 w9 ⟨rfl, h9⟩
      refine hK _ _ rfl (fun h => absurd rfl h) (fun _ => ⟨h9, ?_⟩)
      simp only [AllLt]
      refine ⟨⟨⟨⟨⟨⟨⟨⟨⟨trivial, ?_⟩, ?_⟩, ?_⟩, ?_⟩, ?_⟩, ?_⟩, ?_⟩, ?_⟩, ?_⟩
      · exact fun _ _ y hy => hy
      · exact fun _ _ y hy => hy
      · exact fun _ _ y hy => hy
      · exact fun _ _ y hy => hy
      · exact fun _ _ y hy => hy
      · exact fun _ _ y hy => hy
      · exact fun hne _ => absurd rfl hne
      · exact fun _ _ y hy => hy
      · exact fun _ _ y hy => hy
    · have eG : ρ (.tmp 12) = _ := hG 2 12 (by decide) (by kernel_rfl) (by kernel_rfl)
      refine onG rfl (by kernel_rfl) eG ?_
      intro bA K Q' hK
      have e13 := hG 3 13 (by decide) (by kernel_rfl) (by kernel_rfl)
      have e16 := hG 6 16 (by decide) (by kernel_rfl) (by kernel_rfl)
      change ρ (.tmp 13) = _ at e13
      change ρ (.tmp 16) = _ at e16
      simp only [execOp]
      go_simp
      exact hK _ _ rfl (fun _ => Grew.refl _) (fun h => absurd h (by decide))
    · refine plainG rfl ?_
      intro bA K Q' hK
      have e12 := hG 2 12 (by decide) (by kernel_rfl) (by kernel_rfl)
      have e17 := hG 7 17 (by decide) (by kernel_rfl) (by kernel_rfl)
      change ρ (.tmp 12) = _ at e12
      change ρ (.tmp 17) = _ at e17
      simp only [execOp]
      go_simp
      exact hK _ _ rfl (fun _ => Grew.refl _) (fun h => absurd h (by decide))
  · intro vv w5 hJ hG
    have h1 : vv 8 = .bool tst := hG.2 (by decide)
    have HK := hid hJ
    obtain ⟨j1, j2, j3⟩ := hJ.s.c
    clear hG hJ HC HCNT HJ
    simp [stG, stU, dstAt, Act.put, h1]
    clear h1
    cases tst with
    | true =>
      have HE : Hid (slE m one kn = 7) := hid (by
        have h := HT.out
        symm at h
        rw [decide_eq_true_iff, HCN.out] at h
        unfold slE; rw [if_neg (by omega)])
      clear hti htn
      go_wp2_with fail
      go_ret2
      exact ⟨⟨0, by rw [HE.out]; rfl, fun h => by rw [HE.out] at h; cases h⟩, HK.out.q⟩
    | false =>
      have hlt : kn < rkB m one m.length := by
        have h := HT.out
        symm at h
        rw [decide_eq_false_iff_not, HCN.out] at h
        omega
      have HE : Hid (slE m one kn = 0) := hid (by unfold slE; rw [if_pos (by omega)])
      obtain ⟨vb', vw', hf, ho1, ho2, hmv⟩ := HK.out.q
      have HOW := hid (And.intro ho1 ho2)
      have k0 := hf.r.c0
      have HSE := hid (rSearch_any m.length (fun i => decide (kn < rkB m one (i + 1))) w5 (by have := HLE.out; omega) bx (bx + 1) (bx + 1 + 1) (fun i _ h1 => by
        rw [decide_eq_true_iff] at h1 ⊢
        exact Nat.lt_of_lt_of_le h1 (rkB_mono m one (by omega))) (fun y i hi hb => rClosure_any y bx b i kn one m v W vb' vw' (hf.below hb) (HK.out.s.below hb) hi))
      have HRES : Hid (∀ r : Nat, r ≤ m.length → (∀ i, i < r → decide (kn < rkB m one (i + 1)) = false) → (r < m.length → decide (kn < rkB m one (r + 1)) = true) → selB m one kn m.length = r) := hid fun r h1 h2 h3 => by
        have hr : r < m.length := by
          apply Nat.lt_of_le_of_ne h1
          intro e
          have hpos : 0 < m.length := by
            apply Nat.pos_of_ne_zero
            intro h0
            rw [h0] at hlt
            have : rkB m one 0 = 0 := rkB_zero m one
            omega
          have h4 := h2 (m.length - 1) (by omega)
          rw [decide_eq_false_iff_not, show m.length - 1 + 1 = m.length from by omega] at h4
          exact h4 hlt
        have h5 := h3 hr
        rw [decide_eq_true_iff] at h5
        refine sel_search ?_ h5 hr
        by_cases h0 : r = 0
        · subst h0; rw [rkB_zero]; omega
        · have h4 := h2 (r - 1) (by omega)
          rw [decide_eq_false_iff_not, show r - 1 + 1 = r from by omega] at h4
          omega
      have HF := hid hf
      have HMV := hid hmv
      obtain ⟨n, hn⟩ : ∃ n, n = m.length := ⟨_, rfl⟩
      rw [← hn] at k0 HSE HRES
      have HN := hid hn
      clear hti htn hlt hf ho1 ho2 hmv hn
      go_wp2_with fail
      refine HSE.out.mono ?_
      rintro e w6 ⟨⟨r, rfl, h1, h2, h3⟩, hb6⟩
      have HR := hid (HRES.out r h1 h2 h3)
      have HB6 := hid hb6
      clear h1 h2 h3 hb6 HSE HRES j1 j2 j3 k0
      go_wp2_with fail
      go_ret2
      exact ⟨⟨_, by rw [HE.out]; rfl, fun _ => by rw [← HN.out, HR.out]⟩, vb', vw', HF.out.below HB6.out, HOW.out.1, HOW.out.2, HMV.out.trans (Mv.of_below HB6.out)⟩
end Go.Proofs.Ytjcapiibeekfkaa
