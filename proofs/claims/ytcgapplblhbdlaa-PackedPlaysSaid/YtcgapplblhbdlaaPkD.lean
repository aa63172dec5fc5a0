/- CONTRACT: an array is grown by zeros. -/
import Derived.Test.YtcgapplblhbdlaaPkC
import Derived.Test.YtcgapplblhbdlaaPkZ
import Derived.Test.YtcgapplblhbdlaaGrowX
namespace Go.Inc
open Go.RowKit
theorem uponAppendZ {P : Program} {o : Oper} {b : Act} {K : Act → World → Prop} {Q : Exit → Act → World → Prop} {ρ : Operand → Value} {w w' : World} {v u v' : Value} (s x : Operand) (t tn : TypeId)
    (ho : o.op = .call { callee := .builtin .append, args := #[s, x], argTypes := #[t, tn] }) (hs : ρ s = v) (hx : ρ x = u) (hr : (Builtin.append_ #[t, tn] o.type #[v, u]).run P w = .ok v' w') (hk : K (b.put o.dst v') w') :
    o.upon P b K Q ((execOp ρ o).run P w) := by
  unfold execOp
  simp only [ho, resolve, invoke, builtin, Sem.run_bind, Sem.run_pure, Result.andThen_ok, List.map_toArray, List.map_cons, List.map_nil, hs, hx, hr]
  exact hk
abbrev EqN (x : Value) : World → Value → Prop := fun _ v => v = x
/-- A row of words, grown: it is not this block; where it was, or new. -/
def RowZ (T B n : Nat) (xs : List Value) (b : Nat) (v : Value) (x : World) (z : World) (u : Value) : Prop := z.ownsRow B T 1 u n xs ∧ u.ownBlock ≠ some b ∧ ∀ g, u.ownBlock = some g → v.ownBlock = some g ∨ x.heap.size ≤ g
theorem RowZ.kept {T B n : Nat} {xs : List Value} {b : Nat} {v : Value} {x y z : World} {u : Value} (h : RowZ T B n xs b v x y u) (hg : Grew y z) : RowZ T B n xs b v x z u :=
  ⟨owns_mv (F := fun _ => False) h.1 (Mv.of_below hg) fun _ _ => id, h.2⟩
end Go.Inc
namespace Go.Proofs.Ytcgapplblhbdlaa
open Go.RowKit Go.Inc
/-- Its words lie where they were, or are new. -/
def OwnNew (x : World) (v v' : Value) : Prop := ∀ g, v'.ownBlock = some g → v.ownBlock = some g ∨ x.heap.size ≤ g
set_option maxRecDepth 20000 in
set_option maxHeartbeats 1000000 in
theorem pkGrow_any (x : World) (b B k : Nat) (v : Value) (w n : Nat) (W : List Nat) (h : PkR x b v w n W B) (h2 : w ≤ 31) (hn : n + k ≤ 65536) (hlen : W.length = (w * n + 63) / 64) (hB : B ≤ x.heap.size) :
    Calls Try.prog 35 #[.pointer (some ⟨b, 0, none⟩), .int .i64 (k : Int)] x fun e w' => e = .returned (.tuple #[]) ∧ (∃ v', PkR w' b v' w (n + k) (W ++ List.replicate ((w * (n + k) + 63) / 64 - W.length) 0) B ∧ OwnNew x v v') ∧ Mv (Own2 b v) x w' := by
  obtain ⟨i0, hi, hz0, hz1, hz2⟩ := info_parts infoU64
  have HI := hid (And.intro hi (And.intro hz0 (And.intro hz1 hz2)))
  obtain ⟨a, c, rfl⟩ := h.slice
  obtain ⟨nw, hnw⟩ : ∃ nw, nw = W.length := ⟨_, rfl⟩
  obtain ⟨N, hN⟩ : ∃ N, N = n + k := ⟨_, rfl⟩
  obtain ⟨P, hP⟩ : ∃ P, P = w * N := ⟨_, rfl⟩
  obtain ⟨M, hM⟩ : ∃ M, M = (P + 63) / 64 := ⟨_, rfl⟩
  have hPb : P ≤ 2031616 := by rw [hP, Nat.mul_comm]; exact mul_31 h2 (by omega)
  have hle : nw ≤ M := by
    rw [hnw, hlen, hM, hP, hN]
    have : w * n ≤ w * (n + k) := Nat.mul_le_mul_left w (by omega)
    omega
  obtain ⟨r, hr⟩ : ∃ r, r = M - nw := ⟨_, rfl⟩
  have hMb : (M : Int) ≤ 31745 := by omega
  have hri : (M : Int) - (nw : Int) = (r : Int) := by omega
  have hPi : (w : Int) * (N : Int) = (P : Int) := by rw [hP]; simp
  have hPw : IntKind.i64.wrap (P : Int) = (P : Int) := by rw [IntKind.wrap_i64]; omega
  have hrw' : IntKind.i64.wrap (r : Int) = (r : Int) := by rw [IntKind.wrap_i64]; omega
  have hNi : (n : Int) + (k : Int) = (N : Int) := by omega
  have hNb : (N : Int) ≤ 65536 := by omega
  have hwb : (w : Int) ≤ 31 := by omega
  rw [← hN, ← hP, ← hM, ← hnw, ← hr]
  have HP : Hid (∀ z, Calls Try.prog 42 #[.int .i64 (P : Int), .int .i64 64] z fun e w' => e = .returned (.int .i64 (M : Int)) ∧ z = w') := hid fun z => by rw [hM]; exact pkParts64_any P z (by omega)
  have hblt := h.blt
  have j1 : x.cell? ⟨b, 1, none⟩ = some (.int .i64 (n : Int)) := h.c1
  have jf : x.frozen? ⟨b, 1, none⟩ = false := frozen_of_row _ _ _ _ _ h.box
  have HJ1 : Hid (PkR (x.setCell ⟨b, 1, none⟩ (.int .i64 (N : Int))) b (.slice a nw c) w N W B ∧ Mv (Own2 b (.slice a nw c)) x (x.setCell ⟨b, 1, none⟩ (.int .i64 (N : Int)))) := hid (by
    rw [← hnw] at h
    exact ⟨⟨by rw [heap_setCell_same x b 1 _ _ _ h.box]; rfl, ownsRow_setCell_other h.row h.ne _, h.ne⟩, mv_setCell (Mv.refl _ _) (.inl rfl) _⟩)
  have HR : Hid ((nw : Int) + r ≤ 31745) := hid (by omega)
  have HNW := hid hnw
  have HB := hid hB
  clear hi hz0 hz1 hz2 h hnw hN hP hM hPb hle hr hn hlen hB h2 hblt
  go_enter Try.func35, Try.ntmps35
  go_wp2_with fail
  generalize x.setCell ⟨b, 1, none⟩ (.int .i64 (N : Int)) = x1 at *
  have k0 := HJ1.out.1.c0
  have k1 := HJ1.out.1.c1
  have l1 : ∀ n', Calls Try.prog 42 #[.int .i64 (P : Int), .int .i64 64] (x1.drewN n') fun e w' => e = .returned (.int .i64 (M : Int)) ∧ ∃ m, w' = x1.drewN m := fun n' => Calls.quiet_of_same ((HP.out (x1.drewN n')).mono fun _ _ h => ⟨h.1, h.2.symm⟩)
  go_quiet (with_reducible exact l1 _)
  have HJ : Hid (PkR (x1.drewN nq) b (.slice a nw c) w N W B ∧ Mv (Own2 b (.slice a nw c)) x (x1.drewN nq)) := hid ⟨HJ1.out.1.below (below_drewN _ _), HJ1.out.2.trans (Mv.of_below (below_drewN _ _))⟩
  clear k0 k1 l1 HJ1
  generalize x1.drewN nq = x2 at *
  have HC : Hid (∀ z, ((fun z => PkR z b (.slice a nw c) w N W B ∧ Mv (Own2 b (.slice a nw c)) x z) z ∨ (fun z => z.heap[b]? = some (.cells #[.int .i64 (w : Int), .int .i64 (N : Int), .slice a nw c] 56 (0, 0)) ∧ Mv (Own2 b (.slice a nw c)) x z) z) → z.cell? ⟨b, 2, none⟩ = some (.slice a nw c)) := hid fun z h => by
    rcases h with h | h
    · exact h.1.c2
    · rw [cell_of_row _ _ _ _ _ _ h.1]; rfl
  go_wp2_with fail
  refine wp_region_growsX 15 12 (fun z => PkR z b (.slice a nw c) w N W B ∧ Mv (Own2 b (.slice a nw c)) x z) (fun z => z.heap[b]? = some (.cells #[.int .i64 (w : Int), .int .i64 (N : Int), .slice a nw c] 56 (0, 0)) ∧ Mv (Own2 b (.slice a nw c)) x z) [] [EqN (.pointer (some ⟨b, 0, none⟩)), EqN (.pointer (some ⟨b, 0, none⟩)), EqN (.pointer (some ⟨b, 0, none⟩)), EqN (.pointer (some ⟨b, 2, none⟩)), EqN (.slice a nw c), EqN (.int .i64 (M : Int)), EqN (.pointer (some ⟨b, 0, none⟩)), EqN (.pointer (some ⟨b, 0, none⟩)), EqN (.pointer (some ⟨b, 2, none⟩)), EqN (.slice a nw c), EqN (.int .i64 (nw : Int)), EqN (.int .i64 (r : Int)), RowZ 35 B (nw + r) (wvals W ++ List.replicate r (.int .u64 0)) b (.slice a nw c) x, EqN (.pointer (some ⟨b, 0, none⟩)), EqN (.pointer (some ⟨b, 2, none⟩))] (by kernel_rfl) (by decide) (by kernel_rfl) (by kernel_rfl) (by decide) ?_ ?_ ?_ ?_ ?_ ?_
  · exact ⟨HJ.out.1.below ((Below.refl _ _).drew), HJ.out.2.drew⟩
  · exact fun p q hg h => ⟨h.1.below hg, h.2.trans (Mv.of_below hg)⟩
  · exact fun p q hg h => ⟨row_below h.1 hg, h.2.trans (Mv.of_below hg)⟩
  · repeat' (first | exact List.forall_mem_nil _ | refine List.forall_mem_cons.2 ⟨?_, ?_⟩)
    all_goals
      intro w w' v hw h
      first | exact h | exact RowZ.kept h hw
  · simp only [AllLt]
    refine ⟨⟨⟨⟨⟨⟨⟨⟨⟨⟨⟨⟨⟨⟨⟨trivial, ?_⟩, ?_⟩, ?_⟩, ?_⟩, ?_⟩, ?_⟩, ?_⟩, ?_⟩, ?_⟩, ?_⟩, ?_⟩, ?_⟩, ?_⟩, ?_⟩, ?_⟩
    all_goals
      intro o' ho
      simp at ho
      subst ho
      intro ρ w5 hR hL hS hG
      obtain ⟨hl1, hl2, -⟩ := hL
    · refine plainG rfl ?_
      intro bA K Q' hK
      have e0 := hS 0 (by kernel_rfl)
      change ρ (.tmp 0) = _ at e0
      simp only [execOp]
      go_simp
      exact hK _ _ rfl (fun _ => Grew.refl _) (fun h => absurd h (by decide))
    · refine plainG rfl ?_
      intro bA K Q' hK
      have e0 := hS 0 (by kernel_rfl)
      change ρ (.tmp 0) = _ at e0
      simp only [execOp]
      go_simp
      exact hK _ _ rfl (fun _ => Grew.refl _) (fun h => absurd h (by decide))
    · refine plainG rfl ?_
      intro bA K Q' hK
      have e24 := hG 1 24 (by decide) (by kernel_rfl) (by kernel_rfl)
      change ρ (.tmp 24) = _ at e24
      simp only [execOp]
      go_simp
      exact hK _ _ rfl (fun _ => Grew.refl _) (fun h => absurd h (by decide))
    · refine plainG rfl ?_
      intro bA K Q' hK
      have e25 := hG 2 25 (by decide) (by kernel_rfl) (by kernel_rfl)
      change ρ (.tmp 25) = _ at e25
      simp only [execOp]
      go_simp
      exact hK _ _ rfl (fun _ => Grew.refl _) (fun h => absurd h (by decide))
    · refine plainG rfl ?_
      intro bA K Q' hK
      have e26 := hG 3 26 (by decide) (by kernel_rfl) (by kernel_rfl)
      change ρ (.tmp 26) = _ at e26
      have y2 := HC.out w5 hR.any
      simp only [execOp]
      go_simp
      exact hK _ _ rfl (fun _ => Grew.refl _) (fun h => absurd h (by decide))
    · refine plainG rfl ?_
      intro bA K Q' hK
      have e4 := hS 4 (by kernel_rfl)
      change ρ (.tmp 4) = _ at e4
      simp only [execOp]
      go_simp
      exact hK _ _ rfl (fun _ => Grew.refl _) (fun h => absurd h (by decide))
    · refine plainG rfl ?_
      intro bA K Q' hK
      have e0 := hS 0 (by kernel_rfl)
      change ρ (.tmp 0) = _ at e0
      simp only [execOp]
      go_simp
      exact hK _ _ rfl (fun _ => Grew.refl _) (fun h => absurd h (by decide))
    · refine plainG rfl ?_
      intro bA K Q' hK
      have e29 := hG 6 29 (by decide) (by kernel_rfl) (by kernel_rfl)
      change ρ (.tmp 29) = _ at e29
      simp only [execOp]
      go_simp
      exact hK _ _ rfl (fun _ => Grew.refl _) (fun h => absurd h (by decide))
    · refine plainG rfl ?_
      intro bA K Q' hK
      have e30 := hG 7 30 (by decide) (by kernel_rfl) (by kernel_rfl)
      change ρ (.tmp 30) = _ at e30
      simp only [execOp]
      go_simp
      exact hK _ _ rfl (fun _ => Grew.refl _) (fun h => absurd h (by decide))
    · refine plainG rfl ?_
      intro bA K Q' hK
      have e31 := hG 8 31 (by decide) (by kernel_rfl) (by kernel_rfl)
      change ρ (.tmp 31) = _ at e31
      have y2 := HC.out w5 hR.any
      simp only [execOp]
      go_simp
      exact hK _ _ rfl (fun _ => Grew.refl _) (fun h => absurd h (by decide))
    · refine plainG rfl ?_
      intro bA K Q' hK
      have e32 := hG 9 32 (by decide) (by kernel_rfl) (by kernel_rfl)
      change ρ (.tmp 32) = _ at e32
      simp only [execOp]
      go_simp
      exact hK _ _ rfl (fun _ => Grew.refl _) (fun h => absurd h (by decide))
    · refine plainG rfl ?_
      intro bA K Q' hK
      have e28 := hG 5 28 (by decide) (by kernel_rfl) (by kernel_rfl)
      have e33 := hG 10 33 (by decide) (by kernel_rfl) (by kernel_rfl)
      change ρ (.tmp 28) = _ at e28
      change ρ (.tmp 33) = _ at e33
      simp only [execOp]
      go_simp
      exact hK _ _ rfl (fun _ => Grew.refl _) (fun h => absurd h (by decide))
    · refine plainG rfl ?_
      intro bA K Q' hK
      have e27 := hG 4 27 (by decide) (by kernel_rfl) (by kernel_rfl)
      have e34 := hG 11 34 (by decide) (by kernel_rfl) (by kernel_rfl)
      change ρ (.tmp 27) = _ at e27
      change ρ (.tmp 34) = _ at e34
      obtain ⟨hj1, hj2⟩ := hR.ahead (by decide)
      have hjr := hj1.row
      rw [← HNW.out] at hjr
      obtain ⟨v', w6, hr, ho', hgr, hnew⟩ := run_append_own_zeros (P := Try.prog) w5 B 54 3 54 35 i0 (.int .u64 0) .i64 .i64 8 Try.underlying54 Try.underlying3 HI.out.1 HI.out.2.1 HI.out.2.2.1 HI.out.2.2.2 rfl rfl (.slice a nw c) nw (wvals W) hjr r (by have := HR.out; unfold maxLen; omega) (by have := HR.out; omega) (by have := hj2.size; have := HB.out; omega)
      have hbg : Value.ownBlock (.slice a nw c) ≠ some b := hj1.ne
      have hblt : b < w5.heap.size := hj1.blt
      refine uponAppendZ (.tmp 27) (.tmp 34) 54 3 rfl e27 e34 hr ?_
      refine hK _ _ ⟨ho', ?_, ?_⟩ (fun h => absurd rfl h) (fun _ => ⟨⟨?_, ?_⟩, ?_⟩)
      · rcases hnew with h | h
        · rw [h]; exact hbg
        · intro e; have := h b e; omega
      · intro g hg
        rcases hnew with h | h
        · exact .inl (by rw [← h]; exact hg)
        · exact .inr (Nat.le_trans hj2.size (h g hg))
      · rw [hgr.block b hblt (fun e => hbg e.symm)]; exact hj1.box
      · exact hj2.trans (Mv.of_grown hgr fun g hg _ => .inr hg)
      · simp only [AllLt]
        refine ⟨⟨⟨⟨⟨⟨⟨⟨⟨⟨⟨⟨⟨⟨⟨trivial, ?_⟩, ?_⟩, ?_⟩, ?_⟩, ?_⟩, ?_⟩, ?_⟩, ?_⟩, ?_⟩, ?_⟩, ?_⟩, ?_⟩, ?_⟩, ?_⟩, ?_⟩
        · exact fun _ _ y hy => hy
        · exact fun _ _ y hy => hy
        · exact fun _ _ y hy => hy
        · exact fun _ _ y hy => hy
        · exact fun _ _ y hy => hy
        · exact fun _ _ y hy => hy
        · exact fun _ _ y hy => hy
        · exact fun _ _ y hy => hy
        · exact fun _ _ y hy => hy
        · exact fun _ _ y hy => hy
        · exact fun _ _ y hy => hy
        · exact fun _ _ y hy => hy
        · exact fun hne _ => absurd rfl hne
        · exact fun _ _ y hy => hy
        · exact fun _ _ y hy => hy
    · refine plainG rfl ?_
      intro bA K Q' hK
      have e23 := hG 0 23 (by decide) (by kernel_rfl) (by kernel_rfl)
      change ρ (.tmp 23) = _ at e23
      simp only [execOp]
      go_simp
      exact hK _ _ rfl (fun _ => Grew.refl _) (fun h => absurd h (by decide))
    · refine plainG rfl ?_
      intro bA K Q' hK
      have e36 := hG 13 36 (by decide) (by kernel_rfl) (by kernel_rfl)
      change ρ (.tmp 36) = _ at e36
      simp only [execOp]
      go_simp
      exact hK _ _ rfl (fun _ => Grew.refl _) (fun h => absurd h (by decide))
  · intro vv w5 hJ hG
    have h1 : vv 14 = .pointer (some ⟨b, 2, none⟩) := hG.2 (by decide)
    have h2 : RowZ 35 B (nw + r) (wvals W ++ List.replicate r (.int .u64 0)) b (.slice a nw c) x w5 (vv 12) := hG.1.1.2 (by decide)
    obtain ⟨v', hv'⟩ : ∃ v', v' = vv 12 := ⟨_, rfl⟩
    rw [← hv'] at h2
    have hbx := hJ.1
    have jf2 : w5.frozen? ⟨b, 2, none⟩ = false := frozen_of_row _ _ _ _ _ hbx
    have j2 : w5.cell? ⟨b, 2, none⟩ = some (.slice a nw c) := by rw [cell_of_row _ _ _ _ _ _ hbx]; rfl
    obtain ⟨a2, c2, hv2⟩ : ∃ a2 c2, v' = .slice a2 (nw + r) c2 := by
      rcases h2.1.2 with ⟨h, h0⟩ | ⟨g, cap, cur, h, _⟩
      · exact ⟨none, 0, by rw [h, h0]⟩
      · exact ⟨_, _, h⟩
    rw [show nw + r = M from by omega] at hv2
    subst hv2
    have HFIN : Hid (PkR (w5.setCell ⟨b, 2, none⟩ (.slice a2 M c2)) b (.slice a2 M c2) w N (W ++ List.replicate r 0) B ∧ OwnNew x (.slice a nw c) (.slice a2 M c2) ∧ Mv (Own2 b (.slice a nw c)) x (w5.setCell ⟨b, 2, none⟩ (.slice a2 M c2))) := hid (by
      refine ⟨⟨by rw [heap_setCell_same w5 b 2 _ _ _ hbx]; rfl, ?_, h2.2.1⟩, h2.2.2, mv_setCell hJ.2 (.inl rfl) _⟩
      have h3 := ownsRow_setCell_other h2.1 (a := ⟨b, 2, none⟩) h2.2.1 (.slice a2 M c2)
      rw [List.length_append, List.length_replicate, ← HNW.out]
      have e : wvals (W ++ List.replicate r 0) = wvals W ++ List.replicate r (.int .u64 0) := by simp [wvals]
      rw [e]
      exact h3)
    clear hG HC HNW h2 HR HB hJ hbx
    simp [stG, stU, dstAt, Act.put, h1, ← hv']
    clear h1 hv'
    go_wp2_with fail
    exact bodyPost_end (results_none rfl _ _ _) rfl ⟨rfl, ⟨_, HFIN.out.1, HFIN.out.2.1⟩, HFIN.out.2.2⟩
end Go.Proofs.Ytcgapplblhbdlaa
