/- CONTRACTS: extents joined where they touch. -/
import Derived.Test.YtlfpepkgnobjnaaPxA
import Derived.BigRegion
namespace Go.Proofs.Ytlfpepkgnobjnaa
open Go.RowKit Go.Inc

theorem bumpCells (l : List Xt) (x : Xt) (d : Int) : (xcells (l ++ [x])).set (l.length * 2 + 1) (.int .i64 d) = xcells (l ++ [(x.1, d)]) := by
  rw [xcells_app, xcells_app, List.set_append, if_neg (by rw [xcells_len]; omega), xcells_len, show l.length * 2 + 1 - l.length * 2 = 1 from by omega]
  rfl
set_option maxRecDepth 20000 in
set_option maxHeartbeats 4000000 in
theorem shorten_any (ok : Nat → Prop) (a : Option Addr) (c : Nat) (xs : List Xt) (w : World) (hs : XtS ok w a xs) (hok : ∀ x ∈ xs, okX x = true) (hl : (xs.length : Int) ≤ 65536) (hsum : sumX xs ≤ 1024) :
    Calls Try.prog 40 #[.slice a xs.length c] w fun e w' => (∃ v, e = .returned v ∧ w'.ownsRow w.heap.size 57 2 v (shX xs xs.length).length (xcells (shX xs xs.length))) ∧ Below w.heap.size w w' := by
  obtain ⟨i0, hi, hz0, hz1, hz2⟩ := info_parts infoPX
  have HI := hid (And.intro hi (And.intro hz0 (And.intro hz1 hz2)))
  have HS := hid hs.old
  have HOK := hid hok
  have HSUM : Hid (∀ k, sumX (xs.take k) ≤ 1024) := hid fun k => by
    have h1 := sumX_app (xs.take k) (xs.drop k)
    rw [List.take_append_drop] at h1
    have h2 := (sumX_bnd (xs.drop k) fun y hy => hok y (List.mem_of_mem_drop hy)).1
    omega
  obtain ⟨n, hn⟩ : ∃ n, n = xs.length := ⟨_, rfl⟩
  have HN := hid hn
  rw [← hn] at hl ⊢
  clear hs hok hn hi hz0 hz1 hz2 hsum
  go_enter Try.func40, Try.ntmps40
  go_wp2_with fail
  go_step3
  go_wp2_with fail
  go_step3
  go_wp2_with fail
  go_loopw [3, 9] (fun v i wr => ∃ k : Nat, k ≤ n ∧ i = .int .i64 (k : Int) ∧ wr.ownsRow w.heap.size 57 2 v (shX xs k).length (xcells (shX xs k)) ∧ Below w.heap.size w wr) (fun _ i _ => n - (intOf i).toNat)
  case atStart => exact ⟨0, Nat.zero_le _, rfl, World.ownsRow_nil _ _ _ _, Below.refl _ _⟩
  case round =>
    obtain ⟨k, hk, rfl, hv, hb⟩ := hrel
    have HV := hid hv
    have HB := hid hb
    clear hv hb
    by_cases hlt : (k : Int) < n
    · have hkn : (k < n) = True := eq_true (by omega)
      have HM := hid (memGetD (zs := xs) (d := ((0 : Int), (0 : Int))) (k := k) (by have := HN.out; omega))
      have HSX := hid (shX_at xs HOK.out k (by have := HN.out; omega))
      have hsf : sumX (xs.take k) + (xs.getD k (0, 0)).2 ≤ 1024 := by
        have h := HSUM.out (k + 1)
        rw [takeSnoc (d := ((0 : Int), (0 : Int))) (by have := HN.out; omega), sumX_snoc] at h
        exact h
      obtain ⟨b, o, rfl, hc1, hc2⟩ := (HS.out.below HB.out).cell (i := k) (by have := HN.out; omega)
      have hgr : shX xs (k + 1) = growX (shX xs k) (xs.getD k (0, 0)) := rfl
      obtain ⟨⟨F, G⟩, hx⟩ : ∃ x, x = xs.getD k (0, 0) := ⟨_, rfl⟩
      rw [← hx] at HM hc1 hc2 hgr hsf
      simp only at hc1 hc2 hsf
      have hxx := okX_iff.1 (HOK.out _ HM.out)
      simp only at hxx
      have hfb : F ≤ 2047 ∧ 2 ≤ F ∧ 1 ≤ G ∧ G ≤ 2046 := by omega
      obtain ⟨hF1, hF2, hG1, hG2⟩ := hfb
      have HGR := hid hgr
      have HSF := hid hsf
      clear hx hxx hgr hsf
      obtain ⟨g5, hg5⟩ : ∃ g5, g5 = wr.heap.size := ⟨_, rfl⟩
      obtain ⟨w0, hw0⟩ : ∃ w0, w0 = wr.alloc (.cells #[.int .i64 F, .int .i64 G] 57) := ⟨_, rfl⟩
      have HW0 := hid hw0
      have HG5 := hid hg5
      have HBX0 : Hid (w0.heap[g5]? = some (.cells #[.int .i64 F, .int .i64 G] 57 (0, 0))) := hid (by rw [hw0, hg5]; exact heap_alloc_new wr _)
      have HVA : Hid (w0.ownsRow w.heap.size 57 2 u3 (shX xs k).length (xcells (shX xs k))) := hid (by rw [hw0]; exact HV.out.alloc _)
      have HBA : Hid (Below w.heap.size w w0) := hid (by rw [hw0]; exact HB.out.alloc HB.out.size _)
      have hbF : w0.cell? ⟨g5, 0, none⟩ = some (.int .i64 F) := by rw [cell_of_row _ _ _ _ _ _ HBX0.out]; rfl
      have hbG : w0.cell? ⟨g5, 1, none⟩ = some (.int .i64 G) := by rw [cell_of_row _ _ _ _ _ _ HBX0.out]; rfl
      clear hg5 hw0
      obtain ⟨a3, c3, rfl, -, -, hlc3, hcm3, -⟩ := ownedX HV.out
      have HLC := hid (And.intro hlc3 hcm3)
      clear HV hlc3 hcm3
      obtain ⟨s, hs⟩ : ∃ s, s = shX xs k := ⟨_, rfl⟩
      rw [← hs] at HVA HSX HGR HLC ⊢
      have HSS := hid hs
      clear hs
      obtain ⟨L, hL⟩ : ∃ L, L = s.length := ⟨_, rfl⟩
      have HL := hid hL
      rw [← hL] at HVA HLC ⊢
      have hLb : (L : Int) ≤ 65536 := by have := HSX.out.len; omega
      have hcase : s = [] ∨ ∃ l y, s = l ++ [y] ∧ 2 ≤ y.1 ∧ y.1 ≤ 2047 ∧ 1 ≤ y.2 ∧ y.2 + G ≤ 1024 := by
        by_cases h0 : k = 0
        · exact .inl (HSX.out.zero h0)
        · obtain ⟨l, y, h1, -⟩ := HSX.out.last (by omega)
          have h2 := HSX.out.fits y (by rw [h1]; simp)
          have h3 := HSF.out
          exact .inr ⟨l, y, h1, by omega, by omega, by omega, by omega⟩
      rcases hcase with hs0 | ⟨l, ⟨Y, Z⟩, hly, hY1, hY2, hZ1, hZ2⟩
      · have HGR2 : Hid (shX xs (k + 1) = [(F, G)]) := hid (by rw [HGR.out, hs0]; rfl)
        have hL0 : L = 0 := by rw [hL, hs0]; rfl
        subst hL0
        have HVA0 : Hid (w0.ownsRow w.heap.size 57 2 (.slice a3 (0 : Nat) c3) 0 (xcells [])) := hid (by rw [← hs0]; exact HVA.out)
        clear hL hs0 HVA HGR
        go_wp2_with fail
        rw [← HW0.out, ← HG5.out]
        go_wp2_with fail
        go_quiet (fail)
        have HBQ : Hid (Below w0.heap.size w0 (w0.drewN nq)) := hid (belowDrew w0 nq)
        have HVQ : Hid ((w0.drewN nq).ownsRow w.heap.size 57 2 (.slice a3 (0 : Nat) c3) 0 (xcells [])) := hid (owns_mv (F := fun _ => False) HVA0.out (Mv.of_below HBQ.out) fun _ _ => id)
        have HBB : Hid (Below w.heap.size w (w0.drewN nq)) := hid (HBA.out.trans (HBQ.out.mono HBA.out.size))
        have hbFq := (HBQ.out.cell (cell_lt hbF)).trans hbF
        have hbGq := (HBQ.out.cell (cell_lt hbG)).trans hbG
        generalize w0.drewN nq = wq at *
        clear hbF hbG HVA0 HBQ
        go_wp2_with (refine wpList_append_own _ rfl (.tmp 44) (.tmp 46) 23 rfl w.heap.size 57 i0 (.agg #[.int .i64 0, .int .i64 0]) 2 16 Try.underlying23 HI.out.1 HI.out.2.1 HI.out.2.2.1 HI.out.2.2.2 rfl (by decide) _ 0 (xcells []) rfl (HVQ.out.alloc _) ⟨wq.heap.size, 0, none⟩ 1 1 [.int .i64 F, .int .i64 G] rfl rfl (newCells wq [.int .i64 F, .int .i64 G] _) (by simp [Value.oneCell']) (by unfold maxLen; omega) (by omega) (by have := HBB.out.size; simp; omega) ?_)
        intro v4 w4 hv4 hg4 _
        have HB4 : Hid (Below w.heap.size w w4) := hid (below_owned (w0 := w) (HBB.out.alloc HBB.out.size _) (HVQ.out.alloc _) (Nat.le_refl _) hg4)
        have HV4 : Hid (w4.ownsRow w.heap.size 57 2 v4 (shX xs (k + 1)).length (xcells (shX xs (k + 1)))) := hid (by rw [HGR2.out]; exact hv4)
        clear hv4 hg4 HVQ HBB hbFq hbGq
        go_wp2_with fail
        go_roundw
        case rel => exact ⟨k + 1, of_eq_true hkn, by go_num, HV4.out, HB4.out⟩
        case measure => have := of_eq_true hkn; simp [intOf]; omega
      · simp only at hY1 hY2 hZ1 hZ2
        obtain ⟨p, hp⟩ : ∃ p, p = l.length := ⟨_, rfl⟩
        have hLp : L = p + 1 := by rw [hL, hly, hp]; simp
        have HVL : Hid (w0.ownsRow w.heap.size 57 2 (.slice a3 L c3) L (xcells (l ++ [(Y, Z)]))) := hid (by rw [← hly]; exact HVA.out)
        obtain ⟨g, rfl, hgb⟩ : ∃ g, a3 = some ⟨g, 0, none⟩ ∧ w.heap.size ≤ g := by
          rcases HVL.out.2 with ⟨_, h0⟩ | ⟨g, cap, cur, h, hb, _⟩
          · omega
          · cases h; exact ⟨g, rfl, hb⟩
        have hpL : (L : Int) - 1 = (p : Int) := by omega
        have hpL2 : (p : Int) < (L : Int) := by omega
        have hpL3 : (p < L) = True := eq_true (by omega)
        have hp0 : decide ((0 : Int) ≤ (p : Int)) = true := decide_eq_true (by omega)
        have hyc := xcells_get (l ++ [(Y, Z)]) p (by rw [hp]; simp)
        rw [hp, getD_last] at hyc
        simp only at hyc
        rw [← hp] at hyc
        have hcY : w0.cell? ⟨g, p * 2, none⟩ = some (.int .i64 Y) := by
          have h := HVL.out.cells (g := g) rfl (p * 2) (.int .i64 Y) hyc.1
          rw [Addr.add_lit] at h
          simpa only [Nat.zero_add] using h
        have hcZ : w0.cell? ⟨g, p * 2 + 1, none⟩ = some (.int .i64 Z) := by
          have h := HVL.out.cells (g := g) rfl (p * 2 + 1) (.int .i64 Z) hyc.2
          rw [Addr.add_lit] at h
          simpa only [Nat.zero_add] using h
        have hYZ : 1 ≤ Y + Z ∧ Y + Z ≤ 4000 := by omega
        have HP := hid hp
        have HG := hid hgb
        have HLY := hid hly
        have HLP := hid hLp
        clear hyc hp hgb hly hLp hL HVA hlt
        by_cases heq : Y + Z = F
        · have hq : (Y + Z == F) = true := by rw [beq_iff_eq]; exact heq
          have HGR2 : Hid (shX xs (k + 1) = l ++ [(Y, Z + G)]) := hid (by rw [HGR.out, HLY.out]; exact growX_met heq)
          have HLN : Hid ((l ++ [(Y, Z + G)]).length = L) := hid (by rw [HLP.out, HP.out]; simp)
          clear heq HGR HLY
          go_wp2_with fail
          rw [← HW0.out, ← HG5.out]
          go_wp2_with fail
          go_quiet (fail)
          have HBQ : Hid (Below w0.heap.size w0 (w0.drewN nq)) := hid (belowDrew w0 nq)
          have HVQ : Hid ((w0.drewN nq).ownsRow w.heap.size 57 2 (.slice (some ⟨g, 0, none⟩) L c3) L (xcells (l ++ [(Y, Z)]))) := hid (owns_mv (F := fun _ => False) HVL.out (Mv.of_below HBQ.out) fun _ _ => id)
          have HBB : Hid (Below w.heap.size w (w0.drewN nq)) := hid (HBA.out.trans (HBQ.out.mono HBA.out.size))
          have hbGq := (HBQ.out.cell (cell_lt hbG)).trans hbG
          have hcZq := (HBQ.out.cell (cell_lt hcZ)).trans hcZ
          generalize w0.drewN nq = wq at *
          clear hbF hbG hcY hcZ HVL HBQ
          have hfz := HVQ.out.frozenAt (p * 2 + 1)
          have HV3 : Hid ((wq.setCell ⟨g, p * 2 + 1, none⟩ (.int .i64 (Z + G))).drew.ownsRow w.heap.size 57 2 (.slice (some ⟨g, 0, none⟩) L c3) L (xcells (l ++ [(Y, Z + G)]))) := hid (by
            have h := (HVQ.out.stored (p * 2 + 1) (.int .i64 (Z + G))).1
            rw [HP.out, bumpCells] at h
            rw [HP.out]
            exact owns_mv (F := fun _ => False) h (Mv.of_below (belowDrew _ 1)) fun _ _ => id)
          have HB3 : Hid (Below w.heap.size w (wq.setCell ⟨g, p * 2 + 1, none⟩ (.int .i64 (Z + G))).drew) := hid ((HBB.out.setCell (p := ⟨g, p * 2 + 1, none⟩) HG.out _).drew)
          clear HVQ HBB
          go_wp2_with fail
          go_region
          go_wp2_with fail
          go_roundw
          case rel => exact ⟨k + 1, of_eq_true hkn, by go_num, by rw [HGR2.out, HLN.out]; exact HV3.out, HB3.out⟩
          case measure => have := of_eq_true hkn; simp [intOf]; omega
        · have hq : (Y + Z == F) = false := by rw [beq_eq_false_iff_ne]; exact heq
          have HGR2 : Hid (shX xs (k + 1) = l ++ [(Y, Z)] ++ [(F, G)]) := hid (by rw [HGR.out, HLY.out]; exact growX_new heq)
          have HLN : Hid ((l ++ [(Y, Z)] ++ [(F, G)]).length = L + 1) := hid (by rw [HLP.out, HP.out]; simp)
          clear heq HGR HLY
          go_wp2_with fail
          rw [← HW0.out, ← HG5.out]
          go_wp2_with fail
          go_quiet (fail)
          have HBQ : Hid (Below w0.heap.size w0 (w0.drewN nq)) := hid (belowDrew w0 nq)
          have HVQ : Hid ((w0.drewN nq).ownsRow w.heap.size 57 2 (.slice (some ⟨g, 0, none⟩) L c3) L (xcells (l ++ [(Y, Z)]))) := hid (owns_mv (F := fun _ => False) HVL.out (Mv.of_below HBQ.out) fun _ _ => id)
          have HBB : Hid (Below w.heap.size w (w0.drewN nq)) := hid (HBA.out.trans (HBQ.out.mono HBA.out.size))
          have hbFq := (HBQ.out.cell (cell_lt hbF)).trans hbF
          have hbGq := (HBQ.out.cell (cell_lt hbG)).trans hbG
          generalize w0.drewN nq = wq at *
          clear hbF hbG hcY hcZ HVL HBQ
          go_wp2_with (refine wpList_append_own _ rfl (.tmp 44) (.tmp 46) 23 rfl w.heap.size 57 i0 (.agg #[.int .i64 0, .int .i64 0]) 2 16 Try.underlying23 HI.out.1 HI.out.2.1 HI.out.2.2.1 HI.out.2.2.2 rfl (by decide) _ L (xcells (l ++ [(Y, Z)])) rfl (HVQ.out.alloc _) ⟨wq.heap.size, 0, none⟩ 1 1 [.int .i64 F, .int .i64 G] rfl rfl (newCells wq [.int .i64 F, .int .i64 G] _) (by simp [Value.oneCell']) (by unfold maxLen; omega) (by omega) (by have := HBB.out.size; simp; omega) ?_)
          intro v4 w4 hv4 hg4 _
          have HB4 : Hid (Below w.heap.size w w4) := hid (below_owned (w0 := w) (HBB.out.alloc HBB.out.size _) (HVQ.out.alloc _) (Nat.le_refl _) hg4)
          have HV4 : Hid (w4.ownsRow w.heap.size 57 2 v4 (shX xs (k + 1)).length (xcells (shX xs (k + 1)))) := hid (by rw [HGR2.out, HLN.out, xcells_app]; exact hv4)
          clear hv4 hg4 HVQ HBB hbFq hbGq
          go_wp2_with fail
          go_roundw
          case rel => exact ⟨k + 1, of_eq_true hkn, by go_num, HV4.out, HB4.out⟩
          case measure => have := of_eq_true hkn; simp [intOf]; omega
    · have hkf : (k < n) = False := eq_false (by omega)
      have HKN : Hid (k = n) := hid (by omega)
      clear hlt
      go_wp2_with fail
      rw [Exit.noGoto_ret]
      go_ret
      exact ⟨⟨_, rfl, by have h := HV.out; rw [HKN.out, HN.out] at h; rw [HN.out]; exact h⟩, HB.out⟩
end Go.Proofs.Ytlfpepkgnobjnaa
