/- CONTRACTS: whether an extent is right; the pages of extents. -/
import Derived.Test.YtlfpepkgnobjnaaExSh
namespace Go.Proofs.Ytlfpepkgnobjnaa
open Go.RowKit Go.Inc

theorem rowApart {E T B n s : Nat} {w w' : World} {v : Value} {xs : List Value} {g : Nat} {cs : Array Value} {fz : Nat × Nat} (hne : E ≠ T) (hr : w.ownsRow B E s v n xs) (hg : w.grownBy w' v.ownBlock) (h : w.heap[g]? = some (.cells cs T fz)) : w'.heap[g]? = some (.cells cs T fz) := by
  refine row_grown h hg ?_
  rcases hr.2 with ⟨rfl, _⟩ | ⟨g1, cap, cur, rfl, _, hg1, _⟩
  · intro e; cases e
  · intro e
    have e' : g1 = g := by simpa [Value.ownBlock] using e
    subst e'
    rw [hg1] at h
    simp at h
    exact hne h.2.1
set_option maxRecDepth 20000 in
set_option maxHeartbeats 1500000 in
theorem mayBe_any (F G : Int) (w : World) (hF : -9223372036854775808 ≤ F ∧ F ≤ 9223372036854775807) (hG : -9223372036854775808 ≤ G ∧ G ≤ 9223372036854775807) :
    Calls Try.prog 36 #[.agg #[.int .i64 F, .int .i64 G]] w fun e w' => e = .returned (.bool (okX (F, G))) ∧ Below w.heap.size w w' := by
  by_cases h1 : (2 : Int) ≤ F
  · have hd1 : decide ((2 : Int) ≤ F) = true := decide_eq_true h1
    have hd1' : decide (F < 2) = false := decide_eq_false (by omega)
    obtain ⟨D, hD⟩ : ∃ D, D = 2048 - F := ⟨_, rfl⟩
    have hDb : -9223372036854775808 ≤ D ∧ D ≤ 2046 := by omega
    by_cases h2 : (1 : Int) ≤ G
    · have hd2 : decide ((1 : Int) ≤ G) = true := decide_eq_true h2
      by_cases h3 : G ≤ D
      · have hd3 : decide (G ≤ D) = true := decide_eq_true h3
        have HO : Hid (okX (F, G) = true) := hid (okX_iff.2 ⟨h1, by simp only; omega, h2, by simp only; omega⟩)
        have hD2 : 2048 - F = D := hD.symm
        clear h1 h2 h3 hD
        go_enter Try.func36, Try.ntmps36
        go_wp2_with fail
        go_ret
        exact ⟨by rw [HO.out]; rfl, allocBelow w _⟩
      · have hd3 : decide (G ≤ D) = false := decide_eq_false h3
        have HO : Hid (okX (F, G) = false) := hid (Bool.eq_false_iff.2 fun hh => by have := okX_iff.1 hh; simp only at this; omega)
        have hD2 : 2048 - F = D := hD.symm
        clear h1 h2 h3 hD
        go_enter Try.func36, Try.ntmps36
        go_wp2_with fail
        go_ret
        exact ⟨by rw [HO.out]; rfl, allocBelow w _⟩
    · have hd2 : decide ((1 : Int) ≤ G) = false := decide_eq_false h2
      have HO : Hid (okX (F, G) = false) := hid (Bool.eq_false_iff.2 fun hh => by have := okX_iff.1 hh; simp only at this; omega)
      clear h1 h2 hD hDb
      go_enter Try.func36, Try.ntmps36
      go_wp2_with fail
      go_ret
      exact ⟨by rw [HO.out]; rfl, allocBelow w _⟩
  · have hd1 : decide ((2 : Int) ≤ F) = false := decide_eq_false h1
    have HO : Hid (okX (F, G) = false) := hid (Bool.eq_false_iff.2 fun hh => by have := okX_iff.1 hh; simp only at this; omega)
    clear h1
    go_enter Try.func36, Try.ntmps36
    go_wp2_with fail
    go_ret
    exact ⟨by rw [HO.out]; rfl, allocBelow w _⟩

theorem infoIn : (Try.prog.info? 3).map (fun i => (i.zero, i.size, i.bytes)) = some (some (.int .i64 0), 1, 8) := by kernel_rfl
set_option maxRecDepth 20000 in
set_option maxHeartbeats 4000000 in
theorem spread_any (ok : Nat → Prop) (a : Option Addr) (c : Nat) (xs : List Xt) (w : World) (hs : XtS ok w a xs) (hok : ∀ x ∈ xs, okX x = true) (hl : (xs.length : Int) ≤ 65536) :
    Calls Try.prog 38 #[.slice a xs.length c] w fun e w' => (∃ v, e = .returned v ∧ w'.ownsRow w.heap.size 3 1 v (pagesX xs).length (zvals (pagesX xs))) ∧ Below w.heap.size w w' := by
  have HS := hid hs.old
  have HOK := hid hok
  obtain ⟨n, hn⟩ : ∃ n, n = xs.length := ⟨_, rfl⟩
  have HN := hid hn
  rw [← hn] at hl ⊢
  clear hs hok hn
  go_enter Try.func38, Try.ntmps38
  go_wp2_with fail
  go_loopw [3, 9] (fun v i wr => ∃ k : Nat, k ≤ n ∧ i = .int .i64 (k : Int) ∧ wr.ownsRow w.heap.size 3 1 v (pagesX (xs.take k)).length (zvals (pagesX (xs.take k))) ∧ Below w.heap.size w wr) (fun _ i _ => n - (intOf i).toNat)
  case atStart => exact ⟨0, Nat.zero_le _, rfl, by rw [List.take_zero]; exact World.ownsRow_nil _ _ _ _, Below.refl _ _⟩
  case round =>
    obtain ⟨k, hk, rfl, hv, hb⟩ := hrel
    have HV := hid hv
    have HB := hid hb
    clear hv hb
    obtain ⟨wj, hwj⟩ : ∃ wj, wj = wr := ⟨_, rfl⟩
    subst hwj
    by_cases hlt : (k : Int) < n
    · have hkn : (k < n) = True := eq_true (by omega)
      have HSN := hid (takeSnoc (bs := xs) (d := ((0 : Int), (0 : Int))) (k := k) (by have := HN.out; omega))
      have HM := hid (memGetD (zs := xs) (d := ((0 : Int), (0 : Int))) (k := k) (by have := HN.out; omega))
      obtain ⟨b, o, rfl, hc1, hc2⟩ := (HS.out.below HB.out).cell (i := k) (by have := HN.out; omega)
      obtain ⟨⟨F, G⟩, hx⟩ : ∃ x, x = xs.getD k (0, 0) := ⟨_, rfl⟩
      have HX := hid hx
      rw [← hx] at HSN HM hc1 hc2
      simp only at hc1 hc2
      have hxx := okX_iff.1 (HOK.out _ HM.out)
      simp only at hxx
      obtain ⟨m, rfl⟩ := Int.eq_ofNat_of_zero_le (show (0 : Int) ≤ G by omega)
      have hFb : F ≤ 2047 ∧ 2 ≤ F ∧ (m : Int) ≤ 2046 := by omega
      obtain ⟨hF1, hF2, hm1⟩ := hFb
      obtain ⟨L, hL⟩ : ∃ L, L = (pagesX (xs.take k)).length := ⟨_, rfl⟩
      have HL := hid hL
      have HLB : Hid ((L : Int) ≤ 2046 * k) := hid (by
        have hp : ∀ x ∈ xs.take k, okX x = true := fun x hx => HOK.out x (List.mem_of_mem_take hx)
        have h1 := pagesX_len _ hp
        have h2 := (sumX_bnd _ hp).2
        rw [List.length_take] at h2
        omega)
      rw [← hL] at HV
      clear hx hxx hL
      go_wp2_with fail
      have HBX0 : Hid ((wj.alloc (.cells #[.int .i64 F, .int .i64 (m : Int)] 57)).heap[wj.heap.size]? = some (.cells #[.int .i64 F, .int .i64 (m : Int)] 57 (0, 0))) := hid (heap_alloc_new wj _)
      have HVA := hid (HV.out.alloc (.cells #[.int .i64 F, .int .i64 (m : Int)] 57))
      have HBA : Hid (Below w.heap.size w (wj.alloc (.cells #[.int .i64 F, .int .i64 (m : Int)] 57))) := hid (HB.out.alloc HB.out.size _)
      obtain ⟨g5, hg5⟩ : ∃ g5, g5 = wj.heap.size := ⟨_, rfl⟩
      rw [← hg5] at HBX0 ⊢
      clear hg5 HV HB hc1 hc2
      go_loopw [3, 15] (fun v j wr => ∃ q : Nat, q ≤ m ∧ j = .int .i64 (q : Int) ∧ wr.ownsRow w.heap.size 3 1 v (L + q) (zvals (pagesX (xs.take k) ++ partX (F, (m : Int)) q)) ∧ wr.heap[g5]? = some (.cells #[.int .i64 F, .int .i64 (m : Int)] 57 (0, 0)) ∧ Below w.heap.size w wr) (fun _ j _ => m - (intOf j).toNat)
      case atStart => exact ⟨0, Nat.zero_le _, rfl, by rw [Nat.add_zero, show partX (F, (m : Int)) 0 = [] from rfl, List.append_nil]; exact HVA.out, HBX0.out, HBA.out⟩
      case round =>
        clear HVA HBA HBX0
        obtain ⟨q, hq, rfl, hv, hx5, hb⟩ := hrel
        have HV := hid hv
        have HX5 := hid hx5
        have HB := hid hb
        have hcF : wr.cell? ⟨g5, 0, none⟩ = some (.int .i64 F) := by rw [cell_of_row _ _ _ _ _ _ hx5]; rfl
        clear hv hx5 hb
        by_cases hqm : (q : Int) < m
        · have hqm2 : (q < m) = True := eq_true (by omega)
          have hlb : (L + q : Int) ≤ 140000000 := by have := HLB.out; omega
          have HPS := hid (partX_snoc (F, (m : Int)) q)
          clear hqm
          go_wp2_with (refine wpList_append_any rfl (.tmp 18) (.tmp 23) 22 rfl w.heap.size 3 (.int .i64 0) 8 Try.underlying22 infoIn rfl _ _ _ rfl (HV.out.alloc _) (some ⟨wr.heap.size, 0, none⟩) 1 1 _ rfl rfl (by intro h; cases h) (one_new wr _ _) (by simp [Value.oneCell']) (by unfold maxLen; omega) (by omega) (by have := HB.out.size; simp; omega) ?_)
          intro v4 w4 hv4 hg4 _
          have HB4 : Hid (Below w.heap.size w w4) := hid (below_owned (w0 := w) (HB.out.alloc HB.out.size _) (HV.out.alloc _) (Nat.le_refl _) hg4)
          have HX4 := hid (rowApart (by decide) (HV.out.alloc _) hg4 (row_below HX5.out (allocBelow wr _)))
          have HV4 : Hid (w4.ownsRow w.heap.size 3 1 v4 (L + (q + 1)) (zvals (pagesX (xs.take k) ++ partX (F, (m : Int)) (q + 1)))) := hid (by rw [HPS.out, ← List.append_assoc, zvals_app]; exact hv4)
          clear hv4 hg4 HV HB HX5 hcF
          go_wp2_with fail
          go_roundw
          case rel => exact ⟨q + 1, of_eq_true hqm2, by go_num, HV4.out, HX4.out, HB4.out⟩
          case measure => have := of_eq_true hqm2; simp [intOf]; omega
        · have hqf : (q < m) = False := eq_false (by omega)
          have HQM : Hid (q = m) := hid (by omega)
          clear hqm
          go_wp2_with fail
          go_roundw
          case rel =>
            refine ⟨k + 1, by omega, by go_num, ?_, HB.out⟩
            have hv := HV.out
            rw [HQM.out] at hv
            rw [HSN.out, pagesX_snoc, List.length_append, ← HL.out]
            unfold pagesX1
            rw [partX_len]
            exact hv
          case measure => simp [intOf]; omega
    · have hkf : (k < n) = False := eq_false (by omega)
      have HKN : Hid (k = n) := hid (by omega)
      clear hlt
      go_wp2_with fail
      go_ret
      exact ⟨⟨_, rfl, by have h := HV.out; rw [HKN.out, HN.out, List.take_length] at h; exact h⟩, HB.out⟩
end Go.Proofs.Ytlfpepkgnobjnaa
