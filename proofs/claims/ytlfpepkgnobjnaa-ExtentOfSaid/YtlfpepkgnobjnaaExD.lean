/- CONTRACTS: the document's Of. -/
import Derived.Test.YtlfpepkgnobjnaaExC
namespace Go.Proofs.Ytlfpepkgnobjnaa
open Go.RowKit Go.Inc

theorem getD_last (l : List Xt) (x : Xt) : (l ++ [x]).getD l.length (0, 0) = x := by simp
set_option maxRecDepth 20000 in
set_option maxHeartbeats 4000000 in
theorem rOf_any (ok : Nat → Prop) (a : Option Addr) (c : Nat) (ps : List Int) (w : World) (hs : Si ok w a ps) (hl : (ps.length : Int) ≤ 65536) :
    Calls Try.prog 7 #[.slice a ps.length c] w fun e w' => (∃ v, e = .returned (.tuple #[v, .int .i64 (ofE ps)]) ∧ w'.ownsRow w.heap.size 55 2 v (ofX ps).length (xcells (ofX ps))) ∧ Below w.heap.size w w' := by
  obtain ⟨i0, hi, hz0, hz1, hz2⟩ := info_parts infoRX
  have HI := hid (And.intro hi (And.intro hz0 (And.intro hz1 hz2)))
  have HS : Hid (Si (fun b => b < w.heap.size) w a ps) := hid (hs.mono fun _ _ h => h)
  have HTW : Hid (∀ y, Below w.heap.size w y → (∀ z ∈ ps, 2 ≤ z ∧ z ≤ 2047) → Calls Try.prog 27 #[.slice a ps.length c] y fun e w' => e = .returned (.bool (!decide ps.Nodup)) ∧ Below y.heap.size y w') := hid fun y hy hin => rTwice_any ok a c ps y (hs.below hy) hin (by omega)
  have HBAD : Hid (∀ (y : World) (E : Int), ofE ps = E → E ≠ 0 → (∃ v, Ending.returned (.tuple #[.slice none 0 0, .int .i64 E]) = .returned (.tuple #[v, .int .i64 (ofE ps)]) ∧ y.ownsRow w.heap.size 55 2 v (ofX ps).length (xcells (ofX ps)))) := hid fun y E hE hne => by
    have e : ofX ps = [] := if_neg (by rw [hE]; exact hne)
    rw [e, hE]
    exact ⟨_, rfl, World.ownsRow_nil _ _ _ _⟩
  obtain ⟨n, hn⟩ : ∃ n, n = ps.length := ⟨_, rfl⟩
  have HN := hid hn
  rw [← hn] at hl HTW ⊢
  clear hs hi hz0 hz1 hz2 hn
  go_enter Try.func7, Try.ntmps7
  go_wp2_with fail
  go_loopw [4] (fun i wr => ∃ k : Nat, k ≤ n ∧ i = .int .i64 (k : Int) ∧ (∀ z ∈ ps.take k, 2 ≤ z ∧ z ≤ 2047) ∧ Below w.heap.size w wr) (fun i _ => n - (intOf i).toNat)
  case atStart => exact ⟨0, Nat.zero_le _, rfl, by simp, Below.refl _ _⟩
  case round =>
    obtain ⟨k, hk, rfl, hin, hb⟩ := hrel
    have HIN := hid hin
    have HB := hid hb
    clear hin hb
    by_cases hlt : (k : Int) < n
    · obtain ⟨b, o, rfl, hck⟩ := siCell (HS.out.below HB.out) (k := k) (by have := HN.out; omega)
      have HSN := hid (takeSnoc (bs := ps) (d := 0) (k := k) (by have := HN.out; omega))
      have HM := hid (memGetD (zs := ps) (d := 0) (k := k) (by have := HN.out; omega))
      obtain ⟨x, hx⟩ : ∃ x, x = ps.getD k 0 := ⟨_, rfl⟩
      rw [← hx] at hck HSN HM
      have hkn : (k < n) = True := eq_true (by omega)
      clear hx
      by_cases hx2 : x < 2
      · have HO : Hid (ofE ps = 10) := hid (ofE_out (outP_true HM.out (.inl hx2)))
        have hxd : decide (x < 2) = true := decide_eq_true hx2
        clear hx2
        go_wp2_with fail
        go_ret2
        exact ⟨HBAD.out wr 10 HO.out (by decide), HB.out⟩
      have hxd : decide (x < 2) = false := decide_eq_false hx2
      by_cases hx3 : (2047 : Int) < x
      · have HO : Hid (ofE ps = 10) := hid (ofE_out (outP_true HM.out (.inr hx3)))
        have hxe : decide ((2047 : Int) < x) = true := decide_eq_true hx3
        clear hx2 hx3
        go_wp2_with fail
        go_ret2
        exact ⟨HBAD.out wr 10 HO.out (by decide), HB.out⟩
      have hxe : decide ((2047 : Int) < x) = false := decide_eq_false hx3
      have HXB : Hid (2 ≤ x ∧ x ≤ 2047) := hid (by omega)
      clear hx2 hx3
      go_wp2_with fail
      go_roundw
      case rel => exact ⟨k + 1, by omega, by go_num, by rw [HSN.out]; intro z hz; rcases snocMem.1 hz with h | h; exact HIN.out z h; subst h; exact HXB.out, HB.out⟩
      case measure => simp [intOf]; omega
    · have hkf : (k < n) = False := eq_false (by omega)
      have HIR : Hid (∀ z ∈ ps, 2 ≤ z ∧ z ≤ 2047) := hid (by have h := HIN.out; rw [show k = n by omega, HN.out, List.take_length] at h; exact h)
      have HOF : Hid (outP ps = false) := hid (outP_false.2 HIR.out)
      obtain ⟨wi, hwi⟩ : ∃ wi, wi = wr := ⟨_, rfl⟩
      subst hwi
      clear hlt HIN
      by_cases hlong : (1024 : Int) < n
      · have HO : Hid (ofE ps = 2) := hid (ofE_long HOF.out (by have := HN.out; omega))
        have hld : decide ((1024 : Int) < n) = true := decide_eq_true hlong
        have hld2 : (1024 < n) = True := eq_true (by omega)
        clear hlong
        go_wp2_with fail
        go_ret2
        exact ⟨HBAD.out wi 2 HO.out (by decide), HB.out⟩
      have hld : decide ((1024 : Int) < n) = false := decide_eq_false hlong
      have hld2 : (1024 < n) = False := eq_false (by omega)
      have HSH : Hid (ps.length ≤ 1024) := hid (by have := HN.out; omega)
      clear hlong
      have HTWI := hid (HTW.out wi HB.out HIR.out)
      by_cases hnd : ps.Nodup
      · rw [decide_eq_true hnd] at HTWI
        have HO : Hid (ofE ps = 0) := hid (ofE_ok HOF.out HSH.out hnd)
        clear hnd
        go_wp2_with fail
        refine HTWI.out.mono ?_
        clear HTWI HTW
        rintro e w3 ⟨rfl, hb3⟩
        have HB3 : Hid (Below w.heap.size w w3) := hid (HB.out.trans (hb3.mono HB.out.size))
        clear hb3 HB
        go_wp2_with fail
        go_loopw [5, 6] (fun v i wr => ∃ k : Nat, k ≤ n ∧ i = .int .i64 (k : Int) ∧ wr.ownsRow w.heap.size 55 2 v (runX ps k).length (xcells (runX ps k)) ∧ Below w.heap.size w wr) (fun _ i _ => n - (intOf i).toNat)
        case atStart => exact ⟨0, Nat.zero_le _, rfl, World.ownsRow_nil _ _ _ _, HB3.out⟩
        case round =>
          clear HB3
          obtain ⟨k, hk, rfl, hv, hb⟩ := hrel
          have HV := hid hv
          have HB := hid hb
          clear hv hb
          have hrx := runX_at ps k (by have := HN.out; omega)
          have hrl := hrx.len
          by_cases hlt : (k : Int) < n
          · have hkn : (k < n) = True := eq_true (by omega)
            obtain ⟨b, o, rfl, hck⟩ := siCell (HS.out.below HB.out) (k := k) (by have := HN.out; omega)
            obtain ⟨x, hx⟩ : ∃ x, x = ps.getD k 0 := ⟨_, rfl⟩
            have HX := hid hx
            have hxin := HIR.out _ (memGetD (zs := ps) (d := 0) (k := k) (by have := HN.out; omega))
            rw [← hx] at hck hxin
            obtain ⟨hx1, hx2⟩ := hxin
            clear hx
            by_cases hcn : contAt ps k = true
            · have hcc := hcn
              unfold contAt at hcc
              simp only [Bool.and_eq_true, decide_eq_true_eq] at hcc
              obtain ⟨hk0, hce⟩ := hcc
              obtain ⟨j, rfl⟩ : ∃ j, k = j + 1 := ⟨k - 1, by omega⟩
              rw [Nat.add_sub_cancel] at hce
              obtain ⟨b', o', hab, hcj⟩ := siCell (HS.out.below HB.out) (k := j) (by have := HN.out; omega)
              cases hab
              obtain ⟨y, hy⟩ : ∃ y, y = ps.getD j 0 := ⟨_, rfl⟩
              rw [← hy] at hcj hce
              rw [← HX.out] at hce
              obtain ⟨l, xx, hlx, hxe, hxp⟩ := hrx.last hk0
              have HRX : Hid (runX ps (j + 1 + 1) = l ++ [(xx.1, xx.2 + 1)]) := hid (by
                conv => lhs; unfold runX
                rw [if_pos hcn, hlx, bumpX_snoc])
              obtain ⟨n2, hn2⟩ : ∃ n2, n2 = l.length + 1 := ⟨_, rfl⟩
              have hll : (runX ps (j + 1)).length = n2 := by rw [hlx, hn2]; simp
              rw [hll] at HV hrl
              rw [hlx] at HV
              obtain ⟨g, cap, hvs, hg⟩ : ∃ g cap, u5 = .slice (some ⟨g, 0, none⟩) n2 cap ∧ w.heap.size ≤ g := by
                rcases HV.out.2 with ⟨_, h0⟩ | ⟨g, cap, cur, h, hb, _⟩
                · omega
                · exact ⟨g, cap, h, hb⟩
              subst hvs
              obtain ⟨p, hp⟩ : ∃ p, p = l.length := ⟨_, rfl⟩
              have hpn : (n2 : Int) - 1 = (p : Int) := by omega
              have hpn2 : (p : Int) < n2 := by omega
              have hn2b : (n2 : Int) ≤ 65537 := by omega
              obtain ⟨x1, hx1e⟩ : ∃ x1, x1 = xx.2 := ⟨_, rfl⟩
              have hxb : 1 ≤ x1 ∧ x1 ≤ 65537 := by
                have h1 : ∀ z ∈ pagesX (runX ps (j + 1)), 2 ≤ z ∧ z ≤ 2047 := fun z hz => HIR.out z (by rw [hrx.pages] at hz; exact List.mem_of_mem_take hz)
                have h2 : ∀ z ∈ pagesX1 xx, 2 ≤ z ∧ z ≤ 2047 := fun z hz => h1 z (by rw [hlx, pagesX_snoc]; exact List.mem_append.2 (.inr hz))
                have h3 := h2 xx.1 (partX_mem.2 (by omega))
                have h4 := h2 (xx.1 + xx.2 - 1) (partX_mem.2 (by omega))
                omega
              have HL2 : Hid ((l ++ [(xx.1, xx.2 + 1)]).length = n2) := hid (by rw [hn2]; simp)
              have hkj : ((j + 1 : Nat) : Int) - 1 = (j : Int) := by omega
              have hjn2 : (j : Int) < (n : Int) := by omega
              have hjn : (j < n) = True := eq_true (by omega)
              have hjc : ((j + 1 : Nat) : Int) = (j : Int) + 1 := by omega
              have hjn3 : (j : Int) + 1 < (n : Int) := by omega
              have hj0 : (0 < j + 1) = True := eq_true (by omega)
              have hj0i : decide ((0 : Int) < (j : Int) + 1) = true := decide_eq_true (by omega)
              have hyx : (y + 1 == x) = true := by rw [beq_iff_eq]; exact hce
              have hyb : y + 1 ≤ 2047 ∧ 1 ≤ y := by omega
              have HP := hid hp
              have HX1 := hid hx1e
              have HG := hid hg
              clear hcn hce hy hlx hxe hxp hll hn2 hp hx1e hrx hk0 hg
              go_wp2_with fail
              go_quiet (fail)
              have HBQ : Hid (Below wr.heap.size wr (wr.drewN nq)) := hid (belowDrew wr nq)
              have HVQ : Hid ((wr.drewN nq).ownsRow w.heap.size 55 2 (.slice (some ⟨g, 0, none⟩) n2 cap) n2 (xcells (l ++ [xx]))) := hid (owns_mv (F := fun _ => False) HV.out (Mv.of_below HBQ.out) fun _ _ => id)
              have HBB : Hid (Below w.heap.size w (wr.drewN nq)) := hid (HB.out.trans (HBQ.out.mono HB.out.size))
              generalize wr.drewN nq = wq at *
              clear hck hcj HV HB HBQ
              have hcell : wq.cell? ⟨g, p * 2 + 1, none⟩ = some (.int .i64 x1) := by
                have h := HVQ.out.cells (g := g) rfl (p * 2 + 1) (.int .i64 x1) (by
                  rw [HP.out, HX1.out, (xcells_get (l ++ [xx]) l.length (by simp)).2, getD_last])
                rw [Addr.add_lit] at h
                simpa only [Nat.zero_add] using h
              have hfz := HVQ.out.frozenAt (p * 2 + 1)
              have HV3 : Hid ((wq.setCell ⟨g, p * 2 + 1, none⟩ (.int .i64 (x1 + 1))).ownsRow w.heap.size 55 2 (.slice (some ⟨g, 0, none⟩) n2 cap) n2 (xcells (l ++ [(xx.1, xx.2 + 1)]))) := hid (by
                have h := (HVQ.out.stored (p * 2 + 1) (.int .i64 (x1 + 1))).1
                rw [HP.out, HX1.out, xcells_bump] at h
                rw [HP.out, HX1.out]
                exact h)
              have HB3 : Hid (Below w.heap.size w (wq.setCell ⟨g, p * 2 + 1, none⟩ (.int .i64 (x1 + 1)))) := hid (HBB.out.setCell (p := ⟨g, p * 2 + 1, none⟩) HG.out _)
              clear HVQ HBB
              go_wp2_with fail
              go_roundw
              case rel => exact ⟨j + 1 + 1, of_eq_true hkn, by go_num, by rw [HRX.out, HL2.out]; exact HV3.out, HB3.out⟩
              case measure => simp [intOf]; omega
            · have hcf : contAt ps k = false := by simpa using hcn
              have HRX := hid (runX_new hcf)
              rw [← HX.out] at HRX
              obtain ⟨L, hL⟩ : ∃ L, L = (runX ps k).length := ⟨_, rfl⟩
              have HLL := hid hL
              rw [← hL] at HV hrl
              have hLb : (L : Int) ≤ 65536 := by omega
              by_cases hk0 : 0 < k
              · obtain ⟨j, rfl⟩ : ∃ j, k = j + 1 := ⟨k - 1, by omega⟩
                obtain ⟨b', o', hab, hcj⟩ := siCell (HS.out.below HB.out) (k := j) (by have := HN.out; omega)
                cases hab
                obtain ⟨y, hy⟩ : ∃ y, y = ps.getD j 0 := ⟨_, rfl⟩
                have hyin := HIR.out _ (memGetD (zs := ps) (d := 0) (k := j) (by have := HN.out; omega))
                have hce : ¬ (y + 1 = x) := fun e => by
                  unfold contAt at hcf
                  rw [decide_eq_true hk0, Bool.true_and, decide_eq_false_iff_not, Nat.add_sub_cancel, ← hy, ← HX.out] at hcf
                  exact hcf e
                rw [← hy] at hcj hyin
                have hkj : ((j + 1 : Nat) : Int) - 1 = (j : Int) := by omega
                have hjn2 : (j : Int) < (n : Int) := by omega
                have hjn : (j < n) = True := eq_true (by omega)
                have hjc : ((j + 1 : Nat) : Int) = (j : Int) + 1 := by omega
                have hjn3 : (j : Int) + 1 < (n : Int) := by omega
                have hj0 : (0 < j + 1) = True := eq_true (by omega)
                have hj0i : decide ((0 : Int) < (j : Int) + 1) = true := decide_eq_true (by omega)
                have hyx : (y + 1 == x) = false := by rw [beq_eq_false_iff_ne]; exact hce
                have hyb : y + 1 ≤ 2048 ∧ 1 ≤ y := by omega
                clear hcn hcf hce hy hyin hrx hk0 hL
                go_wp2_with fail
                go_quiet (fail)
                have HBQ : Hid (Below wr.heap.size wr (wr.drewN nq)) := hid (belowDrew wr nq)
                have HVQ : Hid ((wr.drewN nq).ownsRow w.heap.size 55 2 u5 L (xcells (runX ps (j + 1)))) := hid (owns_mv (F := fun _ => False) HV.out (Mv.of_below HBQ.out) fun _ _ => id)
                have HBB : Hid (Below w.heap.size w (wr.drewN nq)) := hid (HB.out.trans (HBQ.out.mono HB.out.size))
                have hck' := (HBQ.out.cell (cell_lt hck)).trans hck
                generalize wr.drewN nq = wq at *
                clear hck HV HB HBQ
                go_wp2_with (refine wpList_append_own _ rfl (.tmp 61) (.tmp 67) 27 rfl w.heap.size 55 i0 (.agg #[.int .i64 0, .int .i64 0]) 2 16 Try.underlying27 HI.out.1 HI.out.2.1 HI.out.2.2.1 HI.out.2.2.2 rfl (by decide) _ L (xcells (runX ps (j + 1))) rfl (HVQ.out.alloc _) ⟨wq.heap.size, 0, none⟩ 1 1 [.int .i64 x, .int .i64 1] rfl rfl (newCells wq [.int .i64 x, .int .i64 1] _) (by simp [Value.oneCell']) (by unfold maxLen; omega) (by omega) (by have := HBB.out.size; simp; omega) ?_)
                intro v4 w4 hv4 hg4 _
                have HB4 : Hid (Below w.heap.size w w4) := hid (below_owned (w0 := w) (HBB.out.alloc HBB.out.size _) (HVQ.out.alloc _) (Nat.le_refl _) hg4)
                have HV4 : Hid (w4.ownsRow w.heap.size 55 2 v4 (runX ps (j + 1 + 1)).length (xcells (runX ps (j + 1 + 1)))) := hid (by rw [HRX.out, xcells_app, List.length_append, ← HLL.out]; exact hv4)
                clear hv4 hg4 HVQ HBB
                go_wp2_with fail
                go_roundw
                case rel => exact ⟨j + 1 + 1, of_eq_true hkn, by go_num, HV4.out, HB4.out⟩
                case measure => have := of_eq_true hkn; simp [intOf]; omega
              · have hk00 : k = 0 := by omega
                subst hk00
                clear hcn hcf hrx hk0 hL
                go_wp2_with fail
                try go_quiet (fail)
                have HBQ : Hid (Below wr.heap.size wr (wr.drewN nq)) := hid (belowDrew wr nq)
                have HVQ : Hid ((wr.drewN nq).ownsRow w.heap.size 55 2 u5 L (xcells (runX ps (0)))) := hid (owns_mv (F := fun _ => False) HV.out (Mv.of_below HBQ.out) fun _ _ => id)
                have HBB : Hid (Below w.heap.size w (wr.drewN nq)) := hid (HB.out.trans (HBQ.out.mono HB.out.size))
                have hck' := (HBQ.out.cell (cell_lt hck)).trans hck
                generalize wr.drewN nq = wq at *
                clear hck HV HB HBQ
                have hck2 : wq.cell? ⟨b, o, none⟩ = some (.int .i64 x) := hck'
                clear hck'
                go_wp2_with (refine wpList_append_own _ rfl (.tmp 61) (.tmp 67) 27 rfl w.heap.size 55 i0 (.agg #[.int .i64 0, .int .i64 0]) 2 16 Try.underlying27 HI.out.1 HI.out.2.1 HI.out.2.2.1 HI.out.2.2.2 rfl (by decide) _ L (xcells (runX ps (0))) rfl (HVQ.out.alloc _) ⟨wq.heap.size, 0, none⟩ 1 1 [.int .i64 x, .int .i64 1] rfl rfl (newCells wq [.int .i64 x, .int .i64 1] _) (by simp [Value.oneCell']) (by unfold maxLen; omega) (by omega) (by have := HBB.out.size; simp; omega) ?_)
                intro v4 w4 hv4 hg4 _
                have HB4 : Hid (Below w.heap.size w w4) := hid (below_owned (w0 := w) (HBB.out.alloc HBB.out.size _) (HVQ.out.alloc _) (Nat.le_refl _) hg4)
                have HV4 : Hid (w4.ownsRow w.heap.size 55 2 v4 (runX ps (0 + 1)).length (xcells (runX ps (0 + 1)))) := hid (by rw [HRX.out, xcells_app, List.length_append, ← HLL.out]; exact hv4)
                clear hv4 hg4 HVQ HBB
                go_wp2_with fail
                go_roundw
                case rel => exact ⟨0 + 1, of_eq_true hkn, by go_num, HV4.out, HB4.out⟩
                case measure => have := of_eq_true hkn; simp [intOf]; omega
          · have hkf : (k < n) = False := eq_false (by omega)
            have HKN : Hid (k = n) := hid (by omega)
            clear hlt hrx
            go_wp2_with fail
            go_ret2
            have e : ofX ps = runX ps ps.length := if_pos HO.out
            refine ⟨⟨_, by rw [HO.out]; rfl, ?_⟩, HB.out⟩
            have h := HV.out
            rw [HKN.out, HN.out] at h
            rw [e]
            exact h
      · rw [decide_eq_false hnd] at HTWI
        have HO : Hid (ofE ps = 8) := hid (ofE_twice HOF.out HSH.out hnd)
        clear hnd
        go_wp2_with fail
        refine HTWI.out.mono ?_
        clear HTWI
        rintro e w3 ⟨rfl, hb3⟩
        have HB3 : Hid (Below w.heap.size w w3) := hid (HB.out.trans (hb3.mono HB.out.size))
        clear hb3
        go_wp2_with fail
        go_ret2
        exact ⟨HBAD.out w3 8 HO.out (by decide), HB3.out⟩
end Go.Proofs.Ytlfpepkgnobjnaa
