/- CONTRACTS: Runs. -/
import Derived.Test.YtpdkfmanehgabaaDoorBmL
namespace Go.Proofs.YtpdkfmanehgabaaDoor
open Go.RowKit Go.Inc

theorem runsTo_out {f : Nat → Bool} {k : Nat} (h : f k = false) : runsTo f (k + 1) = runsTo f k := by
  conv => lhs; unfold runsTo
  rw [if_neg (by rw [h]; decide)]
theorem runsTo_new {f : Nat → Bool} {k : Nat} (h : f k = true) (hp : ¬ (0 < k ∧ f (k - 1) = true)) : runsTo f (k + 1) = runsTo f k ++ [(k, 1)] := by
  conv => lhs; unfold runsTo
  rw [if_pos h, if_neg hp]
theorem runsTo_more {f : Nat → Bool} {k : Nat} (h : f k = true) (hp : 0 < k ∧ f (k - 1) = true) : ∃ l' x, runsTo f k = l' ++ [x] ∧ runsTo f (k + 1) = l' ++ [(x.1, x.2 + 1)] ∧ x.1 + x.2 = k := by
  obtain ⟨l', x, hl, hx⟩ := (runs_at f k).last hp
  refine ⟨l', x, hl, ?_, hx⟩
  conv => lhs; unfold runsTo
  rw [if_pos h, if_pos hp, hl, bump_snoc]
/-- Runs as cells. -/
def rcells : List Run2 → List Value
  | [] => []
  | x :: r => .int .i64 (x.1 : Int) :: .int .i64 (x.2 : Int) :: rcells r
theorem rcells_append : ∀ a b, rcells (a ++ b) = rcells a ++ rcells b
  | [], _ => rfl
  | x :: r, b => by simp only [List.cons_append, rcells, rcells_append r b]
theorem rcells_len : ∀ l, (rcells l).length = l.length * 2
  | [] => rfl
  | x :: r => by simp only [rcells, List.length_cons, rcells_len r]; omega
theorem rcells_one : ∀ l, ∀ u ∈ rcells l, u.oneCell' = true
  | [], u, h => by cases h
  | x :: r, u, h => by
    simp only [rcells, List.mem_cons] at h
    rcases h with rfl | rfl | h
    · rfl
    · rfl
    · exact rcells_one r u h
theorem rcells_get : ∀ (l : List Run2) (i : Nat), i < l.length → (rcells l)[2 * i]? = some (.int .i64 ((l.getD i (0, 0)).1 : Int)) ∧ (rcells l)[2 * i + 1]? = some (.int .i64 ((l.getD i (0, 0)).2 : Int))
  | [], i, h => by simp at h
  | x :: r, 0, _ => ⟨rfl, rfl⟩
  | x :: r, i + 1, h => by
    have := rcells_get r i (by simpa using h)
    rw [show 2 * (i + 1) = 2 * i + 1 + 1 from by omega]
    simp only [rcells, List.getElem?_cons_succ]
    exact this
theorem rcells_bump (l : List Run2) (x : Run2) : (rcells (l ++ [x])).set (2 * l.length + 1) (.int .i64 ((x.2 + 1 : Nat) : Int)) = rcells (l ++ [(x.1, x.2 + 1)]) := by
  rw [rcells_append, rcells_append, List.set_append, if_neg (by rw [rcells_len]; omega), rcells_len, show 2 * l.length + 1 - l.length * 2 = 1 from by omega]
  rfl
theorem two_new (w : World) (x y : Value) (T : TypeId) : ∀ j u, [x, y][j]? = some u → (w.alloc (.cells #[x, y] T)).cell? ((⟨w.heap.size, 0, none⟩ : Addr).add j) = some u := by
  intro j u hu
  rw [Addr.add_lit, cell_of_row _ _ _ _ _ _ (heap_alloc_new w _)]
  match j, hu with
  | 0, hu => simpa using hu
  | 1, hu => simpa using hu
  | j + 2, hu => simp at hu
theorem infoRun : (Tryd.prog.info? 62).map (fun i => (i.zero, i.size, i.bytes)) = some (some (.agg #[.int .i64 0, .int .i64 0]), 2, 16) := by kernel_rfl
set_option maxRecDepth 20000 in
set_option maxHeartbeats 2000000 in
theorem runs_any (ok : Nat → Prop) (v : Value) (m : List Bool) (w : World) (h : Bm ok w v m) :
    Calls Tryd.prog 29 #[v] w fun e w' => (∃ x, e = .returned x ∧ w'.ownsRow w.heap.size 62 2 x (runsTo (inB m) m.length).length (rcells (runsTo (inB m) m.length))) ∧ Below w.heap.size w w' := by
  obtain ⟨i0, hi, hz0, hz1, hz2⟩ := info_parts infoRun
  have HI := hid (And.intro hi (And.intro hz0 (And.intro hz1 hz2)))
  have HB0 := hid h
  obtain ⟨S, hS⟩ : ∃ S, S = m.length := ⟨_, rfl⟩
  have HS := hid hS
  have hs2 : (S : Int) ≤ 2048 := by have := h.len; omega
  have HH : Hid (∀ (z : World) (no : Int), Below w.heap.size w z → Calls Tryd.prog 26 #[v, .int .i64 no] z fun e w' => e = .returned (.bool (hasB m no)) ∧ Below z.heap.size z w') := hid fun z no hz => has_any ok v m no z (h.below hz)
  have HSZ : Hid (∀ z, Below w.heap.size w z → Calls Tryd.prog 9 #[v] z fun e w' => e = .returned (.int .i64 (S : Int)) ∧ z = w') := hid fun z hz => by rw [hS]; exact size_any ok v m z (h.below hz)
  rw [← hS]
  clear h hi hz0 hz1 hz2 hS
  go_enter Tryd.func29, Tryd.ntmps29
  go_wp2_with fail
  go_step3
  go_wp2_with fail
  go_step3
  go_wp2_with fail
  go_loopw [3, 4] (fun l i wr => ∃ k : Nat, k ≤ S ∧ i = .int .i64 (k : Int) ∧ wr.ownsRow w.heap.size 62 2 l (runsTo (inB m) k).length (rcells (runsTo (inB m) k)) ∧ Below w.heap.size w wr) (fun _ i _ => S + 1 - (intOf i).toNat)
  case atStart => exact ⟨0, Nat.zero_le _, rfl, World.ownsRow_nil _ _ _ _, Below.refl _ _⟩
  case round =>
    obtain ⟨k, hk, rfl, hv, hb⟩ := hrel
    have HV := hid hv
    have HB := hid hb
    have HH1 := hid (HH.out wr k hb)
    clear hv hb
    have hrl := runs_len (inB m) k
    cases hin : inB m k
    · have HT : Hid (runsTo (inB m) (k + 1) = runsTo (inB m) k) := hid (runsTo_out hin)
      have hhas : hasB m (k : Int) = false := by rw [hasB_nat, hin]
      rw [hhas] at HH1
      have HIN := hid hin
      clear hin hhas
      go_wp2_with fail
      refine HH1.out.mono ?_
      clear HH1
      rintro e w1 ⟨rfl, hb1⟩
      have HB1 : Hid (Below w.heap.size w w1) := hid (HB.out.trans (hb1.mono HB.out.size))
      have HV1 : Hid (w1.ownsRow _ _ _ _ _ _) := hid (owns_mv (F := fun _ => False) HV.out (Mv.of_below hb1) (fun _ _ => id))
      have HH2 := hid (HH.out w1 k HB1.out)
      rw [show hasB m (k : Int) = false from by rw [hasB_nat, HIN.out]] at HH2
      clear hb1 HB HV
      go_wp2_with fail
      refine HH2.out.mono ?_
      clear HH2
      rintro e w2 ⟨rfl, hb2⟩
      have HB2 : Hid (Below w.heap.size w w2) := hid (HB1.out.trans (hb2.mono HB1.out.size))
      have HV2 : Hid (w2.ownsRow _ _ _ _ _ _) := hid (owns_mv (F := fun _ => False) HV1.out (Mv.of_below hb2) (fun _ _ => id))
      have HS2 := hid (HSZ.out w2 HB2.out)
      clear hb2 HB1 HV1
      by_cases hks : k < S
      · have hks2 : (S ≤ k) = False := eq_false (by omega)
        go_wp2_with fail
        refine HS2.out.mono ?_
        rintro e w3 ⟨rfl, rfl⟩
        go_wp2_with fail
        go_roundw
        case rel => exact ⟨k + 1, by omega, by go_num, by rw [HT.out]; exact HV2.out, HB2.out⟩
        case measure => simp [intOf]; omega
      · have HKE : Hid (k = S) := hid (by omega)
        have hks2 : (S ≤ k) = True := eq_true (by omega)
        clear hks
        go_wp2_with fail
        refine HS2.out.mono ?_
        rintro e w3 ⟨rfl, rfl⟩
        go_wp2_with fail
        rw [Exit.noGoto_ret]
        go_ret
        exact ⟨⟨_, rfl, by rw [← HKE.out]; exact HV2.out⟩, HB2.out⟩
    · have hkS : k < S := by have := inB_lt hin; have := HS.out; omega
      have hhas : hasB m (k : Int) = true := by rw [hasB_nat, hin]
      rw [hhas] at HH1
      have HHAS := hid hhas
      cases hp : hasB m ((k : Int) - 1)
      · have HP := hid hp
        have hnp : ¬ (0 < k ∧ inB m (k - 1) = true) := by
          rintro ⟨h0, h1⟩
          have e := hasB_nat m (k - 1)
          rw [h1, show ((k - 1 : Nat) : Int) = (k : Int) - 1 from by omega, hp] at e
          cases e
        have HT := hid (runsTo_new hin hnp)
        clear hin hhas hp hnp
        go_wp2_with fail
        refine HH1.out.mono ?_
        clear HH1
        rintro e w1 ⟨rfl, hb1⟩
        have HB1 : Hid (Below w.heap.size w w1) := hid (HB.out.trans (hb1.mono HB.out.size))
        have HV1 : Hid (w1.ownsRow _ _ _ _ _ _) := hid (owns_mv (F := fun _ => False) HV.out (Mv.of_below hb1) (fun _ _ => id))
        have HH2 := hid (HH.out w1 ((k : Int) - 1) HB1.out)
        rw [HP.out] at HH2
        clear hb1 HB HV
        go_wp2_with fail
        refine HH2.out.mono ?_
        clear HH2
        rintro e w2 ⟨rfl, hb2⟩
        have HB2 : Hid (Below w.heap.size w w2) := hid (HB1.out.trans (hb2.mono HB1.out.size))
        have HV2 : Hid (w2.ownsRow _ _ _ _ _ _) := hid (owns_mv (F := fun _ => False) HV1.out (Mv.of_below hb2) (fun _ _ => id))
        have HH3 := hid (HH.out w2 k HB2.out)
        rw [HHAS.out] at HH3
        clear hb2 HB1 HV1
        go_wp2_with fail
        refine HH3.out.mono ?_
        clear HH3
        rintro e w3 ⟨rfl, hb3⟩
        have HB3 : Hid (Below w.heap.size w w3) := hid (HB2.out.trans (hb3.mono HB2.out.size))
        have HV3 : Hid (w3.ownsRow _ _ _ _ _ _) := hid (owns_mv (F := fun _ => False) HV2.out (Mv.of_below hb3) (fun _ _ => id))
        clear hb3 HB2 HV2
        go_wp2_with (refine wpList_append_own _ rfl (.tmp 31) (.tmp 34) 54 rfl w.heap.size 62 i0 _ 2 16 Tryd.underlying54 HI.out.1 HI.out.2.1 HI.out.2.2.1 HI.out.2.2.2 rfl (by decide) _ _ _ rfl (HV3.out.alloc _) ⟨w3.heap.size, 0, none⟩ 1 1 [.int .i64 (k : Int), .int .i64 1] rfl rfl (two_new w3 _ _ _) (by simp [Value.oneCell']) (by unfold maxLen; omega) (by omega) (by have := HB3.out.size; simp; omega) ?_)
        intro v4 w4 hv4 hg4 _
        have HB4 : Hid (Below w.heap.size w w4) := hid (below_owned (w0 := w) (HB3.out.alloc HB3.out.size _) (HV3.out.alloc _) (Nat.le_refl _) hg4)
        have HV4 : Hid (w4.ownsRow w.heap.size 62 2 v4 (runsTo (inB m) (k + 1)).length (rcells (runsTo (inB m) (k + 1)))) := hid (by rw [HT.out, rcells_append, List.length_append]; exact hv4)
        clear hv4 hg4 HV3 HB3
        go_wp2_with fail
        go_roundw
        case rel => exact ⟨k + 1, by omega, by go_num, HV4.out, HB4.out⟩
        case measure => simp [intOf]; omega
      · have h0 : 0 < k ∧ inB m (k - 1) = true := by
          have h0 : (0 : Int) ≤ (k : Int) - 1 := by
            unfold hasB at hp
            simp only [Bool.and_eq_true, decide_eq_true_eq] at hp
            exact hp.1
          refine ⟨by omega, ?_⟩
          have e := hasB_nat m (k - 1)
          rw [show ((k - 1 : Nat) : Int) = (k : Int) - 1 from by omega, hp] at e
          exact e.symm
        obtain ⟨l', x, hl, hl2, hx⟩ := runsTo_more hin h0
        have HP := hid hp
        have HT := hid hl2
        have HL := hid hl
        have hxk : (x.2 : Int) ≤ k := by omega
        obtain ⟨g, cap, hvs, hg⟩ : ∃ g cap, u3 = .slice (some ⟨g, 0, none⟩) ((l'.length + 1 : Nat) : Int).toNat cap ∧ w.heap.size ≤ g := by
          have h := HV.out
          rw [hl] at h
          rcases h.2 with ⟨_, h0⟩ | ⟨g, cap, cur, rfl, hb, _⟩
          · simp at h0
          · exact ⟨g, cap, by simp, hb⟩
        rw [Int.toNat_natCast] at hvs
        subst hvs
        obtain ⟨n, hn⟩ : ∃ n, n = l'.length + 1 := ⟨_, rfl⟩
        obtain ⟨p, hp'⟩ : ∃ p, p = l'.length := ⟨_, rfl⟩
        have HPL := hid hp'
        have hpn : (n : Int) - 1 = (p : Int) := by omega
        have hpn2 : (p : Int) < n := by omega
        have hn2 : (n : Int) ≤ 2048 := by rw [hl] at hrl; simp at hrl; omega
        rw [← hn] at HV ⊢
        have HVN : Hid (wr.ownsRow w.heap.size 62 2 (.slice (some ⟨g, 0, none⟩) n cap) n (rcells (l' ++ [x]))) := hid (by
          have h := HV.out
          rw [hl] at h
          rw [hn]
          simpa [hn] using h)
        obtain ⟨x1, hx1⟩ : ∃ x1, x1 = x.2 := ⟨_, rfl⟩
        have HX1 := hid hx1
        rw [← hx1] at hxk
        clear hin hhas hp h0 hl hl2 HV hn hp' hx hx1
        go_wp2_with fail
        refine HH1.out.mono ?_
        clear HH1
        rintro e w1 ⟨rfl, hb1⟩
        have HB1 : Hid (Below w.heap.size w w1) := hid (HB.out.trans (hb1.mono HB.out.size))
        have HV1 : Hid (w1.ownsRow _ _ _ _ _ _) := hid (owns_mv (F := fun _ => False) HVN.out (Mv.of_below hb1) (fun _ _ => id))
        have HH2 := hid (HH.out w1 ((k : Int) - 1) HB1.out)
        rw [HP.out] at HH2
        clear hb1 HB HVN
        go_wp2_with fail
        refine HH2.out.mono ?_
        clear HH2
        rintro e w2 ⟨rfl, hb2⟩
        have HB2 : Hid (Below w.heap.size w w2) := hid (HB1.out.trans (hb2.mono HB1.out.size))
        have HV2 : Hid (w2.ownsRow _ _ _ _ _ _) := hid (owns_mv (F := fun _ => False) HV1.out (Mv.of_below hb2) (fun _ _ => id))
        clear hb2 HB1 HV1
        have hcell : w2.cell? ⟨g, p * 2 + 1, none⟩ = some (.int .i64 (x1 : Int)) := by
          have h := HV2.out.cells (g := g) rfl (p * 2 + 1) (.int .i64 (x1 : Int)) (by
            rw [HPL.out, HX1.out, Nat.mul_comm, (rcells_get (l' ++ [x]) l'.length (by simp)).2, getD_snoc, if_neg (by omega), if_pos rfl])
          rw [Addr.add_lit] at h
          simpa only [Nat.zero_add] using h
        have hfz := HV2.out.frozenAt (p * 2 + 1)
        have HV3 : Hid ((w2.setCell ⟨g, p * 2 + 1, none⟩ (.int .i64 ((x1 : Int) + 1))).ownsRow w.heap.size 62 2 (.slice (some ⟨g, 0, none⟩) n cap) (runsTo (inB m) (k + 1)).length (rcells (runsTo (inB m) (k + 1)))) := hid (by
          have h := (HV2.out.stored (p * 2 + 1) (.int .i64 ((x1 + 1 : Nat) : Int))).1
          rw [Nat.mul_comm p 2] at h
          rw [HT.out, Nat.mul_comm p 2, HPL.out, ← rcells_bump]
          rw [HPL.out, HX1.out] at h
          rw [HX1.out]
          have e : (l' ++ [(x.1, x.2 + 1)]).length = n := by have := HV2.out.1; rw [rcells_len] at this; simp at this ⊢; omega
          rw [e]
          exact h)
        have HB3 : Hid (Below w.heap.size w (w2.setCell ⟨g, p * 2 + 1, none⟩ (.int .i64 ((x1 : Int) + 1)))) := hid (HB2.out.setCell (p := ⟨g, p * 2 + 1, none⟩) hg _)
        clear HV2 HB2
        go_wp2_with fail
        go_roundw
        case rel => exact ⟨k + 1, by omega, by go_num, HV3.out, HB3.out⟩
        case measure => simp [intOf]; omega
end Go.Proofs.YtpdkfmanehgabaaDoor
