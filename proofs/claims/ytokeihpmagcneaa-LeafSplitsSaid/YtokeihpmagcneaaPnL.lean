/- CONTRACTS: two nodes as one. -/
import Derived.Test.YtokeihpmagcneaaPnK
namespace Go.Inc
open Go.RowKit
theorem badN_app {es fs : List Et} (h : badN es = false) (h2 : badN fs = false) : badN (es ++ fs) = false := by
  rw [badN_false] at *
  intro e he
  rcases List.mem_append.1 he with h3 | h3
  · exact h e h3
  · exact h2 e h3
theorem mg_fall {lf mf : Bool} {es fs : List Et} (h : chkN lf es = 0) (h2 : chkN mf fs = 0) (h3 : lf = mf) (h4 : (es ++ fs).length ≤ 16) (h5 : fallN (es ++ fs) = true) : mgE lf es mf fs = 3 := by
  subst h3
  rw [mg_e h h2 h4]
  exact chkN_fall h4 (badN_app (chkN_zero h).2.1 (chkN_zero h2).2.1) h5
theorem mg_ok {lf mf : Bool} {es fs : List Et} (h : chkN lf es = 0) (h2 : chkN mf fs = 0) (h3 : lf = mf) (h4 : (es ++ fs).length ≤ 16) (h5 : fallN (es ++ fs) = false) : mgE lf es mf fs = 0 := by
  subst h3
  rw [mg_e h h2 h4]
  refine chkN_ok h4 (badN_app (chkN_zero h).2.1 (chkN_zero h2).2.1) h5 fun h6 => ?_
  exact (chkN_zero h).2.2.2 ⟨h6.1, (List.append_eq_nil_iff.1 h6.2).1⟩
theorem mg_full {lf mf : Bool} {es fs : List Et} (h : chkN lf es = 0) (h2 : chkN mf fs = 0) (h3 : lf = mf) (h4 : 16 < (es ++ fs).length) : mgE lf es mf fs = 6 := by
  subst h3
  exact mg_d h h2 h4
end Go.Inc
namespace Go.Proofs.Ytokeihpmagcneaa
open Go.RowKit Go.Inc

theorem resMG (w : World) (g : Nat) (cs : Array Value) (tmps : Array Value) (h2 : tmps.getD 4 undef = .pointer (some ⟨g, 0, none⟩)) (hg : w.heap[g]? = some (.cells cs 27 (0, 0))) (hs : cs.size = 2) :
    (results Try.f31 tmps).run Try.prog w = .ok (.tuple #[.agg cs, tmps.getD 5 undef]) w :=
  res_cell_tmp2 rfl tmps w g 27 cs (0, 0) _ h2 hg Try.underlying27 rfl (by rw [hs]; kernel_rfl)
set_option maxRecDepth 20000 in
set_option maxHeartbeats 8000000 in
theorem merge_any (a b : Option Addr) (n m c d : Nat) (lf mf : Bool) (es fs : List Et) (w : World) (hnd : NdOk w a n c es) (hnd2 : NdOk w b m d fs) :
    Calls Try.prog 31 #[.agg #[.bool lf, .slice a n c], .agg #[.bool mf, .slice b m d]] w fun e w' => (∃ v, e = .returned (.tuple #[v, .int .i64 (mgE lf es mf fs)]) ∧ NdF v ∧ (mgE lf es mf fs = 0 → NdV w' v lf (es ++ fs))) ∧ Below w.heap.size w w' := by
  obtain ⟨g, hg⟩ : ∃ g, g = w.heap.size := ⟨_, rfl⟩
  have HG := hid hg
  obtain ⟨w0, hw0⟩ : ∃ w0, w0 = (((w.alloc (.cells #[.bool lf, .slice a n c] 27)).alloc (.cells #[.bool mf, .slice b m d] 27)).alloc (.cells #[.bool false, .slice none 0 0] 27)) := ⟨_, rfl⟩
  have HB0 : Hid (Below w.heap.size w w0) := hid (by rw [hw0]; exact (((Below.refl _ _).alloc (Nat.le_refl _) _).alloc (by simp) _).alloc (by simp; omega) _)
  have hx1 : w0.heap[g]? = some (.cells #[.bool lf, .slice a n c] 27 (0, 0)) := by rw [hw0, hg]; exact row_below (heap_alloc2_old w _ _) (allocBelow _ _)
  have hx2 : w0.heap[g + 1]? = some (.cells #[.bool mf, .slice b m d] 27 (0, 0)) := by rw [hw0, hg]; exact row_below (heap_alloc2_new w _ _) (allocBelow _ _)
  have hx3 : w0.heap[g + 1 + 1]? = some (.cells #[.bool false, .slice none 0 0] 27 (0, 0)) := by
    rw [hw0, hg]
    have h := heap_alloc_new ((w.alloc (.cells #[.bool lf, .slice a n c] 27)).alloc (.cells #[.bool mf, .slice b m d] 27)) (.cells #[.bool false, .slice none 0 0] 27)
    simpa using h
  have hsz : w0.heap.size = g + 1 + 1 + 1 := by rw [hw0, hg]; simp
  obtain ⟨w1, hw1⟩ : ∃ w1, w1 = w0.alloc (.cells #[.bool lf, .slice a n c, .bool mf, .slice b m d] 27) := ⟨_, rfl⟩
  have hb1 : Below w0.heap.size w0 w1 := by rw [hw1]; exact allocBelow w0 _
  have HB1 : Hid (Below w.heap.size w w1) := hid (HB0.out.trans (hb1.mono HB0.out.size))
  have HX1 := hid (row_below hx1 hb1)
  have HX2 := hid (row_below hx2 hb1)
  have HX3 := hid (row_below hx3 hb1)
  have HX4 : Hid (w1.heap[g + 1 + 1 + 1]? = some (.cells #[.bool lf, .slice a n c, .bool mf, .slice b m d] 27 (0, 0))) := hid (by rw [hw1, ← hsz]; exact heap_alloc_new w0 _)
  have HND := hid hnd
  have HND2 := hid hnd2
  have HW0 := hid hw0
  have HW1 := hid hw1
  obtain ⟨FF, hF⟩ : ∃ F, F = mgE lf es mf fs := ⟨_, rfl⟩
  have HF := hid hF
  rw [← hF]
  have hc0 : w0.cell? ⟨g, 0, none⟩ = some (.bool lf) := by rw [cell_of_row _ _ _ _ _ _ hx1]; rfl
  have hc1 : w0.cell? ⟨g, 1, none⟩ = some (.slice a n c) := by rw [cell_of_row _ _ _ _ _ _ hx1]; rfl
  have hc2 : w0.cell? ⟨g + 1, 0, none⟩ = some (.bool mf) := by rw [cell_of_row _ _ _ _ _ _ hx2]; rfl
  have hc3 : w0.cell? ⟨g + 1, 1, none⟩ = some (.slice b m d) := by rw [cell_of_row _ _ _ _ _ _ hx2]; rfl
  clear hnd hnd2 hg hw0 hw1 hF hx1 hx2 hx3 hb1 HB0
  go_enter Try.func31, Try.ntmps31
  go_upto_region 1 with fail
  rw [← HW0.out, ← HG.out]
  have HSZ := hid hsz
  clear hsz HW0
  go_wp2_with fail
  rw [← HW1.out, HSZ.out]
  clear HW1 HSZ hc0 hc1 hc2 hc3
  go_loopw [14] (fun i wr => ∃ k : Nat, i = .int .i64 (k : Int) ∧ (k = 0 ∨ k = 1 ∧ chkN lf es = 0 ∨ k = 2 ∧ chkN lf es = 0 ∧ chkN mf fs = 0) ∧ Below w1.heap.size w1 wr) (fun i _ => 2 - (intOf i).toNat)
  case atStart => exact ⟨0, rfl, .inl rfl, Below.refl _ _⟩
  case round =>
    obtain ⟨k, rfl, h3, hbr⟩ := hrel
    have HBR := hid hbr
    clear hbr
    rcases h3 with rfl | ⟨rfl, hp⟩ | ⟨rfl, hp, hq⟩
    · obtain ⟨w2, hw2⟩ : ∃ w2, w2 = wr.alloc (.cells #[.bool lf, .slice a n c] 27) := ⟨_, rfl⟩
      obtain ⟨g2, hg2⟩ : ∃ g2, g2 = wr.heap.size := ⟨_, rfl⟩
      have hb2 : Below wr.heap.size wr w2 := by rw [hw2]; exact allocBelow wr _
      have hx := row_below HX4.out HBR.out
      have hy : w2.heap[g2]? = some (.cells #[.bool lf, .slice a n c] 27 (0, 0)) := by rw [hw2, hg2]; exact heap_alloc_new wr _
      have hc0 : wr.cell? ⟨g + 1 + 1 + 1, 0, none⟩ = some (.bool lf) := by rw [cell_of_row _ _ _ _ _ _ hx]; rfl
      have hc1 : wr.cell? ⟨g + 1 + 1 + 1, 1, none⟩ = some (.slice a n c) := by rw [cell_of_row _ _ _ _ _ _ hx]; rfl
      have HW2 := hid hw2
      have HG2 := hid hg2
      have HBR2 : Hid (Below w1.heap.size w1 w2) := hid (HBR.out.trans (hb2.mono HBR.out.size))
      have HCK := hid (check_any a n c lf es w2 (HND.out.below (HB1.out.trans (HBR2.out.mono HB1.out.size))))
      obtain ⟨C, hC⟩ : ∃ C, C = chkN lf es := ⟨_, rfl⟩
      rw [← hC] at HCK
      have HC := hid hC
      clear hw2 hg2 hb2 hx hC HBR
      go_upto_region 4 with fail
      rw [← HW2.out, ← HG2.out]
      have hl0 : w2.cell? ⟨g2, 0, none⟩ = some (.bool lf) := by rw [cell_of_row _ _ _ _ _ _ hy]; rfl
      have hl1 : w2.cell? ⟨g2, 1, none⟩ = some (.slice a n c) := by rw [cell_of_row _ _ _ _ _ _ hy]; rfl
      clear hc0 hc1 HW2 hy
      go_wp2_with fail
      refine HCK.out.mono ?_
      clear HCK hl0 hl1
      rintro e w3 ⟨rfl, hb3⟩
      have HBR3 : Hid (Below w1.heap.size w1 w3) := hid (HBR2.out.trans (hb3.mono HBR2.out.size))
      clear hb3 HBR2
      by_cases hC0 : C = 0
      · have hcc : ((C : Int) != 0) = false := by rw [hC0]; rfl
        have hcc2 : (C = 0) = True := eq_true hC0
        have HC0 : Hid (chkN lf es = 0) := hid (HC.out.symm.trans hC0)
        clear hC0
        go_wp2_with fail
        go_roundw
        case rel => exact ⟨1, by go_num, .inr (.inl ⟨rfl, HC0.out⟩), HBR3.out⟩
        case measure => simp [intOf]
      · have hcc : ((C : Int) != 0) = true := by rw [bne_iff_ne]; exact hC0
        have hcc2 : (C = 0) = False := eq_false hC0
        have HFF : Hid (FF = C ∧ C ≠ 0) := hid ⟨HF.out.trans ((mg_a (by rw [← HC.out]; exact hC0)).trans HC.out.symm), hC0⟩
        have HX39 := hid (row_below HX3.out HBR3.out)
        have HB39 : Hid (Below w.heap.size w w3) := hid (HB1.out.trans (HBR3.out.mono HB1.out.size))
        clear hC0 HBR3
        go_wp2_with (refine wpList_store_own rfl 27 _ _ rfl (g + 1 + 1) #[.bool false, .slice none 0 0] rfl rfl 27 _ HX39.out (by kernel_rfl) rfl (by simp [Value.oneCell']) ?_)
        intro w9 hr9 hg9
        have HB9 : Hid (Below w.heap.size w w9) := hid (HB39.out.grown hg9 HB39.out.size fun k hk => by have := HG.out; cases hk; omega)
        have HR9 := hid hr9
        clear hr9 hg9
        go_wp2_with fail
        refine bodyPost_ret (v := .tuple #[.agg #[.bool false, .slice none 0 0], .int .i64 C]) (resMG _ _ #[.bool false, .slice none 0 0] _ rfl HR9.out rfl) rfl ⟨?_, HB9.out⟩
        rw [HFF.out.1]
        exact ⟨_, rfl, ndF_none, fun h => absurd h HFF.out.2⟩
    · have HP := hid hp
      clear hp
      obtain ⟨w2, hw2⟩ : ∃ w2, w2 = wr.alloc (.cells #[.bool mf, .slice b m d] 27) := ⟨_, rfl⟩
      obtain ⟨g2, hg2⟩ : ∃ g2, g2 = wr.heap.size := ⟨_, rfl⟩
      have hb2 : Below wr.heap.size wr w2 := by rw [hw2]; exact allocBelow wr _
      have hx := row_below HX4.out HBR.out
      have hy : w2.heap[g2]? = some (.cells #[.bool mf, .slice b m d] 27 (0, 0)) := by rw [hw2, hg2]; exact heap_alloc_new wr _
      have hc0 : wr.cell? ⟨g + 1 + 1 + 1, 2, none⟩ = some (.bool mf) := by rw [cell_of_row _ _ _ _ _ _ hx]; rfl
      have hc1 : wr.cell? ⟨g + 1 + 1 + 1, 3, none⟩ = some (.slice b m d) := by rw [cell_of_row _ _ _ _ _ _ hx]; rfl
      have HW2 := hid hw2
      have HG2 := hid hg2
      have HBR2 : Hid (Below w1.heap.size w1 w2) := hid (HBR.out.trans (hb2.mono HBR.out.size))
      have HCK := hid (check_any b m d mf fs w2 (HND2.out.below (HB1.out.trans (HBR2.out.mono HB1.out.size))))
      obtain ⟨C, hC⟩ : ∃ C, C = chkN mf fs := ⟨_, rfl⟩
      rw [← hC] at HCK
      have HC := hid hC
      clear hw2 hg2 hb2 hx hC HBR
      go_upto_region 4 with fail
      rw [← HW2.out, ← HG2.out]
      have hl0 : w2.cell? ⟨g2, 0, none⟩ = some (.bool mf) := by rw [cell_of_row _ _ _ _ _ _ hy]; rfl
      have hl1 : w2.cell? ⟨g2, 1, none⟩ = some (.slice b m d) := by rw [cell_of_row _ _ _ _ _ _ hy]; rfl
      clear hc0 hc1 HW2 hy
      go_wp2_with fail
      refine HCK.out.mono ?_
      clear HCK hl0 hl1
      rintro e w3 ⟨rfl, hb3⟩
      have HBR3 : Hid (Below w1.heap.size w1 w3) := hid (HBR2.out.trans (hb3.mono HBR2.out.size))
      clear hb3 HBR2
      by_cases hC0 : C = 0
      · have hcc : ((C : Int) != 0) = false := by rw [hC0]; rfl
        have hcc2 : (C = 0) = True := eq_true hC0
        have HC0 : Hid (chkN mf fs = 0) := hid (HC.out.symm.trans hC0)
        clear hC0
        go_wp2_with fail
        go_roundw
        case rel => exact ⟨2, by go_num, .inr (.inr ⟨rfl, HP.out, HC0.out⟩), HBR3.out⟩
        case measure => simp [intOf]
      · have hcc : ((C : Int) != 0) = true := by rw [bne_iff_ne]; exact hC0
        have hcc2 : (C = 0) = False := eq_false hC0
        have HFF : Hid (FF = C ∧ C ≠ 0) := hid ⟨HF.out.trans ((mg_b HP.out (by rw [← HC.out]; exact hC0)).trans HC.out.symm), hC0⟩
        have HX39 := hid (row_below HX3.out HBR3.out)
        have HB39 : Hid (Below w.heap.size w w3) := hid (HB1.out.trans (HBR3.out.mono HB1.out.size))
        clear hC0 HBR3
        go_wp2_with (refine wpList_store_own rfl 27 _ _ rfl (g + 1 + 1) #[.bool false, .slice none 0 0] rfl rfl 27 _ HX39.out (by kernel_rfl) rfl (by simp [Value.oneCell']) ?_)
        intro w9 hr9 hg9
        have HB9 : Hid (Below w.heap.size w w9) := hid (HB39.out.grown hg9 HB39.out.size fun k hk => by have := HG.out; cases hk; omega)
        have HR9 := hid hr9
        clear hr9 hg9
        go_wp2_with fail
        refine bodyPost_ret (v := .tuple #[.agg #[.bool false, .slice none 0 0], .int .i64 C]) (resMG _ _ #[.bool false, .slice none 0 0] _ rfl HR9.out rfl) rfl ⟨?_, HB9.out⟩
        rw [HFF.out.1]
        exact ⟨_, rfl, ndF_none, fun h => absurd h HFF.out.2⟩
    · have HP := hid (And.intro hp hq)
      clear hp hq
      have HB5 : Hid (Below w.heap.size w wr) := hid (HB1.out.trans (HBR.out.mono HB1.out.size))
      have hx1 := row_below HX1.out HBR.out
      have hx2 := row_below HX2.out HBR.out
      have HX15 := hid hx1
      have HX25 := hid hx2
      have HX35 := hid (row_below HX3.out HBR.out)
      have hc1 : wr.cell? ⟨g, 1, none⟩ = some (.slice a n c) := by rw [cell_of_row _ _ _ _ _ _ hx1]; rfl
      have hc3 : wr.cell? ⟨g + 1, 1, none⟩ = some (.slice b m d) := by rw [cell_of_row _ _ _ _ _ _ hx2]; rfl
      obtain ⟨w5, hw5⟩ : ∃ w5, w5 = wr.alloc (.cells #[.slice a n c, .slice b m d] 25) := ⟨_, rfl⟩
      obtain ⟨g5, hg5⟩ : ∃ g5, g5 = wr.heap.size := ⟨_, rfl⟩
      have hb5 : Below wr.heap.size wr w5 := by rw [hw5]; exact allocBelow wr _
      have hy5 : w5.heap[g5]? = some (.cells #[.slice a n c, .slice b m d] 25 (0, 0)) := by rw [hw5, hg5]; exact heap_alloc_new wr _
      have HB6 : Hid (Below w.heap.size w w5) := hid (HB5.out.trans (hb5.mono HB5.out.size))
      have HCN := hid (concat_any a b n m c d g5 es fs w5 25 hy5 (HND.out.below HB6.out).2.1 (HND2.out.below HB6.out).2.1 HND.out.1 HND2.out.1 ⟨HND.out.2.2.1, HND2.out.2.2.1⟩)
      have HX16 := hid (row_below hx1 hb5)
      have HX26 := hid (row_below hx2 hb5)
      have HX36 := hid (row_below HX35.out hb5)
      have HW5 := hid hw5
      have HG5 := hid hg5
      clear hw5 hg5 hb5 hy5 hx1 hx2 HX15 HX25 HX35 HB5 HBR HX1 HX2 HX3 HX4 HB1
      go_wp2_with fail
      rw [← HW5.out, ← HG5.out]
      refine HCN.out.mono ?_
      clear HCN HW5 HG5 hc1 hc3
      rintro e w7 ⟨⟨v, rfl, hv⟩, hb⟩
      have HB7 : Hid (Below w.heap.size w w7) := hid (HB6.out.trans (hb.mono HB6.out.size))
      have hx1 := row_below HX16.out hb
      have hx2 := row_below HX26.out hb
      have HX17 := hid hx1
      have HX27 := hid hx2
      have HX37 := hid (row_below HX36.out hb)
      obtain ⟨a9, c9, hs9, hn9, h9, -, -, -⟩ := ownedE hv
      obtain ⟨L, hL⟩ : ∃ L, L = (es ++ fs).length := ⟨_, rfl⟩
      rw [← hL] at hs9 hn9
      subst hs9
      have HROW := hid (ownsWeaken hv HB6.out.size)
      have HL := hid hL
      have HNL := hid hn9
      have HS9 := hid (NdOk.mono h9)
      have hc0 : w7.cell? ⟨g, 0, none⟩ = some (.bool lf) := by rw [cell_of_row _ _ _ _ _ _ hx1]; rfl
      have hc2 : w7.cell? ⟨g + 1, 0, none⟩ = some (.bool mf) := by rw [cell_of_row _ _ _ _ _ _ hx2]; rfl
      have hl1000 : (L : Int) ≤ 2000 := by have := HND.out.2.2.1; have := HND2.out.2.2.1; omega
      clear hb hv hL hn9 h9 hx1 hx2 HB6 HX16 HX26 HX36
      by_cases hlm : lf = mf
      · have hl1 : (lf != mf) = false := by rw [hlm]; simp
        have hl2 : (lf == mf) = true := by rw [hlm]; simp
        have hl3 : (lf = mf) = True := eq_true hlm
        have HLM := hid hlm
        clear hlm
        by_cases h16 : 16 < L
        · have h16i : (16 : Int) < L := by omega
          have h16d : decide ((16 : Int) < L) = true := decide_eq_true h16i
          have HFF : Hid (FF = 6) := hid (HF.out.trans (mg_full HP.out.1 HP.out.2 HLM.out (by rw [← HL.out]; exact h16)))
          clear h16
          go_upto_region 12 with fail
          clear hl1 hl2 hl3 hc0 hc2 h16d
          go_wp2_with (refine wpList_store_own rfl 27 _ _ rfl (g + 1 + 1) #[.bool false, .slice none 0 0] rfl rfl 27 _ HX37.out (by kernel_rfl) rfl (by simp [Value.oneCell']) ?_)
          intro w9 hr9 hg9
          have HB9 : Hid (Below w.heap.size w w9) := hid (HB7.out.grown hg9 HB7.out.size fun k hk => by have := HG.out; cases hk; omega)
          have HR9 := hid hr9
          clear hr9 hg9
          go_wp2_with fail
          refine bodyPost_ret (v := .tuple #[.agg #[.bool false, .slice none 0 0], .int .i64 6]) (resMG _ _ #[.bool false, .slice none 0 0] _ rfl HR9.out rfl) rfl ⟨?_, HB9.out⟩
          rw [HFF.out]
          exact ⟨_, rfl, ndF_none, fun h => absurd h (by decide)⟩
        · have h16i : (L : Int) ≤ 16 := by omega
          have h16d : decide ((16 : Int) < L) = false := decide_eq_false (by omega)
          have HRI := hid (rise_any (fun _ => True) a9 L c9 (es ++ fs) w7 HS9.out HL.out (by omega) (badN_app (chkN_zero HP.out.1).2.1 (chkN_zero HP.out.2).2.1))
          obtain ⟨Fa, hFa⟩ : ∃ F, F = fallN (es ++ fs) := ⟨_, rfl⟩
          rw [← hFa] at HRI
          have HFA := hid hFa
          clear h16 hFa
          go_wp2_with fail
          refine HRI.out.mono ?_
          clear HRI hl1 hl2 hl3 hc0 hc2 h16d
          rintro e w8 ⟨rfl, hb⟩
          have HB8 : Hid (Below w.heap.size w w8) := hid (HB7.out.trans (hb.mono HB7.out.size))
          have hx1 := row_below HX17.out hb
          have HX38 := hid (row_below HX37.out hb)
          have HROW8 := hid (owns_mv (F := fun _ => False) HROW.out (Mv.of_below hb) fun _ _ => id)
          have hc0 : w8.cell? ⟨g, 0, none⟩ = some (.bool lf) := by rw [cell_of_row _ _ _ _ _ _ hx1]; rfl
          clear hb hx1 HB7 HX17 HX27 HX37 HROW HS9
          cases Fa with
          | true =>
            have HFF : Hid (FF = 3) := hid (HF.out.trans (mg_fall HP.out.1 HP.out.2 HLM.out (by rw [← HL.out]; omega) HFA.out.symm))
            clear hc0
            go_wp2_with (refine wpList_store_own rfl 27 _ _ rfl (g + 1 + 1) #[.bool false, .slice none 0 0] rfl rfl 27 _ HX38.out (by kernel_rfl) rfl (by simp [Value.oneCell']) ?_)
            intro w9 hr9 hg9
            have HB9 : Hid (Below w.heap.size w w9) := hid (HB8.out.grown hg9 HB8.out.size fun k hk => by have := HG.out; cases hk; omega)
            have HR9 := hid hr9
            clear hr9 hg9
            go_wp2_with fail
            refine bodyPost_ret (v := .tuple #[.agg #[.bool false, .slice none 0 0], .int .i64 3]) (resMG _ _ #[.bool false, .slice none 0 0] _ rfl HR9.out rfl) rfl ⟨?_, HB9.out⟩
            rw [HFF.out]
            exact ⟨_, rfl, ndF_none, fun h => absurd h (by decide)⟩
          | false =>
            have HFF : Hid (FF = 0) := hid (HF.out.trans (mg_ok HP.out.1 HP.out.2 HLM.out (by rw [← HL.out]; omega) HFA.out.symm))
            go_wp2_with (refine wpList_store_own rfl 27 _ _ rfl (g + 1 + 1) #[.bool lf, .slice a9 L c9] rfl rfl 27 _ HX38.out (by kernel_rfl) rfl (by simp [Value.oneCell']) ?_)
            intro w9 hr9 hg9
            have HB9 : Hid (Below w.heap.size w w9) := hid (HB8.out.grown hg9 HB8.out.size fun k hk => by have := HG.out; cases hk; omega)
            have HR9 := hid hr9
            have HROW9 := hid (HROW8.out.kept hg9 (.inr (rowNot (by decide) HROW8.out HX38.out)))
            clear hr9 hg9 HROW8 HX38 HB8 hc0
            go_wp2_with fail
            refine bodyPost_ret (v := .tuple #[.agg #[.bool lf, .slice a9 L c9], .int .i64 0]) (resMG _ _ #[.bool lf, .slice a9 L c9] _ rfl HR9.out rfl) rfl ⟨?_, HB9.out⟩
            rw [HFF.out]
            refine ⟨_, rfl, ⟨_, _, _, _, rfl⟩, fun _ => ?_⟩
            have h := HROW9.out
            have hlen : n + m = (es ++ fs).length := HNL.out.trans HL.out
            rw [hlen] at h
            have h9 : NodeN 57 w.heap.size w9 (.agg #[.bool lf, .slice a9 L c9]) lf (es ++ fs) := ⟨_, rfl, h⟩
            refine h9.nd (by rw [← HL.out]; omega) fun e he => ?_
            rcases List.mem_append.1 he with h | h
            · exact HND.out.2.2.2.1 e h
            · exact HND2.out.2.2.2.1 e h
      · have hl1 : (lf != mf) = true := by rw [bne_iff_ne]; exact hlm
        have hl2 : (lf == mf) = false := by rw [beq_eq_false_iff_ne]; exact hlm
        have hl3 : (lf = mf) = False := eq_false hlm
        have HFF : Hid (FF = 11) := hid (HF.out.trans (mg_c HP.out.1 HP.out.2 hlm))
        clear hlm
        go_upto_region 10 with fail
        clear hl1 hl2 hl3 hc0 hc2
        go_wp2_with (refine wpList_store_own rfl 27 _ _ rfl (g + 1 + 1) #[.bool false, .slice none 0 0] rfl rfl 27 _ HX37.out (by kernel_rfl) rfl (by simp [Value.oneCell']) ?_)
        intro w9 hr9 hg9
        have HB9 : Hid (Below w.heap.size w w9) := hid (HB7.out.grown hg9 HB7.out.size fun k hk => by have := HG.out; cases hk; omega)
        have HR9 := hid hr9
        clear hr9 hg9
        go_wp2_with fail
        refine bodyPost_ret (v := .tuple #[.agg #[.bool false, .slice none 0 0], .int .i64 11]) (resMG _ _ #[.bool false, .slice none 0 0] _ rfl HR9.out rfl) rfl ⟨?_, HB9.out⟩
        rw [HFF.out]
        exact ⟨_, rfl, ndF_none, fun h => absurd h (by decide)⟩
end Go.Proofs.Ytokeihpmagcneaa
