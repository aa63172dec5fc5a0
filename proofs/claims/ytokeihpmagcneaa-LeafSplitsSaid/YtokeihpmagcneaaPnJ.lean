/- CONTRACTS: one entry fewer. -/
import Derived.Test.YtokeihpmagcneaaPnI
namespace Go.Inc
open Go.RowKit
/-- A box of two slices. -/
def BoxTwo (x : World) (v : Value) (a : Option Addr) (n c : Nat) (b : Option Addr) (m d : Nat) (T : TypeId) : Prop := ∃ q, v = .slice (some ⟨q, 0, none⟩) 2 2 ∧ x.heap[q]? = some (.cells #[.slice a n c, .slice b m d] T (0, 0))
theorem BoxTwo.grew {x y : World} {v : Value} {a b : Option Addr} {n c m d : Nat} {T : TypeId} (hg : Grew x y) (h : BoxTwo x v a n c b m d T) : BoxTwo y v a n c b m d T := by
  obtain ⟨q, h1, h2⟩ := h
  exact ⟨q, h1, row_below h2 hg⟩
theorem woE_chk {lf : Bool} {es : List Et} {k : Ky} (h : chkN lf es ≠ 0) : woE lf es k = chkN lf es := if_pos h
theorem woE_none {lf : Bool} {es : List Et} {k : Ky} (h : chkN lf es = 0) (h2 : inK es k = false) : woE lf es k = 7 := by
  unfold woE
  rw [if_neg (by rw [h]; decide), if_pos h2]
theorem woE_ok {lf : Bool} {es : List Et} {k : Ky} (h : chkN lf es = 0) (h2 : inK es k = true) : woE lf es k = 0 := by
  unfold woE
  rw [if_neg (by rw [h]; decide), if_neg (by rw [h2]; decide)]
theorem remE_fits {es : List Et} {k : Ky} (h : ∀ x ∈ es, fitsE x) : ∀ x ∈ remE es k, fitsE x := fun x hx => by
  rcases List.mem_append.1 hx with h1 | h1
  · exact h x (List.mem_of_mem_take h1)
  · exact h x (List.mem_of_mem_drop h1)
end Go.Inc
namespace Go.Proofs.Ytokeihpmagcneaa
open Go.RowKit Go.Inc

theorem resWO (w : World) (g : Nat) (cs : Array Value) (tmps : Array Value) (h2 : tmps.getD 4 undef = .pointer (some ⟨g, 0, none⟩)) (hg : w.heap[g]? = some (.cells cs 27 (0, 0))) (hs : cs.size = 2) :
    (results Try.f28 tmps).run Try.prog w = .ok (.tuple #[.agg cs, tmps.getD 5 undef]) w :=
  res_cell_tmp2 rfl tmps w g 27 cs (0, 0) _ h2 hg Try.underlying27 rfl (by rw [hs]; kernel_rfl)
set_option maxRecDepth 20000 in
set_option maxHeartbeats 4000000 in
theorem without_any (a : Option Addr) (n c : Nat) (lf : Bool) (es : List Et) (s z : Int) (w : World) (hnd : NdOk w a n c es) (_ : fitsK (s, z)) :
    Calls Try.prog 28 #[.agg #[.bool lf, .slice a n c], .agg #[.int .i64 s, .int .i64 z]] w fun e w' => (∃ v, e = .returned (.tuple #[v, .int .i64 (woE lf es (s, z))]) ∧ NdF v ∧ (woE lf es (s, z) = 0 → NdV w' v lf (remE es (s, z)))) ∧ Below w.heap.size w w' := by
  have HN := hid hnd.1
  obtain ⟨g, hg⟩ : ∃ g, g = w.heap.size := ⟨_, rfl⟩
  have HG := hid hg
  obtain ⟨w0, hw0⟩ : ∃ w0, w0 = ((w.alloc (.cells #[.bool lf, .slice a n c] 27)).alloc (.cells #[.int .i64 s, .int .i64 z] 50)).alloc (.cells #[.bool false, .slice none 0 0] 27) := ⟨_, rfl⟩
  have HW0 := hid hw0
  have HB0 : Hid (Below w.heap.size w w0) := hid (by rw [hw0]; exact (((Below.refl _ _).alloc (Nat.le_refl _) _).alloc (by simp) _).alloc (by simp; omega) _)
  have hx1 : w0.heap[g]? = some (.cells #[.bool lf, .slice a n c] 27 (0, 0)) := by rw [hw0, hg]; exact row_below (heap_alloc2_old w _ _) (allocBelow _ _)
  have hx2 : w0.heap[g + 1]? = some (.cells #[.int .i64 s, .int .i64 z] 50 (0, 0)) := by rw [hw0, hg]; exact row_below (heap_alloc2_new w _ _) (allocBelow _ _)
  have hx3 : w0.heap[g + 1 + 1]? = some (.cells #[.bool false, .slice none 0 0] 27 (0, 0)) := by
    rw [hw0, hg]
    have h := heap_alloc_new ((w.alloc (.cells #[.bool lf, .slice a n c] 27)).alloc (.cells #[.int .i64 s, .int .i64 z] 50)) (.cells #[.bool false, .slice none 0 0] 27)
    simpa using h
  have HX1 := hid hx1
  have HX2 := hid hx2
  have HX3 := hid hx3
  have HND := hid hnd
  obtain ⟨C, hC⟩ : ∃ C, C = chkN lf es := ⟨_, rfl⟩
  have h7 := check_any a n c lf es w0 (hnd.below HB0.out)
  rw [← hC] at h7
  have HCK := hid h7
  have HC := hid hC
  obtain ⟨FF, hF⟩ : ∃ F, F = woE lf es (s, z) := ⟨_, rfl⟩
  have HF := hid hF
  rw [← hF]
  clear hnd hg hw0 h7 hC hF
  have hc0 : w0.cell? ⟨g, 0, none⟩ = some (.bool lf) := by rw [cell_of_row _ _ _ _ _ _ hx1]; rfl
  have hc1 : w0.cell? ⟨g, 1, none⟩ = some (.slice a n c) := by rw [cell_of_row _ _ _ _ _ _ hx1]; rfl
  clear hx1 hx2 hx3
  go_enter Try.func28, Try.ntmps28
  go_upto_region 1 with fail
  rw [← HW0.out, ← HG.out]
  go_wp2_with fail
  refine HCK.out.mono ?_
  clear HCK
  rintro e w1 ⟨rfl, hb⟩
  have HB1 : Hid (Below w.heap.size w w1) := hid (HB0.out.trans (hb.mono HB0.out.size))
  have hx1 := row_below HX1.out hb
  have hx2 := row_below HX2.out hb
  have HX31 := hid (row_below HX3.out hb)
  have HX11 := hid hx1
  have HX21 := hid hx2
  clear hb hc0 hc1 HX1 HX2 HX3 HB0 HW0
  by_cases hC0 : C = 0
  · have HC0 := hid hC0
    have hcc : ((C : Int) != 0) = false := by rw [hC0]; rfl
    have hcc2 : (C = 0) = True := eq_true hC0
    obtain ⟨c1, c2, c3, -⟩ := chkN_zero (HC.out.symm.trans HC0.out)
    have hln : (n : Int) ≤ 16 := by have := HN.out; omega
    have hncn := HND.out.2.2.2.2.1.1
    have hnc : (n : Int) ≤ c := by omega
    have HFD := hid (find_any a n c lf es s z w1 (HND.out.below HB1.out) c1 c2 c3)
    have HLE := hid c1
    have HBD := hid c2
    have hd0 : w1.cell? ⟨g + 1, 0, none⟩ = some (.int .i64 s) := by rw [cell_of_row _ _ _ _ _ _ hx2]; rfl
    have hd1 : w1.cell? ⟨g + 1, 1, none⟩ = some (.int .i64 z) := by rw [cell_of_row _ _ _ _ _ _ hx2]; rfl
    have hc0 : w1.cell? ⟨g, 0, none⟩ = some (.bool lf) := by rw [cell_of_row _ _ _ _ _ _ hx1]; rfl
    have hc1 : w1.cell? ⟨g, 1, none⟩ = some (.slice a n c) := by rw [cell_of_row _ _ _ _ _ _ hx1]; rfl
    clear hx1 hx2 c1 c2 c3 hC0
    go_wp2_with fail
    refine HFD.out.mono ?_
    clear HFD hcc hcc2
    rintro e w3 ⟨⟨i, B, rfl, hf⟩, hb⟩
    have HB3 : Hid (Below w.heap.size w w3) := hid (HB1.out.trans (hb.mono HB1.out.size))
    have HX13 := hid (row_below HX11.out hb)
    have HX33 := hid (row_below HX31.out hb)
    have hin : (i : Int) ≤ n := by have := hf.1; have := HN.out; omega
    have HIS := hid (hf.is HBD.out)
    have HFD := hid hf
    clear hd0 hd1 hc0 hc1 hb HX11 HX21 HX31 HB1 hf
    cases B with
    | false =>
      have HFF : Hid (FF = 7) := hid (HF.out.trans (woE_none (HC.out.symm.trans HC0.out) HIS.out.symm))
      go_wp2_with (refine wpList_store_own rfl 27 _ _ rfl (g + 1 + 1) #[.bool false, .slice none 0 0] rfl rfl 27 _ HX33.out (by kernel_rfl) rfl (by simp [Value.oneCell']) ?_)
      intro w9 hr9 hg9
      have HB9 : Hid (Below w.heap.size w w9) := hid (HB3.out.grown hg9 HB3.out.size fun k hk => by have := HG.out; cases hk; omega)
      have HR9 := hid hr9
      clear hr9 hg9
      go_wp2_with fail
      refine bodyPost_ret (v := .tuple #[.agg #[.bool false, .slice none 0 0], .int .i64 7]) (resWO _ _ #[.bool false, .slice none 0 0] _ rfl HR9.out rfl) rfl ⟨?_, HB9.out⟩
      rw [HFF.out]
      exact ⟨_, rfl, ndF_none, fun h => absurd h (by decide)⟩
    | true =>
      have HFF : Hid (FF = 0) := hid (HF.out.trans (woE_ok (HC.out.symm.trans HC0.out) HIS.out.symm))
      have hok : okK (s, z) = true := by
        cases hk : okK (s, z)
        · have := inK_none HBD.out hk
          rw [this] at HIS
          exact absurd HIS.out (by decide)
        · rfl
      obtain ⟨e1, -⟩ := HFD.out.ok hok
      have hil := (inK_lt HIS.out.symm).1
      rw [← e1] at hil
      obtain ⟨b, o, rfl, -⟩ := HND.out.2.1.cell (i := i) hil
      obtain ⟨j, hj⟩ : ∃ j, j = i + 1 := ⟨_, rfl⟩
      have hjn : (j : Int) ≤ n := by have := HN.out; omega
      have hjc : (j : Int) ≤ c := by omega
      obtain ⟨ob, hob⟩ : ∃ ob, ob = o + j * 3 := ⟨_, rfl⟩
      have hob2 : o + j * 3 = ob := hob.symm
      obtain ⟨ab, hab⟩ : ∃ ab, (if c = j then (some ⟨b, o, none⟩ : Option Addr) else some ⟨b, ob, none⟩) = ab := ⟨_, rfl⟩
      obtain ⟨nb, hnb⟩ : ∃ nb, n - j = nb := ⟨_, rfl⟩
      obtain ⟨cb, hcb⟩ : ∃ cb, c - j = cb := ⟨_, rfl⟩
      have HS0 := hid HND.out.2.1
      have HS : Hid (∀ y : World, Below w3.heap.size w3 y → EtS (fun _ => True) y ab (es.drop j)) := hid fun y hy => by
        refine ((HS0.out.below HB3.out).below hy).back j ab fun hlt9 => ?_
        have hne : ¬ c = j := by have := HN.out; omega
        rw [← hab, if_neg hne, ← hob2]
        simp [Addr.add]
        omega
      have HNB : Hid (nb = (es.drop j).length ∧ nb ≤ 16) := hid (by rw [List.length_drop]; have := HN.out; omega)
      have HREM : Hid (es.take i ++ es.drop j = remE es (s, z)) := hid (by
        unfold remE
        rw [hj, e1])
      have HJ := hid hj
      have HAB := hid (And.intro hab (And.intro hob2 (And.intro hnb hcb)))
      clear hil hob hj hab hob2 hnb hcb e1 hok
      go_upto_region 7 with fail
      have HCC : Hid (∀ x, Grew w3.drew x → x.cell? ⟨g, 0, none⟩ = some (.bool lf) ∧ x.cell? ⟨g, 1, none⟩ = some (.slice (some ⟨b, o, none⟩) n c) ∧ Below w3.heap.size w3 x ∧ EtS (fun _ => True) x (some ⟨b, o, none⟩) es) := hid fun x hg => by
        have hb : Below w3.heap.size w3 x := ⟨hg.os, hg.tape, hg.output, hg.size, hg.block⟩
        have r1 := row_below HX13.out hb
        exact ⟨by rw [cell_of_row _ _ _ _ _ _ r1]; rfl, by rw [cell_of_row _ _ _ _ _ _ r1]; rfl, hb, HS0.out.below (HB3.out.trans (hb.mono HB3.out.size))⟩
      have hic : (i : Int) ≤ c := by omega
      refine wp_region_grows 13 [EqN (.pointer (some ⟨g, 0, none⟩)), EqN (.bool lf), EqN (.pointer (some ⟨g, 1, none⟩)), EqN (.slice (some ⟨b, o, none⟩) n c), EqN (.int .i64 (i : Int)), EqN (.slice (some ⟨b, o, none⟩) i c), EqN (.pointer (some ⟨g, 1, none⟩)), EqN (.slice (some ⟨b, o, none⟩) n c), EqN (.int .i64 (i : Int)), EqN (.int .i64 (j : Int)), EqN (.slice ab nb cb), (fun x v => BoxTwo x v (some ⟨b, o, none⟩) i c ab nb cb 25), (fun x v => x.ownsRow w3.heap.size 57 3 v (i + nb) (ecells (es.take i ++ es.drop j)))] (by kernel_rfl) (by decide) (by kernel_rfl) ?_ ?_ ?_
      · repeat' (first | exact List.forall_mem_nil _ | refine List.forall_mem_cons.2 ⟨?_, ?_⟩)
        all_goals
          intro w w' v hw h
          first | exact h | exact BoxTwo.grew hw h | exact owns_mv (F := fun _ => False) h (Mv.of_below hw) fun _ _ => id
      · simp only [AllLt]
        refine ⟨⟨⟨⟨⟨⟨⟨⟨⟨⟨⟨⟨⟨trivial, ?_⟩, ?_⟩, ?_⟩, ?_⟩, ?_⟩, ?_⟩, ?_⟩, ?_⟩, ?_⟩, ?_⟩, ?_⟩, ?_⟩, ?_⟩
        all_goals
          intro o' ho
          simp at ho
          subst ho
          intro ρ w5 hR hL hS hG
          obtain ⟨hl1, hl2, -⟩ := hL
        · refine plainG rfl ?_
          intro bA K Q' hK
          have e2 := hS 2 (by kernel_rfl)
          change ρ (.tmp 2) = _ at e2
          simp only [execOp]
          go_simp
          exact hK _ _ rfl (Grew.refl _)
        · refine plainG rfl ?_
          intro bA K Q' hK
          have e24 := hG 0 24 (by decide) (by kernel_rfl) (by kernel_rfl)
          change ρ (.tmp 24) = _ at e24
          obtain ⟨y0, y1, -⟩ := HCC.out w5 hR
          simp only [execOp]
          go_simp
          exact hK _ _ rfl (Grew.refl _)
        · refine plainG rfl ?_
          intro bA K Q' hK
          have e2 := hS 2 (by kernel_rfl)
          change ρ (.tmp 2) = _ at e2
          simp only [execOp]
          go_simp
          exact hK _ _ rfl (Grew.refl _)
        · refine plainG rfl ?_
          intro bA K Q' hK
          have e26 := hG 2 26 (by decide) (by kernel_rfl) (by kernel_rfl)
          change ρ (.tmp 26) = _ at e26
          obtain ⟨y0, y1, -⟩ := HCC.out w5 hR
          simp only [execOp]
          go_simp
          exact hK _ _ rfl (Grew.refl _)
        · refine plainG rfl ?_
          intro bA K Q' hK
          have e7 := hS 7 (by kernel_rfl)
          change ρ (.tmp 7) = _ at e7
          simp only [execOp]
          go_simp
          exact hK _ _ rfl (Grew.refl _)
        · refine plainG rfl ?_
          intro bA K Q' hK
          have e27 := hG 3 27 (by decide) (by kernel_rfl) (by kernel_rfl)
          have e28 := hG 4 28 (by decide) (by kernel_rfl) (by kernel_rfl)
          change ρ (.tmp 27) = _ at e27
          change ρ (.tmp 28) = _ at e28
          simp only [execOp]
          go_simp
          exact hK _ _ rfl (Grew.refl _)
        · refine plainG rfl ?_
          intro bA K Q' hK
          have e2 := hS 2 (by kernel_rfl)
          change ρ (.tmp 2) = _ at e2
          simp only [execOp]
          go_simp
          exact hK _ _ rfl (Grew.refl _)
        · refine plainG rfl ?_
          intro bA K Q' hK
          have e30 := hG 6 30 (by decide) (by kernel_rfl) (by kernel_rfl)
          change ρ (.tmp 30) = _ at e30
          obtain ⟨y0, y1, -⟩ := HCC.out w5 hR
          simp only [execOp]
          go_simp
          exact hK _ _ rfl (Grew.refl _)
        · refine plainG rfl ?_
          intro bA K Q' hK
          have e7 := hS 7 (by kernel_rfl)
          change ρ (.tmp 7) = _ at e7
          simp only [execOp]
          go_simp
          exact hK _ _ rfl (Grew.refl _)
        · refine plainG rfl ?_
          intro bA K Q' hK
          have e32 := hG 8 32 (by decide) (by kernel_rfl) (by kernel_rfl)
          change ρ (.tmp 32) = _ at e32
          simp only [execOp]
          go_simp
          refine hK _ _ ?_ (Grew.refl _)
          show Value.int _ _ = Value.int _ _
          have hj1 : (j : Int) = (i : Int) + 1 := by rw [HJ.out]; push_cast; rfl
          rw [hj1, show IntKind.i64.wrap ((i : Int) + 1) = (i : Int) + 1 by rw [IntKind.wrap_i64]; omega]
        · refine plainG rfl ?_
          intro bA K Q' hK
          have e31 := hG 7 31 (by decide) (by kernel_rfl) (by kernel_rfl)
          have e33 := hG 9 33 (by decide) (by kernel_rfl) (by kernel_rfl)
          change ρ (.tmp 31) = _ at e31
          change ρ (.tmp 33) = _ at e33
          have hab := HAB.out.1
          have hob2 := HAB.out.2.1
          have hnb := HAB.out.2.2.1
          have hcb := HAB.out.2.2.2
          simp only [execOp]
          go_simp
          exact hK _ _ rfl (Grew.refl _)
        · refine plainG rfl ?_
          intro bA K Q' hK
          have e29 := hG 5 29 (by decide) (by kernel_rfl) (by kernel_rfl)
          have e34 := hG 10 34 (by decide) (by kernel_rfl) (by kernel_rfl)
          change ρ (.tmp 29) = _ at e29
          change ρ (.tmp 34) = _ at e34
          simp only [execOp]
          go_simp
          exact hK _ _ ⟨_, rfl, heap_alloc_new w5 _⟩ ((Grew.refl _).alloc _)
        · refine plainG rfl ?_
          intro bA K Q' hK
          have e35 := hG 11 35 (by decide) (by kernel_rfl) (by kernel_rfl)
          obtain ⟨q, e35', hq⟩ := e35
          change ρ (.tmp 35) = _ at e35'
          simp only [execOp]
          go_simp
          refine (concat_any (ok := fun _ => True) (ok' := fun _ => True) (some ⟨b, o, none⟩) ab i nb c cb q (es.take i) (es.drop j) w5 _ hq ((HCC.out w5 hR).2.2.2.front i) (HS.out _ (HCC.out w5 hR).2.2.1) (by rw [List.length_take]; have := HN.out; omega) HNB.out.1 ⟨by omega, by have := HNB.out.2; omega⟩).mono ?_
          rintro r9 w9 ⟨⟨v9, rfl, h9⟩, hb9⟩
          exact hK _ _ (ownsWeaken h9 hR.size) hb9
      · intro vv w4 hR hG
        have hv1 : vv 1 = .bool lf := hG.1.1.1.1.1.1.1.1.1.1.1.2
        have h12 : w4.ownsRow w3.heap.size 57 3 (vv 12) (i + nb) (ecells (es.take i ++ es.drop j)) := hG.2
        have hb : Below w3.heap.size w3 w4 := ⟨hR.os, hR.tape, hR.output, hR.size, hR.block⟩
        obtain ⟨v9, hv9⟩ : ∃ v9, v9 = vv 12 := ⟨_, rfl⟩
        rw [← hv9] at h12
        obtain ⟨a9, c9, hs9, -⟩ := ownedE h12
        obtain ⟨L, hL⟩ : ∃ L, L = (es.take i ++ es.drop j).length := ⟨_, rfl⟩
        rw [← hL] at hs9
        subst hs9
        have HROW := hid (ownsWeaken h12 HB3.out.size)
        have HL := hid hL
        have HB4 : Hid (Below w.heap.size w w4) := hid (HB3.out.trans (hb.mono HB3.out.size))
        have HX4 := hid (row_below HX33.out hb)
        clear hG hR h12 hL HCC hb HX13 HX33
        simp [stG, stU, dstAt, Act.put, ← hv9, hv1]
        clear hv9 hv1
        go_wp2_with (refine wpList_store_own rfl 27 _ _ rfl (g + 1 + 1) #[.bool lf, .slice a9 L c9] rfl rfl 27 _ HX4.out (by kernel_rfl) rfl (by simp [Value.oneCell']) ?_)
        intro w6 hr6 hg6
        have HB6 : Hid (Below w.heap.size w w6) := hid (HB4.out.grown hg6 HB4.out.size fun k hk => by have := HG.out; cases hk; omega)
        have HR6 := hid hr6
        have HRW6 := hid (HROW.out.kept hg6 (.inr (rowNot (by decide) HROW.out HX4.out)))
        clear hr6 hg6 HROW HX4
        go_wp2_with fail
        refine bodyPost_ret (v := .tuple #[.agg #[.bool lf, .slice a9 L c9], .int .i64 0]) (resWO _ _ #[.bool lf, .slice a9 L c9] _ rfl HR6.out rfl) rfl ⟨?_, HB6.out⟩
        rw [HFF.out]
        refine ⟨_, rfl, ⟨_, _, _, _, rfl⟩, fun _ => ?_⟩
        have hlen : i + nb = (remE es (s, z)).length := by
          have h1 := HNB.out.1
          rw [List.length_drop] at h1
          rw [← HREM.out, List.length_append, List.length_take, List.length_drop]
          have := HN.out
          omega
        have h := HRW6.out
        rw [HREM.out, hlen] at h
        have h9 : NodeN 57 w.heap.size w6 (.agg #[.bool lf, .slice a9 L c9]) lf (remE es (s, z)) := ⟨_, rfl, h⟩
        refine h9.nd ?_ (remE_fits HND.out.2.2.2.1)
        have h2 := HNB.out.2
        omega
  · have hcc : ((C : Int) != 0) = true := by rw [bne_iff_ne]; exact hC0
    have hcc2 : (C = 0) = False := eq_false hC0
    have HFF : Hid (FF = C ∧ C ≠ 0) := hid ⟨HF.out.trans ((woE_chk (by rw [← HC.out]; exact hC0)).trans HC.out.symm), hC0⟩
    clear hC0 hx1 hx2
    go_wp2_with (refine wpList_store_own rfl 27 _ _ rfl (g + 1 + 1) #[.bool false, .slice none 0 0] rfl rfl 27 _ HX31.out (by kernel_rfl) rfl (by simp [Value.oneCell']) ?_)
    intro w9 hr9 hg9
    have HB9 : Hid (Below w.heap.size w w9) := hid (HB1.out.grown hg9 HB1.out.size fun k hk => by have := HG.out; cases hk; omega)
    have HR9 := hid hr9
    clear hr9 hg9
    go_wp2_with fail
    refine bodyPost_ret (v := .tuple #[.agg #[.bool false, .slice none 0 0], .int .i64 C]) (resWO _ _ #[.bool false, .slice none 0 0] _ rfl HR9.out rfl) rfl ⟨?_, HB9.out⟩
    rw [HFF.out.1]
    exact ⟨_, rfl, ndF_none, fun h => absurd h HFF.out.2⟩
end Go.Proofs.Ytokeihpmagcneaa
