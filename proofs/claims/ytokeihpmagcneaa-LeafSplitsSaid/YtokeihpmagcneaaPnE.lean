/- CONTRACTS: a node's body. -/
import Derived.Test.YtokeihpmagcneaaPnD
import Derived.Test.YtokeihpmagcneaaVarE
namespace Go.Proofs.Ytokeihpmagcneaa
open Go.RowKit Go.Inc

theorem put_three {s z p : Int} (h : 0 ≤ s ∧ 0 ≤ z ∧ 0 ≤ p) : putOf [s, z, p] = ebyte ((s, z), p) := by
  unfold putOf
  rw [if_neg (by simp [anyNeg]; omega)]
  simp [puts, ebyte]
set_option maxRecDepth 20000 in
set_option maxHeartbeats 4000000 in
theorem encode_true (a : Option Addr) (n c : Nat) (es : List Et) (w : World) (hnd : NdOk w a n c es) (hck : chkN true es = 0) :
    Calls Try.prog 10 #[.agg #[.bool true, .slice a n c]] w fun e w' => (∃ v, e = .returned (.tuple #[v, .int .i64 0]) ∧ Row 5 w.heap.size w' v (encN true es)) ∧ Below w.heap.size w w' := by
  obtain ⟨c1, c2, -, -⟩ := chkN_zero hck
  have HN := hid hnd.1
  have HS := hid hnd.2.1.old
  have hln : (n : Int) ≤ 16 := by have := hnd.1; omega
  have HOK := hid (badN_false.1 c2)
  have hnu : IntKind.u8.wrap (n : Int) = (n : Int) := by
    have : IntKind.u8.wrap (n : Int) = (n : Int) % 256 := by simp [IntKind.wrap, IntKind.bits, IntKind.signed]
    rw [this]; omega
  obtain ⟨g, hg⟩ : ∃ g, g = w.heap.size := ⟨_, rfl⟩
  have HG := hid hg
  obtain ⟨w0, hw0⟩ : ∃ w0, w0 = w.alloc (.cells #[.bool true, .slice a n c] 27) := ⟨_, rfl⟩
  have HW0 := hid hw0
  have HB0 : Hid (Below w.heap.size w w0) := hid (by rw [hw0]; exact allocBelow w _)
  have hx0 : w0.heap[g]? = some (.cells #[.bool true, .slice a n c] 27 (0, 0)) := by rw [hw0, hg]; exact heap_alloc_new w _
  have HX0 := hid hx0
  have h := check_any a n c true es w0 (hnd.below HB0.out)
  rw [hck] at h
  have HCK := hid h
  have hb0 : w0.cell? ⟨g, 0, none⟩ = some (.bool true) := by rw [cell_of_row _ _ _ _ _ _ hx0]; rfl
  have hb1 : w0.cell? ⟨g, 1, none⟩ = some (.slice a n c) := by rw [cell_of_row _ _ _ _ _ _ hx0]; rfl
  clear hnd hck hg hw0 hx0 h c1 c2
  go_enter Try.func10, Try.ntmps10
  go_upto_region 1 with fail
  rw [← HW0.out, ← HG.out]
  go_wp2_with fail
  refine HCK.out.mono ?_
  clear HCK
  rintro e w1 ⟨rfl, hb⟩
  have HB1 : Hid (Below w.heap.size w w1) := hid (HB0.out.trans (hb.mono HB0.out.size))
  have hx1 := row_below HX0.out hb
  have HX1 := hid hx1
  clear hb hb0 hb1 HB0 HX0 HW0
  obtain ⟨w2, hw2⟩ : ∃ w2, w2 = w1.alloc (.cells #[.int .u8 1, .int .u8 (n : Int)] 5) := ⟨_, rfl⟩
  have HW2 := hid hw2
  obtain ⟨g2, hg2⟩ : ∃ g, g = w1.heap.size := ⟨_, rfl⟩
  have HG2 := hid hg2
  have HB2 : Hid (Below w.heap.size w w2) := hid (by rw [hw2]; exact HB1.out.alloc HB1.out.size _)
  have hrow0 : w2.heap[g2]? = some (.cells #[.int .u8 1, .int .u8 (n : Int)] 5 (0, 0)) := by rw [hw2, hg2]; exact heap_alloc_new w1 _
  have HROW : Hid (Row 5 w.heap.size w2 (.slice (some ⟨g2, 0, none⟩) 2 2) ([1, n] ++ ebytes (es.take 0))) := hid (by
    refine ⟨rfl, .inr ⟨g2, 2, _, rfl, by have := HB1.out.size; omega, hrow0, Nat.le_refl _, by unfold maxLen; omega, rfl, ?_⟩⟩
    simp [u8s, ebytes])
  have hb0 : w1.cell? ⟨g, 0, none⟩ = some (.bool true) := by rw [cell_of_row _ _ _ _ _ _ hx1]; rfl
  have hb1 : w1.cell? ⟨g, 1, none⟩ = some (.slice a n c) := by rw [cell_of_row _ _ _ _ _ _ hx1]; rfl
  have hglt : g < w1.heap.size := (Array.getElem?_eq_some_iff.1 hx1).1
  have hgne : (g = w1.heap.size) = False := eq_false (by omega)
  have hgne2 : (w1.heap.size = g) = False := eq_false (by omega)
  clear hx1 hw2 hg2 hrow0
  go_wp2_with fail
  rw [← HW2.out, ← HG2.out]
  clear hb0 hb1 hglt hgne hgne2 hnu
  go_loopw [5, 25] (fun v i wr => ∃ k : Nat, k ≤ n ∧ i = .int .i64 (k : Int) ∧ Row 5 w.heap.size wr v ([1, n] ++ ebytes (es.take k)) ∧ Below w.heap.size w wr) (fun _ i _ => n - (intOf i).toNat)
  case atStart => exact ⟨0, Nat.zero_le _, rfl, HROW.out, HB2.out⟩
  case round =>
    clear HROW HB2 HX1 HB1 HW2
    obtain ⟨k, hk, rfl, hr, hb⟩ := hrel
    have HR := hid hr
    have HB := hid hb
    clear hr hb
    by_cases hlt : (k : Int) < n
    · have hkn : (k < n) = True := eq_true (by omega)
      obtain ⟨b, o, rfl, hx1, hx2, hx3⟩ := (HS.out.below HB.out).cell (i := k) (by have := HN.out; omega)
      have HSN := hid (takeSnoc (bs := es) (d := et0) (k := k) (by have := HN.out; omega))
      have hokk := HOK.out _ (memGetD (zs := es) (d := et0) (k := k) (by have := HN.out; omega))
      obtain ⟨⟨⟨s, z⟩, p⟩, hx⟩ : ∃ x, x = es.getD k et0 := ⟨_, rfl⟩
      rw [← hx] at hx1 hx2 hx3 HSN hokk
      simp only at hx1 hx2 hx3
      have hval := okE_iff.1 hokk
      simp only at hval
      have HVAL : Hid ((0 ≤ s ∧ s < 16) ∧ (0 ≤ z ∧ z < 65536) ∧ 1 < p ∧ p < 2048) := hid (by omega)
      have HEL := hid (ebyte_len hokk)
      have HLEN : Hid (([1, n] ++ ebytes (es.take k)).length ≤ 600) := hid (by
        have h1 := ebytes_len (es := es.take k) (fun e he => HOK.out e (List.mem_of_mem_take he))
        rw [List.length_take] at h1
        rw [List.length_append]
        simp only [List.length_cons, List.length_nil]
        omega)
      obtain ⟨X0, hX0⟩ : ∃ X0, X0 = [1, n] ++ ebytes (es.take k) := ⟨_, rfl⟩
      have HX00 := hid hX0
      rw [← hX0] at HR HLEN
      obtain ⟨P1, hP1⟩ : ∃ P1, P1 = ebyte ((s, z), p) := ⟨_, rfl⟩
      have HP1 := hid hP1
      rw [← hP1] at HEL
      obtain ⟨x1, hxx1⟩ : ∃ x1, x1 = wr.alloc (.cells #[.int .i64 s, .int .i64 z, .int .i64 p] 57) := ⟨_, rfl⟩
      have HXX1 := hid hxx1
      obtain ⟨x2, hxx2⟩ : ∃ x2, x2 = x1.alloc (.cells #[.int .i64 s, .int .i64 z, .int .i64 p] 3) := ⟨_, rfl⟩
      have HXX2 := hid hxx2
      obtain ⟨gi, hgi⟩ : ∃ gi, gi = x1.heap.size := ⟨_, rfl⟩
      have HGI := hid hgi
      have hbx : Below wr.heap.size wr x1 := by rw [hxx1]; exact allocBelow wr _
      have hbx2 : Below wr.heap.size wr x2 := by rw [hxx2]; exact hbx.alloc hbx.size _
      have HRX := hid (HR.out.kept hbx2)
      have HBX : Hid (Below w.heap.size w x2) := hid (HB.out.trans (hbx2.mono HB.out.size))
      have hxr : x2.heap[gi]? = some (.cells #[.int .i64 s, .int .i64 z, .int .i64 p] 3 (0, 0)) := by rw [hxx2, hgi]; exact heap_alloc_new x1 _
      have h := put_any (fun _ => True) (some ⟨gi, 0, none⟩) 3 [s, z, p] x2 (.inr ⟨gi, 0, rfl, trivial, fun i hi => by
        rw [cell_of_row _ _ _ _ _ _ hxr]
        match i, hi with
        | 0, _ => rfl
        | 1, _ => rfl
        | 2, _ => rfl
        | i + 3, hi => simp at hi; omega⟩) (by simp) (by
        intro q hq
        simp at hq
        rcases hq with rfl | rfl | rfl <;> omega)
      rw [put_three ⟨hval.1.1, hval.1.2.2.1, by omega⟩, ← hP1] at h
      have HPUT := hid h
      have hxc0 : x1.cell? ⟨wr.heap.size, 0, none⟩ = some (.int .i64 s) := by rw [hxx1, cell_of_row _ _ _ _ _ _ (heap_alloc_new wr _)]; rfl
      have hxc1 : x1.cell? ⟨wr.heap.size, 1, none⟩ = some (.int .i64 z) := by rw [hxx1, cell_of_row _ _ _ _ _ _ (heap_alloc_new wr _)]; rfl
      have hxc2 : x1.cell? ⟨wr.heap.size, 2, none⟩ = some (.int .i64 p) := by rw [hxx1, cell_of_row _ _ _ _ _ _ (heap_alloc_new wr _)]; rfl
      clear hx hokk hval hX0 hP1 hbx hbx2 hxr h hxx1 hxx2 hgi HR HB
      go_upto_region 10 with fail
      rw [← HXX1.out]
      go_wp2_with fail
      rw [← HGI.out, ← HXX2.out]
      refine HPUT.out.mono ?_
      clear HPUT
      rintro e x3 ⟨v3, rfl, hr3, hb3⟩
      obtain ⟨a3, c3, rfl, -, -, -, hs3⟩ := hr3.sl
      have HR3 := hid (HRX.out.kept hb3)
      have HB3 : Hid (Below w.heap.size w x3) := hid (HBX.out.trans (hb3.mono HBX.out.size))
      have HS3 := hid hs3
      clear hr3 hb3 hs3 HRX HBX HXX1 HXX2 hxc0 hxc1 hxc2 hx1 hx2 hx3
      go_wp2_with (refine wpList_append_any rfl (.tmp 29) (.tmp 39) 30 rfl w.heap.size 5 (.int .u8 0) 1 Try.underlying30 infoU8N rfl _ _ _ rfl HR3.out a3 _ _ (u8s P1) rfl (u8s_length _) HS3.out.some_len HS3.out.cells (u8s_one _) (by have h1 := HLEN.out; have h2 := HEL.out; unfold maxLen; omega) (by have h1 := HLEN.out; have h2 := HEL.out; omega) (by have := HB3.out.size; omega) ?_)
      intro u4 x4 hv4 hg4 _
      have HB4 : Hid (Below w.heap.size w x4) := hid (below_owned HB3.out HR3.out (Nat.le_refl _) hg4)
      have HR4 := hid (rowMore hv4 (by simp only [List.length_append]))
      clear hv4 hg4 HR3 HB3 HS3
      have HFIN : Hid (X0 ++ P1 = [1, n] ++ ebytes (es.take (k + 1))) := hid (by
        rw [HSN.out, ebytes_snoc, HX00.out, HP1.out]
        simp)
      go_wp2_with fail
      go_roundw
      case rel => exact ⟨k + 1, by omega, by go_num, by have h := HR4.out; rw [HFIN.out] at h; exact h, HB4.out⟩
      case measure => simp [intOf]; omega
    · have hkf : (k < n) = False := eq_false (by omega)
      have HKN : Hid (k = n) := hid (by omega)
      clear hlt
      go_wp2_with fail
      go_ret2
      exact ⟨⟨_, rfl, by
        have h := HR.out
        rw [show es.take k = es by rw [HKN.out, HN.out, List.take_length], HN.out] at h
        exact h⟩, HB.out⟩
set_option maxRecDepth 20000 in
set_option maxHeartbeats 4000000 in
theorem encode_false (a : Option Addr) (n c : Nat) (es : List Et) (w : World) (hnd : NdOk w a n c es) (hck : chkN false es = 0) :
    Calls Try.prog 10 #[.agg #[.bool false, .slice a n c]] w fun e w' => (∃ v, e = .returned (.tuple #[v, .int .i64 0]) ∧ Row 5 w.heap.size w' v (encN false es)) ∧ Below w.heap.size w w' := by
  obtain ⟨c1, c2, -, -⟩ := chkN_zero hck
  have HN := hid hnd.1
  have HS := hid hnd.2.1.old
  have hln : (n : Int) ≤ 16 := by have := hnd.1; omega
  have HOK := hid (badN_false.1 c2)
  have hnu : IntKind.u8.wrap (n : Int) = (n : Int) := by
    have : IntKind.u8.wrap (n : Int) = (n : Int) % 256 := by simp [IntKind.wrap, IntKind.bits, IntKind.signed]
    rw [this]; omega
  obtain ⟨g, hg⟩ : ∃ g, g = w.heap.size := ⟨_, rfl⟩
  have HG := hid hg
  obtain ⟨w0, hw0⟩ : ∃ w0, w0 = w.alloc (.cells #[.bool false, .slice a n c] 27) := ⟨_, rfl⟩
  have HW0 := hid hw0
  have HB0 : Hid (Below w.heap.size w w0) := hid (by rw [hw0]; exact allocBelow w _)
  have hx0 : w0.heap[g]? = some (.cells #[.bool false, .slice a n c] 27 (0, 0)) := by rw [hw0, hg]; exact heap_alloc_new w _
  have HX0 := hid hx0
  have h := check_any a n c false es w0 (hnd.below HB0.out)
  rw [hck] at h
  have HCK := hid h
  have hb0 : w0.cell? ⟨g, 0, none⟩ = some (.bool false) := by rw [cell_of_row _ _ _ _ _ _ hx0]; rfl
  have hb1 : w0.cell? ⟨g, 1, none⟩ = some (.slice a n c) := by rw [cell_of_row _ _ _ _ _ _ hx0]; rfl
  clear hnd hck hg hw0 hx0 h c1 c2
  go_enter Try.func10, Try.ntmps10
  go_upto_region 1 with fail
  rw [← HW0.out, ← HG.out]
  go_wp2_with fail
  refine HCK.out.mono ?_
  clear HCK
  rintro e w1 ⟨rfl, hb⟩
  have HB1 : Hid (Below w.heap.size w w1) := hid (HB0.out.trans (hb.mono HB0.out.size))
  have hx1 := row_below HX0.out hb
  have HX1 := hid hx1
  clear hb hb0 hb1 HB0 HX0 HW0
  obtain ⟨w2, hw2⟩ : ∃ w2, w2 = w1.alloc (.cells #[.int .u8 0, .int .u8 (n : Int)] 5) := ⟨_, rfl⟩
  have HW2 := hid hw2
  obtain ⟨g2, hg2⟩ : ∃ g, g = w1.heap.size := ⟨_, rfl⟩
  have HG2 := hid hg2
  have HB2 : Hid (Below w.heap.size w w2) := hid (by rw [hw2]; exact HB1.out.alloc HB1.out.size _)
  have hrow0 : w2.heap[g2]? = some (.cells #[.int .u8 0, .int .u8 (n : Int)] 5 (0, 0)) := by rw [hw2, hg2]; exact heap_alloc_new w1 _
  have HROW : Hid (Row 5 w.heap.size w2 (.slice (some ⟨g2, 0, none⟩) 2 2) ([0, n] ++ ebytes (es.take 0))) := hid (by
    refine ⟨rfl, .inr ⟨g2, 2, _, rfl, by have := HB1.out.size; omega, hrow0, Nat.le_refl _, by unfold maxLen; omega, rfl, ?_⟩⟩
    simp [u8s, ebytes])
  have hb0 : w1.cell? ⟨g, 0, none⟩ = some (.bool false) := by rw [cell_of_row _ _ _ _ _ _ hx1]; rfl
  have hb1 : w1.cell? ⟨g, 1, none⟩ = some (.slice a n c) := by rw [cell_of_row _ _ _ _ _ _ hx1]; rfl
  have hglt : g < w1.heap.size := (Array.getElem?_eq_some_iff.1 hx1).1
  have hgne : (g = w1.heap.size) = False := eq_false (by omega)
  have hgne2 : (w1.heap.size = g) = False := eq_false (by omega)
  clear hx1 hw2 hg2 hrow0
  go_wp2_with fail
  rw [← HW2.out, ← HG2.out]
  clear hb0 hb1 hglt hgne hgne2 hnu
  go_loopw [5, 25] (fun v i wr => ∃ k : Nat, k ≤ n ∧ i = .int .i64 (k : Int) ∧ Row 5 w.heap.size wr v ([0, n] ++ ebytes (es.take k)) ∧ Below w.heap.size w wr) (fun _ i _ => n - (intOf i).toNat)
  case atStart => exact ⟨0, Nat.zero_le _, rfl, HROW.out, HB2.out⟩
  case round =>
    clear HROW HB2 HX1 HB1 HW2
    obtain ⟨k, hk, rfl, hr, hb⟩ := hrel
    have HR := hid hr
    have HB := hid hb
    clear hr hb
    by_cases hlt : (k : Int) < n
    · have hkn : (k < n) = True := eq_true (by omega)
      obtain ⟨b, o, rfl, hx1, hx2, hx3⟩ := (HS.out.below HB.out).cell (i := k) (by have := HN.out; omega)
      have HSN := hid (takeSnoc (bs := es) (d := et0) (k := k) (by have := HN.out; omega))
      have hokk := HOK.out _ (memGetD (zs := es) (d := et0) (k := k) (by have := HN.out; omega))
      obtain ⟨⟨⟨s, z⟩, p⟩, hx⟩ : ∃ x, x = es.getD k et0 := ⟨_, rfl⟩
      rw [← hx] at hx1 hx2 hx3 HSN hokk
      simp only at hx1 hx2 hx3
      have hval := okE_iff.1 hokk
      simp only at hval
      have HVAL : Hid ((0 ≤ s ∧ s < 16) ∧ (0 ≤ z ∧ z < 65536) ∧ 1 < p ∧ p < 2048) := hid (by omega)
      have HEL := hid (ebyte_len hokk)
      have HLEN : Hid (([0, n] ++ ebytes (es.take k)).length ≤ 600) := hid (by
        have h1 := ebytes_len (es := es.take k) (fun e he => HOK.out e (List.mem_of_mem_take he))
        rw [List.length_take] at h1
        rw [List.length_append]
        simp only [List.length_cons, List.length_nil]
        omega)
      obtain ⟨X0, hX0⟩ : ∃ X0, X0 = [0, n] ++ ebytes (es.take k) := ⟨_, rfl⟩
      have HX00 := hid hX0
      rw [← hX0] at HR HLEN
      obtain ⟨P1, hP1⟩ : ∃ P1, P1 = ebyte ((s, z), p) := ⟨_, rfl⟩
      have HP1 := hid hP1
      rw [← hP1] at HEL
      obtain ⟨x1, hxx1⟩ : ∃ x1, x1 = wr.alloc (.cells #[.int .i64 s, .int .i64 z, .int .i64 p] 57) := ⟨_, rfl⟩
      have HXX1 := hid hxx1
      obtain ⟨x2, hxx2⟩ : ∃ x2, x2 = x1.alloc (.cells #[.int .i64 s, .int .i64 z, .int .i64 p] 3) := ⟨_, rfl⟩
      have HXX2 := hid hxx2
      obtain ⟨gi, hgi⟩ : ∃ gi, gi = x1.heap.size := ⟨_, rfl⟩
      have HGI := hid hgi
      have hbx : Below wr.heap.size wr x1 := by rw [hxx1]; exact allocBelow wr _
      have hbx2 : Below wr.heap.size wr x2 := by rw [hxx2]; exact hbx.alloc hbx.size _
      have HRX := hid (HR.out.kept hbx2)
      have HBX : Hid (Below w.heap.size w x2) := hid (HB.out.trans (hbx2.mono HB.out.size))
      have hxr : x2.heap[gi]? = some (.cells #[.int .i64 s, .int .i64 z, .int .i64 p] 3 (0, 0)) := by rw [hxx2, hgi]; exact heap_alloc_new x1 _
      have h := put_any (fun _ => True) (some ⟨gi, 0, none⟩) 3 [s, z, p] x2 (.inr ⟨gi, 0, rfl, trivial, fun i hi => by
        rw [cell_of_row _ _ _ _ _ _ hxr]
        match i, hi with
        | 0, _ => rfl
        | 1, _ => rfl
        | 2, _ => rfl
        | i + 3, hi => simp at hi; omega⟩) (by simp) (by
        intro q hq
        simp at hq
        rcases hq with rfl | rfl | rfl <;> omega)
      rw [put_three ⟨hval.1.1, hval.1.2.2.1, by omega⟩, ← hP1] at h
      have HPUT := hid h
      have hxc0 : x1.cell? ⟨wr.heap.size, 0, none⟩ = some (.int .i64 s) := by rw [hxx1, cell_of_row _ _ _ _ _ _ (heap_alloc_new wr _)]; rfl
      have hxc1 : x1.cell? ⟨wr.heap.size, 1, none⟩ = some (.int .i64 z) := by rw [hxx1, cell_of_row _ _ _ _ _ _ (heap_alloc_new wr _)]; rfl
      have hxc2 : x1.cell? ⟨wr.heap.size, 2, none⟩ = some (.int .i64 p) := by rw [hxx1, cell_of_row _ _ _ _ _ _ (heap_alloc_new wr _)]; rfl
      clear hx hokk hval hX0 hP1 hbx hbx2 hxr h hxx1 hxx2 hgi HR HB
      go_upto_region 10 with fail
      rw [← HXX1.out]
      go_wp2_with fail
      rw [← HGI.out, ← HXX2.out]
      refine HPUT.out.mono ?_
      clear HPUT
      rintro e x3 ⟨v3, rfl, hr3, hb3⟩
      obtain ⟨a3, c3, rfl, -, -, -, hs3⟩ := hr3.sl
      have HR3 := hid (HRX.out.kept hb3)
      have HB3 : Hid (Below w.heap.size w x3) := hid (HBX.out.trans (hb3.mono HBX.out.size))
      have HS3 := hid hs3
      clear hr3 hb3 hs3 HRX HBX HXX1 HXX2 hxc0 hxc1 hxc2 hx1 hx2 hx3
      go_wp2_with (refine wpList_append_any rfl (.tmp 29) (.tmp 39) 30 rfl w.heap.size 5 (.int .u8 0) 1 Try.underlying30 infoU8N rfl _ _ _ rfl HR3.out a3 _ _ (u8s P1) rfl (u8s_length _) HS3.out.some_len HS3.out.cells (u8s_one _) (by have h1 := HLEN.out; have h2 := HEL.out; unfold maxLen; omega) (by have h1 := HLEN.out; have h2 := HEL.out; omega) (by have := HB3.out.size; omega) ?_)
      intro u4 x4 hv4 hg4 _
      have HB4 : Hid (Below w.heap.size w x4) := hid (below_owned HB3.out HR3.out (Nat.le_refl _) hg4)
      have HR4 := hid (rowMore hv4 (by simp only [List.length_append]))
      clear hv4 hg4 HR3 HB3 HS3
      have HFIN : Hid (X0 ++ P1 = [0, n] ++ ebytes (es.take (k + 1))) := hid (by
        rw [HSN.out, ebytes_snoc, HX00.out, HP1.out]
        simp)
      go_wp2_with fail
      go_roundw
      case rel => exact ⟨k + 1, by omega, by go_num, by have h := HR4.out; rw [HFIN.out] at h; exact h, HB4.out⟩
      case measure => simp [intOf]; omega
    · have hkf : (k < n) = False := eq_false (by omega)
      have HKN : Hid (k = n) := hid (by omega)
      clear hlt
      go_wp2_with fail
      go_ret2
      exact ⟨⟨_, rfl, by
        have h := HR.out
        rw [show es.take k = es by rw [HKN.out, HN.out, List.take_length], HN.out] at h
        exact h⟩, HB.out⟩
set_option maxRecDepth 20000 in
set_option maxHeartbeats 4000000 in
theorem encode_bad (a : Option Addr) (n c : Nat) (lf : Bool) (es : List Et) (w : World) (hnd : NdOk w a n c es) (hck : chkN lf es ≠ 0) :
    Calls Try.prog 10 #[.agg #[.bool lf, .slice a n c]] w fun e w' => e = .returned (.tuple #[.slice none 0 0, .int .i64 (chkN lf es)]) ∧ Below w.heap.size w w' := by
  obtain ⟨g, hg⟩ : ∃ g, g = w.heap.size := ⟨_, rfl⟩
  have HG := hid hg
  obtain ⟨w0, hw0⟩ : ∃ w0, w0 = w.alloc (.cells #[.bool lf, .slice a n c] 27) := ⟨_, rfl⟩
  have HW0 := hid hw0
  have HB0 : Hid (Below w.heap.size w w0) := hid (by rw [hw0]; exact allocBelow w _)
  have hx0 : w0.heap[g]? = some (.cells #[.bool lf, .slice a n c] 27 (0, 0)) := by rw [hw0, hg]; exact heap_alloc_new w _
  have HCK := hid (check_any a n c lf es w0 (hnd.below HB0.out))
  have hb0 : w0.cell? ⟨g, 0, none⟩ = some (.bool lf) := by rw [cell_of_row _ _ _ _ _ _ hx0]; rfl
  have hb1 : w0.cell? ⟨g, 1, none⟩ = some (.slice a n c) := by rw [cell_of_row _ _ _ _ _ _ hx0]; rfl
  obtain ⟨C, hC⟩ : ∃ C, C = chkN lf es := ⟨_, rfl⟩
  rw [← hC] at HCK hck ⊢
  have hc1 : ((C : Int) == 0) = false := beq_eq_false_iff_ne.2 hck
  have hc2 : (C = 0) = False := eq_false hck
  clear hnd hck hg hw0 hx0 hC
  go_enter Try.func10, Try.ntmps10
  go_upto_region 1 with fail
  rw [← HW0.out, ← HG.out]
  go_wp2_with fail
  refine HCK.out.mono ?_
  clear HCK
  rintro e w1 ⟨rfl, hb⟩
  have HB1 : Hid (Below w.heap.size w w1) := hid (HB0.out.trans (hb.mono HB0.out.size))
  clear hb hb0 hb1 HB0 HW0
  go_wp2_with fail
  go_ret2
  exact ⟨rfl, HB1.out⟩
theorem encode_any (a : Option Addr) (n c : Nat) (lf : Bool) (es : List Et) (w : World) (hnd : NdOk w a n c es) :
    Calls Try.prog 10 #[.agg #[.bool lf, .slice a n c]] w fun e w' => (∃ v, e = .returned (.tuple #[v, .int .i64 (chkN lf es)]) ∧ Row 5 w.heap.size w' v (if chkN lf es = 0 then encN lf es else [])) ∧ Below w.heap.size w w' := by
  by_cases h : chkN lf es = 0
  · rw [if_pos h, h]
    cases lf
    · exact encode_false a n c es w hnd h
    · exact encode_true a n c es w hnd h
  · rw [if_neg h]
    refine (encode_bad a n c lf es w hnd h).mono ?_
    rintro e w' ⟨rfl, hb⟩
    exact ⟨⟨_, rfl, World.ownsRow_nil _ _ _ _⟩, hb⟩
end Go.Proofs.Ytokeihpmagcneaa
