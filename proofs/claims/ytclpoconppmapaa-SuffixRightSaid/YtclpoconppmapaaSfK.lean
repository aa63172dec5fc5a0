/- THE CHAPTER'S EXAMPLE (layer 15), over the program's contracts. -/
import Derived.Test.YtclpoconppmapaaSfE
namespace Go.Inc
open Go.RowKit
theorem si_lit (w : World) (zs : List Int) (T : TypeId) : Si (fun q => q = w.heap.size) (w.alloc (.cells (zs.map fun z => Value.int .i64 z).toArray T)) (some ⟨w.heap.size, 0, none⟩) zs :=
  .inr ⟨_, _, rfl, rfl, fun i hi => by
    rw [cell_of_row _ w.heap.size _ _ _ _ (heap_alloc_new w _)]
    rw [Nat.zero_add, List.getD_eq_getElem?_getD, List.getElem?_eq_getElem hi]
    simp [hi]⟩
theorem known_ck : ckT [2, 1, 2, 1, 0] = 0 := by decide +kernel
theorem known_kinds : kdTo [2, 1, 2, 1, 0] 5 = [false, true, false, false, true] := by decide +kernel
theorem known_sort : srT [2, 1, 2, 1, 0] 5 = [4, 3, 1, 2, 0] := by decide +kernel
theorem known_firsts : fsT [2, 1, 2, 1, 0] 5 = [1, 4] := by decide +kernel
end Go.Inc
namespace Go.Proofs.Ytclpoconppmapaa
open Go.RowKit Go.Inc
set_option maxRecDepth 20000 in
set_option maxHeartbeats 2000000 in
theorem known15_any (ps : PS) (x : World) :
    Calls Try.prog 18 #[] x fun e w' => e = .returned (.bool true) ∧ Below x.heap.size x w' := by
  go_enter Try.func18, Try.ntmps18
  obtain ⟨x1, hx1⟩ : ∃ x1, x1 = x.alloc (.cells #[.int .i64 2, .int .i64 1, .int .i64 2, .int .i64 1, .int .i64 0] 3) := ⟨_, rfl⟩
  have hb1 : Below x.heap.size x x1 := by rw [hx1]; exact (Below.refl _ _).alloc (Nat.le_refl _) _
  have hs1 : So (fun _ => True) x1 (.slice (some ⟨x.heap.size, 0, none⟩) 5 5) [2, 1, 2, 1, 0] := ⟨_, 5, rfl, by rw [hx1]; exact (si_lit x [2, 1, 2, 1, 0] 3).mono fun _ _ _ => trivial, Nat.le_refl _, by unfold maxLen; decide, fun h => by cases h⟩
  have HK := hid (ps.pKinds _ x1 _ _ hs1 (by decide) known_ck)
  have HX1 := hid hx1
  have HB1 := hid hb1
  have HS1 := hid hs1
  clear hx1 hb1 hs1
  go_wp2_with fail
  rw [← HX1.out]
  refine HK.out.mono ?_
  rintro e w2 ⟨uk, ck, rfl, hk, hb⟩
  have HS2 := hid (HS1.out.below hb)
  have HB2 := hid (HB1.out.trans (hb.mono HB1.out.size))
  have hk2 : Bl (fun g => x1.heap.size ≤ g) w2 uk [false, true, false, false, true] := hk
  have HKB := hid hk2
  have e5 : ([2, 1, 2, 1, 0] : List Int).length = 5 := rfl
  rw [e5]
  have HSR := hid (ps.pSort _ w2 _ _ HS2.out (by decide) known_ck)
  clear hk hk2 hb HK HX1 HB1 HS1
  go_wp2_with fail
  refine HSR.out.mono ?_
  rintro e w3 ⟨u3, rfl, h3, hb⟩
  obtain ⟨a3, c3, rfl, hs3, hc3, hm3, hn3⟩ := h3
  have hs3' : Si (fun g => w2.heap.size ≤ g) w3 a3 [4, 3, 1, 2, 0] := hs3
  have HS3 := hid (HS2.out.below hb)
  have HB3 := hid (HB2.out.trans (hb.mono HB2.out.size))
  have HKB3 := hid (HKB.out.below hb)
  have HO3 := hid hs3'
  have e3 : (zsN (srT [2, 1, 2, 1, 0] ([2, 1, 2, 1, 0] : List Int).length)).length = 5 := rfl
  rw [e3]
  have HFR := hid (ps.pFirsts _ w3 _ _ HS3.out (by decide) known_ck)
  clear hs3 hs3' hc3 hm3 hn3 hb HSR HB2 HS2 HKB
  go_wp2_with fail
  refine HFR.out.mono ?_
  rintro e w4 ⟨u4, rfl, h4, hb⟩
  obtain ⟨a4, c4, rfl, hs4, hq4, hm4, hn4⟩ := h4
  have hs4' : Si (fun g => w3.heap.size ≤ g) w4 a4 [1, 4] := hs4
  have HB4 := hid (HB3.out.trans (hb.mono HB3.out.size))
  have hkb4 := HKB3.out.below hb
  have HO4 := hid (HO3.out.below hb)
  have HF4 := hid hs4'
  have e4 : (zsN (fsT [2, 1, 2, 1, 0] ([2, 1, 2, 1, 0] : List Int).length)).length = 2 := rfl
  rw [e4]
  obtain ⟨kb, ko, rfl, hc0, hc1, hc2, hc3, hc4⟩ : ∃ kb ko, uk = some ⟨kb, ko, none⟩ ∧ w4.cell? ⟨kb, ko, none⟩ = some (.bool false) ∧ w4.cell? ⟨kb, ko + 1, none⟩ = some (.bool true) ∧ w4.cell? ⟨kb, ko + 2, none⟩ = some (.bool false) ∧ w4.cell? ⟨kb, ko + 3, none⟩ = some (.bool false) ∧ w4.cell? ⟨kb, ko + 4, none⟩ = some (.bool true) := by
    rcases hkb4 with h | ⟨b, o, h, -, hc⟩
    · cases h
    · exact ⟨b, o, h, hc 0 (by decide), hc 1 (by decide), hc 2 (by decide), hc 3 (by decide), hc 4 (by decide)⟩
  obtain ⟨y4, hy4⟩ : ∃ y4, y4 = w4.alloc (.cells #[.int .i64 4, .int .i64 3, .int .i64 1, .int .i64 2, .int .i64 0] 3) := ⟨_, rfl⟩
  have hb44 : Below w4.heap.size w4 y4 := by rw [hy4]; exact (Below.refl _ _).alloc (Nat.le_refl _) _
  have HSM := hid (refSame_any _ _ a3 (some ⟨w4.heap.size, 0, none⟩) c3 5 [4, 3, 1, 2, 0] [4, 3, 1, 2, 0] y4 (HO4.out.below hb44) (by rw [hy4]; exact si_lit w4 [4, 3, 1, 2, 0] 3) (by decide))
  have HY4 := hid hy4
  have HB5 := hid (HB4.out.trans (hb44.mono HB4.out.size))
  have HF5 := hid (HF4.out.below hb44)
  clear hkb4 hs4 hs4' hq4 hm4 hn4 hb HFR HB3 HS3 HKB3 HO3 hy4 hb44 HB4 HF4
  go_wp2_with fail
  rw [← HY4.out]
  refine HSM.out.mono ?_
  rintro e w5 ⟨rfl, hb⟩
  have HB6 := hid (HB5.out.trans (hb.mono HB5.out.size))
  have HF6 := hid (HF5.out.below hb)
  obtain ⟨y5, hy5⟩ : ∃ y5, y5 = w5.alloc (.cells #[.int .i64 1, .int .i64 4] 3) := ⟨_, rfl⟩
  have hb55 : Below w5.heap.size w5 y5 := by rw [hy5]; exact (Below.refl _ _).alloc (Nat.le_refl _) _
  have HSM2 := hid (refSame_any _ _ a4 (some ⟨w5.heap.size, 0, none⟩) c4 2 [1, 4] [1, 4] y5 (HF6.out.below hb55) (by rw [hy5]; exact si_lit w5 [1, 4] 3) (by decide))
  have HY5 := hid hy5
  have HB7 := hid (HB6.out.trans (hb55.mono HB6.out.size))
  clear hb HSM HY4 HB5 HF5 hy5 hb55 HB6 HF6
  go_wp2_with fail
  rw [← HY5.out]
  refine HSM2.out.mono ?_
  rintro e w6 ⟨rfl, hb⟩
  have HB8 := hid (HB7.out.trans (hb.mono HB7.out.size))
  clear hb HSM2 HY5 HB7
  go_wp2_with fail
  go_ret
  exact ⟨rfl, HB8.out⟩
end Go.Proofs.Ytclpoconppmapaa
