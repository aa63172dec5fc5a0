/- CONTRACTS: the chapter's example (known). -/
import Derived.Test.YtpdkfmanehgabaaDoorBmN
namespace Go.Proofs.YtpdkfmanehgabaaDoor
open Go.RowKit Go.Inc

theorem known_new : newB 8 [0, 1, 2, 5] = [true, true, true, false, false, true, false, false] := by decide
theorem known_runs : runsTo (inB [true, true, true, false, false, true, false, false]) 8 = [(0, 3), (5, 1)] := by decide
theorem known_free : lowB (inB [true, true, true, false, false, true, false, false]) 0 false 8 = 3 := by decide
theorem known_bytes : bytesB (inB [true, true, true, false, false, true, false, false]) 8 = [39] := by decide
theorem si_four (w : World) (T : TypeId) : Si (fun b => b = w.heap.size) (w.alloc (.cells #[.int .i64 0, .int .i64 1, .int .i64 2, .int .i64 5] T)) (some ⟨w.heap.size, 0, none⟩) [0, 1, 2, 5] :=
  .inr ⟨_, _, rfl, rfl, fun i hi => by
    rw [cell_of_row _ w.heap.size _ _ _ _ (heap_alloc_new w _)]
    match i, hi with
    | 0, _ => rfl
    | 1, _ => rfl
    | 2, _ => rfl
    | 3, _ => rfl⟩
set_option maxRecDepth 20000 in
set_option maxHeartbeats 2000000 in
theorem known_any (w : World) (ht : Tab w) : Calls Tryd.prog 8 #[] w fun e w' => e = .returned (.bool true) ∧ Below w.heap.size w w' := by
  have HT := hid ht
  clear ht
  go_enter Tryd.func8, Tryd.ntmps8
  go_upto_region 1 with fail
  go_wp2_with fail
  have HN := hid (new_any _ 8 _ 4 [0, 1, 2, 5] _ (si_four w 3) (by decide) (by decide) (by decide))
  have HB0 : Hid (Below w.heap.size w (w.alloc (.cells #[.int .i64 0, .int .i64 1, .int .i64 2, .int .i64 5] 3))) := hid ((Below.refl _ _).alloc (Nat.le_refl _) _)
  generalize w.alloc (.cells #[.int .i64 0, .int .i64 1, .int .i64 2, .int .i64 5] 3) = w0 at *
  refine HN.out.mono ?_
  clear HN
  rintro e w1 ⟨⟨v, rfl, hv⟩, hb⟩
  rw [known_new] at hv
  have HV := hid hv.bm
  have HB1 : Hid (Below w.heap.size w w1) := hid (HB0.out.trans (hb.mono HB0.out.size))
  have HRU := hid (runsIn_any _ v _ w1 HV.out)
  clear hv hb HB0
  go_wp2_with fail
  refine HRU.out.mono ?_
  clear HRU
  rintro e w2 ⟨⟨x, rfl, hx⟩, hb2⟩
  have HB2 : Hid (Below w.heap.size w w2) := hid (HB1.out.trans (hb2.mono HB1.out.size))
  have HV2 := hid (HV.out.below hb2)
  rw [show ([true, true, true, false, false, true, false, false] : List Bool).length = 8 from rfl, known_runs] at hx
  obtain ⟨a, c, rfl, hc, hc', hr⟩ := hx
  rcases hr with h | ⟨g, rfl, hg, hcells⟩
  · cases h
  rw [show ([(0, 3), (5, 1)] : List Run2).length = 2 from rfl] at hcells ⊢
  have HC0 := hid (hcells 0 (by decide))
  have HC1 := hid (hcells 1 (by decide))
  have HFR := hid (free_any _ v _ 0 w2 HV2.out (HT.out.below HB2.out) (by decide) (by decide))
  have HFR2 : Hid (Calls Tryd.prog 25 #[v, .int .i64 0] w2 fun e w' => e = .returned (.tuple #[.int .i64 3, .int .i64 0]) ∧ w2 = w') := hid (by
    have h := HFR.out
    rw [show ([true, true, true, false, false, true, false, false] : List Bool).length = 8 from rfl, known_free] at h
    exact h)
  clear hb2 HB1 HV hcells hc hc' HFR
  go_wp2_with fail
  refine HFR2.out.mono ?_
  clear HFR2
  rintro e w3 ⟨rfl, rfl⟩
  have c0 : w2.cell? ⟨g, 0, none⟩ = some (.int .i64 0) := HC0.out.1
  have c1 : w2.cell? ⟨g, 1, none⟩ = some (.int .i64 3) := HC0.out.2
  have c2 : w2.cell? ⟨g, 2, none⟩ = some (.int .i64 5) := HC1.out.1
  have c3 : w2.cell? ⟨g, 3, none⟩ = some (.int .i64 1) := HC1.out.2
  clear HC0 HC1
  have HBY := hid (bytes_any _ v _ w2 HV2.out)
  go_wp2_with fail
  refine HBY.out.mono ?_
  clear HBY c0 c1 c2 c3
  rintro e w3 ⟨⟨x, rfl, hx⟩, hb3⟩
  rw [show ([true, true, true, false, false, true, false, false] : List Bool).length = 8 from rfl, known_bytes] at hx
  have HB3 : Hid (Below w.heap.size w w3) := hid (HB2.out.trans (hb3.mono HB2.out.size))
  obtain ⟨a3, c3, rfl, _, _, _, hs3⟩ := hx.sl
  have HS3 := hid hs3
  clear hx hs3 hb3 HB2
  have HSA := hid (fun z (ha : Sl (fun _ => True) z a3 [39]) (hb : Sl (fun b => b = w3.heap.size) z (some ⟨w3.heap.size, 0, none⟩) [39]) => (show Calls Tryd.prog 16 #[.slice a3 1 c3, .slice (some ⟨w3.heap.size, 0, none⟩) 1 1] z fun e w' => e = .returned (.bool true) ∧ Below z.heap.size z w' from (same_any _ _ a3 (some ⟨w3.heap.size, 0, none⟩) c3 1 [39] [39] z ha hb (by decide)).mono fun _ _ h => ⟨by rw [h.1, decide_eq_true rfl], h.2⟩))
  rw [show ([39] : List Nat).length = 1 from rfl]
  go_wp2_with fail
  have HB4 : Hid (Below w3.heap.size w3 (w3.alloc (.cells #[.int .u8 39] 5))) := hid ((Below.refl _ _).alloc (Nat.le_refl _) _)
  have HROW : Hid (Sl (fun b => b = w3.heap.size) (w3.alloc (.cells #[.int .u8 39] 5)) (some ⟨w3.heap.size, 0, none⟩) [39]) := hid (Sl.row [39] (heap_alloc_new w3 _))
  generalize w3.alloc (.cells #[.int .u8 39] 5) = w4 at *
  refine (HSA.out w4 ((HS3.out.below HB4.out).mono fun _ _ _ => trivial) HROW.out).mono ?_
  rintro e w5 ⟨rfl, hb5⟩
  have HB5 : Hid (Below w.heap.size w w5) := hid ((HB3.out.trans (HB4.out.mono HB3.out.size)).trans (hb5.mono (Nat.le_trans HB3.out.size HB4.out.size)))
  clear hb5 HB4 HB3 HROW HSA
  go_wp2_with fail
  go_ret
  exact ⟨rfl, HB5.out⟩
end Go.Proofs.YtpdkfmanehgabaaDoor
