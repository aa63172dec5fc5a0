/- CONTRACTS: the chapter's example; does an array tell these numbers; 'PackedNil' walked. -/
import Derived.Test.YtcgapplblhbdlaaPkK
import Derived.Test.YtcgapplblhbdlaaSame
import Derived.Test.YtcgapplblhbdlaaVarH
namespace Go.Proofs.Ytcgapplblhbdlaa
open Go.RowKit Go.Inc

theorem example_bytes : pkBs 3 [5, 1, 7] = [3, 3, 205, 1] := by
  have h1 : Var.put 3 = [3] := Var.put_low (by decide)
  unfold pkBs
  rw [show [5, 1, 7].length = 3 from rfl, h1]
  decide +kernel
theorem ints_new {x : World} (ms : List Nat) (cs : Array Value) (h : cs.toList = nvals ms) (T : TypeId) : Si (fun b => b = x.heap.size) (x.alloc (.cells cs T)) (some ⟨x.heap.size, 0, none⟩) (nI ms) :=
  .inr ⟨_, _, rfl, rfl, fun i hi => by
    rw [nI_len] at hi
    rw [cell_of_row _ x.heap.size _ _ _ _ (heap_alloc_new x _), nI_get]
    have h2 := nvals_get hi
    rw [← h] at h2
    simpa using h2⟩
theorem pkKnown_any (x : World) : Calls Try.prog 7 #[] x fun e w' => e = .returned (.bool true) ∧ Below x.heap.size x w' := by
  obtain ⟨x1, hx1⟩ : ∃ x1, x1 = x.alloc (.cells #[.int .i64 5, .int .i64 1, .int .i64 7] 3) := ⟨_, rfl⟩
  have hb1 : Below x.heap.size x x1 := by rw [hx1]; exact (Below.refl _ _).alloc (Nat.le_refl _) _
  have HN := hid (pkNew_any _ x1 3 (some ⟨x.heap.size, 0, none⟩) 3 [5, 1, 7] (by decide) (by decide) (by rw [hx1]; exact ints_new [5, 1, 7] _ rfl 3) (by decide) (by intro y hy; simp at hy; omega))
  have HX := hid hx1
  have HB1 := hid hb1
  clear hx1 hb1
  go_enter Try.func7, Try.ntmps7
  go_wp2_with fail
  rw [← HX.out]
  refine HN.out.mono ?_
  rintro e x2 ⟨⟨p, rfl, b, v, V, rfl, hb, hat⟩, hb2⟩
  have HB2 := hid (HB1.out.trans (hb2.mono HB1.out.size))
  have HBY := hid (pkBytes_any x2 b _ v 3 [5, 1, 7] V hat)
  clear hb2 hat hb HN
  go_wp2_with fail
  refine HBY.out.mono ?_
  rintro e x3 ⟨u, rfl, hr, hb3⟩
  obtain ⟨a, c, rfl, hn, hc, hc2, hs⟩ := Row.sl hr
  have HB3 := hid (HB2.out.trans (hb3.mono HB2.out.size))
  have HS := hid (same_any (fun _ => True) (fun b => b = x3.heap.size) a (some ⟨x3.heap.size, 0, none⟩) c 4 (pkBs 3 [5, 1, 7]) [3, 3, 205, 1] (x3.alloc (.cells #[.int .u8 3, .int .u8 3, .int .u8 205, .int .u8 1] 5)) ((hs.mono fun _ _ _ => trivial).below ((Below.refl _ _).alloc (Nat.le_refl _) _)) (Sl.row [3, 3, 205, 1] (heap_alloc_new x3 _)) (by rw [example_bytes]; decide))
  rw [example_bytes] at HS
  have HL : Hid ((pkBs 3 [5, 1, 7]).length = 4) := hid (by rw [example_bytes]; rfl)
  have HB4 : Hid (Below x.heap.size x (x3.alloc (.cells #[.int .u8 3, .int .u8 3, .int .u8 205, .int .u8 1] 5))) := hid (HB3.out.alloc HB3.out.size _)
  clear hr hb3 hs hc hc2 hn HBY
  rw [HL.out]
  go_wp2_with fail
  refine HS.out.mono ?_
  rintro e x4 ⟨rfl, hb4⟩
  have HB5 := hid (HB4.out.trans (hb4.mono HB4.out.size))
  clear hb4
  go_wp2_with fail
  go_ret
  exact ⟨rfl, HB5.out⟩

set_option maxRecDepth 20000 in
set_option maxHeartbeats 1000000 in
theorem pkNil_walk (x : World) (i : Int) (s : Value) : Calls Try.prog 5 #[.int .i64 i, s] x fun e w' => e = .returned (.bool true) ∧ Below x.heap.size x w' := by
  go_enter Try.func5, Try.ntmps5
  go_wp2_with fail
  refine (pkAt_nil x i).mono ?_
  rintro e w1 ⟨rfl, rfl⟩
  go_wp2_with fail
  refine (pkKnown_any x).mono ?_
  rintro e x2 ⟨rfl, hb2⟩
  have HB2 := hid hb2
  clear hb2
  go_wp2_with fail
  refine (pkSet_nil x2 i 1).mono ?_
  rintro e w1 ⟨rfl, rfl⟩
  go_wp2_with fail
  refine (pkAdd_nil x2 s).mono ?_
  rintro e x3 ⟨rfl, hb3⟩
  have HB3 := hid (HB2.out.trans (hb3.mono HB2.out.size))
  clear hb3
  go_wp2_with fail
  refine (pkLen_nil x3).mono ?_
  rintro e w1 ⟨rfl, rfl⟩
  go_wp2_with fail
  refine (pkWidth_nil x3).mono ?_
  rintro e w1 ⟨rfl, rfl⟩
  go_wp2_with fail
  refine (pkAll_nil x3).mono ?_
  rintro e w1 ⟨rfl, rfl⟩
  go_wp2_with fail
  refine (pkBytes_nil x3).mono ?_
  rintro e w1 ⟨rfl, rfl⟩
  go_wp2_with fail
  refine (pkCopy_nil x3).mono ?_
  rintro e w1 ⟨rfl, rfl⟩
  go_wp2_with fail
  refine (pkSame_nil x3).mono ?_
  rintro e w1 ⟨rfl, rfl⟩
  go_wp2_with fail
  refine (pkSize_bad 0 1 x3 (by decide)).mono ?_
  rintro e w1 ⟨rfl, rfl⟩
  go_wp2_with fail
  refine (pkSize_bad 32 1 x3 (by decide)).mono ?_
  rintro e w1 ⟨rfl, rfl⟩
  go_wp2_with fail
  refine (pkSize_bad 3 (-1) x3 (by decide)).mono ?_
  rintro e w1 ⟨rfl, rfl⟩
  go_wp2_with fail
  refine (pkSize_bad 3 65537 x3 (by decide)).mono ?_
  rintro e w1 ⟨rfl, rfl⟩
  go_wp2_with fail
  go_ret
  exact ⟨rfl, HB3.out⟩
end Go.Proofs.Ytcgapplblhbdlaa
