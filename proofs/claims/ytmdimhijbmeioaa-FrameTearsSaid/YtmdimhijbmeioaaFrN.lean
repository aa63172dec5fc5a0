/- CONTRACTS: the law's example. -/
import Derived.Test.YtmdimhijbmeioaaFrF
import Derived.Test.YtmdimhijbmeioaaSame
namespace Go.Proofs.Ytmdimhijbmeioaa
open Go.RowKit Go.Inc

def exFr : Fr := ⟨2, 1, 5, [97, 98]⟩
theorem ex_chk : chk exFr = 0 := by decide
theorem ex_len : (enc exFr).length = 256 := enc_len (by decide)
theorem ex_13 : (enc exFr).take 13 = [241, 2, 1, 0, 0, 0, 5, 0, 2, 0, 97, 98, 0] := by
  unfold enc mark
  rw [List.take_append_of_le_length (by rw [laid_len (by decide)]; decide)]
  decide +kernel

set_option maxHeartbeats 2000000 in
theorem known_any (w : World) : Calls Try.prog 14 #[] w fun r w' => r = .returned (.bool true) ∧ Below w.heap.size w w' := by
  go_enter Try.func14, Try.ntmps14
  go_wp2_with (refine wpList_convert_bytes rfl 22 5 (.tmp 4) rfl Try.underlying22 Try.underlying5 w.heap.size 2 2 rfl #[.int .u8 97, .int .u8 98] 5 (heap_alloc_new w _) ?_)
  intro w1 f1 f2 hr1 hg1
  have HS : Hid (Sl (fun _ => True) w1 (some ⟨w.heap.size, 0, none⟩) [97, 98]) := hid (.inr ⟨w.heap.size, 0, rfl, trivial, fun i hi => by
    have hi2 : i = 0 ∨ i = 1 := by simp at hi; omega
    rcases hi2 with rfl | rfl
    · exact cell_of_row w1 _ 0 _ _ _ hr1
    · exact cell_of_row w1 _ 1 _ _ _ hr1⟩)
  have HB1 : Hid (Below w.heap.size w w1) := hid (below_grown ((Below.refl w.heap.size w).alloc (Nat.le_refl _) _) hg1 (Nat.le_refl _) (by simp))
  have HE := hid (encode_any _ 2 1 5 (some ⟨w.heap.size, 0, none⟩) 2 [97, 98] w1 HS.out (by intro x hx; simp at hx; omega) ⟨by decide, by unfold maxLen; omega⟩ (fun h => by cases h))
  clear hr1 hg1
  go_wp2_with fail
  refine HE.out.mono ?_
  rintro r w2 ⟨⟨v, rfl, hv⟩, hb2⟩
  have hc : chk ⟨2, 1, 5, [97, 98]⟩ = 0 := ex_chk
  rw [hc, if_pos rfl] at hv
  rw [hc]
  obtain ⟨a, c, rfl, hs, hlc, hm, hn⟩ := hv
  have hl : (enc ⟨2, 1, 5, [97, 98]⟩).length = 256 := ex_len
  rw [hl] at hlc ⊢
  have HB2 : Hid (Below w.heap.size w w2) := hid (HB1.out.trans (hb2.mono HB1.out.size))
  have hb3 : Below w2.heap.size w2 (w2.alloc (.cells #[.int .u8 241, .int .u8 2, .int .u8 1, .int .u8 0, .int .u8 0, .int .u8 0, .int .u8 5, .int .u8 0, .int .u8 2, .int .u8 0, .int .u8 97, .int .u8 98, .int .u8 0] 5)) := (Below.refl _ _).alloc (Nat.le_refl _) _
  have hsl := Sl.row (w := w2.alloc (.cells #[.int .u8 241, .int .u8 2, .int .u8 1, .int .u8 0, .int .u8 0, .int .u8 0, .int .u8 5, .int .u8 0, .int .u8 2, .int .u8 0, .int .u8 97, .int .u8 98, .int .u8 0] 5)) (g := w2.heap.size) [241, 2, 1, 0, 0, 0, 5, 0, 2, 0, 97, 98, 0] (heap_alloc_new w2 _)
  have hst := (hs.front 13).below hb3
  have h13 : (enc ⟨2, 1, 5, [97, 98]⟩).take 13 = [241, 2, 1, 0, 0, 0, 5, 0, 2, 0, 97, 98, 0] := ex_13
  have h := same_any _ _ a (some ⟨w2.heap.size, 0, none⟩) c 13 _ _ _ hst hsl (by rw [h13]; decide)
  rw [h13] at h
  have H := hid h
  have HB3 : Hid (Below w.heap.size w _) := hid (HB2.out.trans (hb3.mono HB2.out.size))
  have hlc2 : (13 : Int) ≤ c := by omega
  clear hs hsl hst h hb2 hb3 HE hl hn hm hc h13
  go_wp2_with fail
  refine H.out.mono ?_
  rintro r w3 ⟨rfl, hb4⟩
  have HB4 : Hid (Below w.heap.size w w3) := hid (HB3.out.trans (hb4.mono HB3.out.size))
  clear hb4 H
  go_wp2_with fail
  go_ret
  exact ⟨rfl, HB4.out⟩
end Go.Proofs.Ytmdimhijbmeioaa
