/- THE CHAPTER'S EXAMPLE (layer 14), over the program's contracts. -/
import Derived.Test.YtbhpfdpcafdeaaaAfP
namespace Go.Inc
open Go.RowKit
theorem si_lit (w : World) (zs : List Int) (T : TypeId) : Si (fun q => q = w.heap.size) (w.alloc (.cells (zs.map fun z => Value.int .i64 z).toArray T)) (some ⟨w.heap.size, 0, none⟩) zs :=
  .inr ⟨_, _, rfl, rfl, fun i hi => by
    rw [cell_of_row _ w.heap.size _ _ _ _ (heap_alloc_new w _)]
    rw [Nat.zero_add, List.getD_eq_getElem?_getD, List.getElem?_eq_getElem hi]
    simp [hi]⟩
theorem sym_known : symT [99, 100, 1, 1, 0] 258 = [0, 1, 99, 100] := by decide +kernel
end Go.Inc
namespace Go.Proofs.Ytbhpfdpcafdeaaa
open Go.RowKit Go.Inc
set_option maxRecDepth 20000 in
set_option maxHeartbeats 2000000 in
theorem known14_any {Tb : World → Nat → List Nat → List Nat → Prop} (pa : PA Tb) (x : World) :
    Calls Try.prog 14 #[] x fun e w' => e = .returned (.bool true) ∧ Below x.heap.size x w' := by
  go_enter Try.func14, Try.ntmps14
  go_wp2_with (refine wpList_convert_bytes rfl 49 5 (.tmp 8) rfl Try.underlying49 Try.underlying5 x.heap.size 2 2 rfl #[.int .u8 97, .int .u8 98] 5 (heap_alloc_new x _) ?_)
  intro x0 f1 f2 hr1 hg1
  obtain ⟨x1, hx1⟩ : ∃ x1, x1 = x0.alloc (.cells #[.slice (some ⟨x.heap.size, 0, none⟩) 2 2, .slice none 0 0] 49) := ⟨_, rfl⟩
  have hb0 : Below x.heap.size x x0 := below_grown ((Below.refl x.heap.size x).alloc (Nat.le_refl _) _) hg1 (Nat.le_refl _) (by simp)
  have hb1 : Below x.heap.size x x1 := by rw [hx1]; exact hb0.alloc hb0.size _
  have hs0 : Sl (fun _ => True) x0 (some ⟨x.heap.size, 0, none⟩) [97, 98] := (Sl.row [97, 98] hr1).mono fun _ _ _ => trivial
  have hpt : Pt (fun _ => True) x1 (some ⟨x0.heap.size, 0, none⟩) [[97, 98], []] := by
    refine ⟨fun p hp => ?_, .inr ⟨x0.heap.size, 0, fun i => if i = 0 then some ⟨x.heap.size, 0, none⟩ else none, fun i => if i = 0 then 2 else 0, rfl, trivial, ?_⟩⟩
    · simp at hp
      rcases hp with rfl | rfl <;> (intro z hz; simp at hz; try omega)
    · rw [hx1]
      exact Parts.two hs0 (Sl.nil _ _ none) 2 0 ⟨by decide, by decide⟩ ⟨by decide, by decide⟩ 49
  have HTX := hid (pa.pText _ x1 _ 2 [[97, 98], []] hpt (by decide))
  have HX1 := hid hx1
  have HB1 := hid hb1
  have HNEW := hid (fun (y : World) (a : Option Addr) (c : Nat) (h : Si (fun g => x1.heap.size ≤ g) y a [99, 100, 1, 1, 0]) => pa.pNew _ y a c [99, 100, 1, 1, 0] h (by decide) (by decide))
  rw [sym_known] at HNEW
  clear hr1 hg1 hx1 hb0 hb1 hs0 hpt
  go_wp2_with fail
  rw [← HX1.out]
  refine HTX.out.mono ?_
  rintro e y1 ⟨u, cu, rfl, hsu, hb, -, -⟩
  have HSU : Hid (Si (fun g => x1.heap.size ≤ g) y1 u [99, 100, 1, 1, 0]) := hid hsu
  have HB2 := hid (HB1.out.trans (hb.mono HB1.out.size))
  have e5 : (txtD [[97, 98], []] ++ [0]).length = 5 := rfl
  rw [e5]
  clear hsu hb HTX HX1 HB1
  go_wp2_with fail
  refine (HNEW.out y1 u cu HSU.out).mono ?_
  rintro e y2 ⟨b, rfl, htb, hb⟩
  have HTB := hid htb
  have HSU2 := hid (HSU.out.below hb)
  have HB3 := hid (HB2.out.trans (hb.mono HB2.out.size))
  have HCO := hid (pa.pCodes _ y2 b _ _ u cu [99, 100, 1, 1, 0] HTB.out HSU2.out (by decide) (by decide))
  clear htb hb HNEW HSU HB2
  go_wp2_with fail
  refine HCO.out.mono ?_
  rintro e y3 ⟨u3, c3, rfl, hs3, hb⟩
  have HS3 : Hid (Si (fun g => y2.heap.size ≤ g) y3 u3 [2, 3, 1, 1, 0]) := hid hs3
  have HSU3 := hid (HSU2.out.below hb)
  have HB4 := hid (HB3.out.trans (hb.mono HB3.out.size))
  have e6 : ([99, 100, 1, 1, 0] : List Int).length = 5 := rfl
  rw [e6]
  clear hs3 hb HCO HSU2 HB3 HTB
  obtain ⟨y4, hy4⟩ : ∃ y4, y4 = y3.alloc (.cells #[.int .i64 99, .int .i64 100, .int .i64 1, .int .i64 1, .int .i64 0] 3) := ⟨_, rfl⟩
  have hb34 : Below y3.heap.size y3 y4 := by rw [hy4]; exact (Below.refl _ _).alloc (Nat.le_refl _) _
  have HSM := hid (refSame_any _ _ u (some ⟨y3.heap.size, 0, none⟩) cu 5 [99, 100, 1, 1, 0] [99, 100, 1, 1, 0] y4 (HSU3.out.below hb34) (by rw [hy4]; exact si_lit y3 [99, 100, 1, 1, 0] 3) (by decide))
  have HY4 := hid hy4
  have HB5 := hid (HB4.out.trans (hb34.mono HB4.out.size))
  have HS4 := hid (HS3.out.below hb34)
  clear hy4 hb34 HSU3 HB4 HS3
  go_wp2_with fail
  rw [← HY4.out]
  refine HSM.out.mono ?_
  rintro e y5 ⟨rfl, hb⟩
  have HB6 := hid (HB5.out.trans (hb.mono HB5.out.size))
  have HS5 := hid (HS4.out.below hb)
  clear hb HSM HY4 HB5 HS4
  obtain ⟨y6, hy6⟩ : ∃ y6, y6 = y5.alloc (.cells #[.int .i64 2, .int .i64 3, .int .i64 1, .int .i64 1, .int .i64 0] 3) := ⟨_, rfl⟩
  have hb56 : Below y5.heap.size y5 y6 := by rw [hy6]; exact (Below.refl _ _).alloc (Nat.le_refl _) _
  have HSM := hid (refSame_any _ _ u3 (some ⟨y5.heap.size, 0, none⟩) c3 5 [2, 3, 1, 1, 0] [2, 3, 1, 1, 0] y6 (HS5.out.below hb56) (by rw [hy6]; exact si_lit y5 [2, 3, 1, 1, 0] 3) (by decide))
  have HY6 := hid hy6
  have HB7 := hid (HB6.out.trans (hb56.mono HB6.out.size))
  clear hy6 hb56 HS5 HB6
  go_wp2_with fail
  rw [← HY6.out]
  refine HSM.out.mono ?_
  rintro e y7 ⟨rfl, hb⟩
  have HB8 := hid (HB7.out.trans (hb.mono HB7.out.size))
  clear hb HSM HY6 HB7
  go_wp2_with fail
  go_ret
  exact ⟨rfl, HB8.out⟩
end Go.Proofs.Ytbhpfdpcafdeaaa
