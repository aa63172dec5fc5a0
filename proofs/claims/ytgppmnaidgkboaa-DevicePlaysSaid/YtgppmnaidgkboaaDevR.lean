/- CONTRACT: the chapter's example. -/
import Derived.Test.YtgppmnaidgkboaaDevQ
namespace Go.Proofs.Ytgppmnaidgkboaa
open Go.RowKit Go.Inc

/-- What the example reads. -/
def exB : List Nat := keptB (List.replicate 512 0) 1 [fill [1, 1, 1], fill [2, 2, 2]] 1 2
theorem ex0 : (pg exB 1)[0]? = some 2 := by decide +kernel
theorem ex1 : (pg exB 1)[1]? = some 2 := by decide +kernel
theorem ex2 : (pg exB 1)[2]? = some 1 := by decide +kernel

/-- A page filled up, in new memory. -/
theorem full_sl (ok : Nat → Prop) (a : Option Addr) (c : Nat) (bs : List Nat) (w : World) (hs : Sl ok w a bs) (hl : bs.length ≤ 9223372036854775807) :
    Calls Try.prog 12 #[.slice a bs.length c] w fun e w' => ∃ G, e = .returned (.slice (some ⟨G, 0, none⟩) 256 256) ∧ Sl (fun b => w.heap.size ≤ b) w' (some ⟨G, 0, none⟩) (fill bs) ∧ Below w.heap.size w w' := by
  refine (full_any ok a c bs w hs hl).mono ?_
  rintro e w' ⟨rfl, ho, hb⟩
  have hr : Row 5 w.heap.size w' (.slice (some ⟨w.heap.size, 0, none⟩) 256 256) (fill bs) := by unfold Row; rw [fill_len]; exact ho
  obtain ⟨a', c', he, _, _, _, hsl⟩ := hr.sl
  simp only [Value.slice.injEq] at he
  rw [← he.1] at hsl
  exact ⟨_, rfl, hsl, hb⟩
theorem full_three (x : Nat) (w : World) :
    Calls Try.prog 12 #[.slice (some ⟨w.heap.size, 0, none⟩) 3 3] (w.alloc (.cells #[.int .u8 (x : Int), .int .u8 (x : Int), .int .u8 (x : Int)] 5)) fun e w' => ∃ G, e = .returned (.slice (some ⟨G, 0, none⟩) 256 256) ∧ Sl (fun b => w.heap.size ≤ b) w' (some ⟨G, 0, none⟩) (fill [x, x, x]) ∧ Below w.heap.size w w' := by
  refine (full_sl (fun b => b = w.heap.size) (some ⟨w.heap.size, 0, none⟩) 3 [x, x, x] (w.alloc (.cells #[.int .u8 (x : Int), .int .u8 (x : Int), .int .u8 (x : Int)] 5)) (Sl.row [x, x, x] (heap_alloc_new w _)) (by simp)).mono ?_
  rintro e w' ⟨G, rfl, hs, hb⟩
  have hb0 : Below w.heap.size w (w.alloc (.cells #[.int .u8 (x : Int), .int .u8 (x : Int), .int .u8 (x : Int)] 5)) := (Below.refl _ _).alloc (Nat.le_refl _) _
  exact ⟨G, rfl, hs.mono fun b h _ => Nat.le_trans hb0.size h, hb0.trans (hb.mono hb0.size)⟩

/-- The states of the example. -/
def ex1S : St := wrote (fresh (List.replicate (256 * 2) 0)) 1 (fill [1, 1, 1])
def ex2S : St := wrote ex1S 1 (fill [2, 2, 2])
def exK : List Kp := [⟨1, 1, 2⟩]
theorem exW : ex2S.W 1 = [fill [1, 1, 1], fill [2, 2, 2]] := rfl
theorem exN : (crashAll ex2S exK).2.2 = 1 := by
  show 0 + keptN (ex2S.W 1).length 1 = 1
  rw [exW]
  decide +kernel
theorem exBB : (crashAll ex2S exK).2.1 = exB := rfl

set_option maxRecDepth 20000 in
set_option maxHeartbeats 2000000 in
theorem known_any (w : World) : Calls Try.prog 8 #[] w fun e w' => e = .returned (.bool true) ∧ Below w.heap.size w w' := by
  have H1 := hid (dv_new w 2 (by decide))
  go_enter Try.func8, Try.ntmps8
  go_wp2_with fail
  refine H1.out.mono ?_
  rintro e w1 ⟨C, g, rfl, hd1, hb1, hC⟩
  have HD1 := hid hd1
  have HB1 := hid hb1
  have HC := hid hC
  have HF := hid (full_three 1 w1)
  clear hd1 hb1 hC H1
  go_wp2_with fail
  refine HF.out.mono ?_
  rintro e w2 ⟨G2, rfl, hs2, hb2⟩
  have hd2 := HD1.out.below hb2
  have HW := hid (dv_write hd2 1 (by decide) _ _ 256 _ hs2 (fun b hb => HD1.out.new hb) (fill_len _) rfl rfl (by decide) (by decide))
  have HB2 : Hid (Below w.heap.size w w2) := hid (HB1.out.trans (hb2.mono HB1.out.size))
  have hs12 : Hid (w1.heap.size ≤ w2.heap.size) := hid hb2.size
  clear hd2 hs2 hb2 HF HB1
  go_wp2_with fail
  refine HW.out.mono ?_
  rintro e w3 ⟨rfl, ⟨C3, hd3, hx3⟩, hm3⟩
  have HD3 : Hid (Dv C3 w3 g 2 1 ex1S) := hid hd3
  have HB3 : Hid (Below w.heap.size w w3) := hid (HB2.out.trans (hm3.below HB2.out.size fun b hb => HC.out b hb))
  have HC3 : Hid (∀ b, C3 b ≠ 0 → w.heap.size ≤ b) := hid fun b hb => by
    by_cases hlt : b < w2.heap.size
    · rw [hx3 b hlt] at hb; exact HC.out b hb
    · have := HB2.out.size; omega
  have HF := hid (full_three 2 w3)
  clear hd3 hx3 hm3 HW HB2 HD1 HC hs12
  go_wp2_with fail
  refine HF.out.mono ?_
  rintro e w4 ⟨G4, rfl, hs4, hb4⟩
  have hd4 := HD3.out.below hb4
  have HW := hid (dv_write hd4 1 (by decide) _ _ 256 _ hs4 (fun b hb => HD3.out.new hb) (fill_len _) rfl rfl (by decide) (by decide))
  have HB4 : Hid (Below w.heap.size w w4) := hid (HB3.out.trans (hb4.mono HB3.out.size))
  clear hd4 hs4 hb4 HF HB3
  go_wp2_with fail
  refine HW.out.mono ?_
  rintro e w5 ⟨rfl, ⟨C5, hd5, hx5⟩, hm5⟩
  have HB5 : Hid (Below w.heap.size w w5) := hid (HB4.out.trans (hm5.below HB4.out.size fun b hb => HC3.out b hb))
  have HC5 : Hid (∀ b, C5 b ≠ 0 → w.heap.size ≤ b) := hid fun b hb => by
    by_cases hlt : b < w4.heap.size
    · rw [hx5 b hlt] at hb; exact HC3.out b hb
    · have := HB4.out.size; omega
  obtain ⟨w6, hw6⟩ : ∃ w6, w6 = w5.alloc (.cells #[.int .i64 1, .int .i64 1, .int .i64 2] 68) := ⟨_, rfl⟩
  have hb6 : Below w5.heap.size w5 w6 := by rw [hw6]; exact (Below.refl _ _).alloc (Nat.le_refl _) _
  have hd5' : Dv C5 w5 g 2 2 ex2S := hd5
  have hd6 := hd5'.below hb6
  have hk6 : KpS (fun b => b = w5.heap.size) w6 (some ⟨w5.heap.size, 0, none⟩) exK := ⟨fun k hk => by rw [List.mem_singleton.1 hk]; exact ⟨by decide, by decide⟩, .inr ⟨_, _, rfl, rfl, fun i k hi => by
    match i, hi with
    | 0, hi =>
      cases hi
      rw [hw6]
      exact ⟨cell_of_row _ _ 0 _ _ _ (heap_alloc_new w5 _), cell_of_row _ _ 1 _ _ _ (heap_alloc_new w5 _), cell_of_row _ _ 2 _ _ _ (heap_alloc_new w5 _)⟩⟩⟩
  have HCr := hid (dv_crash hd6 _ _ 1 exK hk6 (fun b hb => by rw [hb]; exact hd5'.new (Nat.le_refl _)) (by decide) (by decide))
  rw [exN, exBB] at HCr
  have HW6 := hid hw6
  have HB6 : Hid (Below w.heap.size w w6) := hid (HB5.out.trans (hb6.mono HB5.out.size))
  clear hd5 hd5' hd6 hk6 hx5 hm5 hw6 hb6 HW HB4 HD3 HC3
  go_wp2_with fail
  rw [← HW6.out]
  refine HCr.out.mono ?_
  rintro e w7 ⟨rfl, hd7, hm7⟩
  have HP := hid (dv_power hd7)
  have HB7 : Hid (Below w.heap.size w w7) := hid (HB6.out.trans (hm7.below HB6.out.size fun b hb => HC5.out b hb))
  clear hd7 hm7 HCr HB6
  go_wp2_with fail
  refine HP.out.mono ?_
  rintro e w8 ⟨rfl, hd8, hm8⟩
  have HR := hid (dv_read hd8 1 (by decide) rfl (by decide) (by decide))
  have HRL := hid (rd_len hd8 (k := 1) (by decide))
  have HB8 : Hid (Below w.heap.size w w8) := hid (HB7.out.trans (hm8.below HB7.out.size fun b hb => HC5.out b hb))
  clear hd8 hm8 HP HB7
  go_wp2_with fail
  refine HR.out.mono ?_
  rintro e w9 ⟨v, rfl, hv, hd9, hm9⟩
  have HB9 : Hid (Below w.heap.size w w9) := hid (HB8.out.trans (hm9.below HB8.out.size fun b hb => HC5.out b hb))
  obtain ⟨a, c, rfl, _, hc1, hc2, hsl⟩ := hv.sl
  rw [HRL.out] at hc1 ⊢
  have hsl' : Sl (fun b => w8.heap.size ≤ b) w9 a (pg exB 1) := hsl
  have hpl : (pg exB 1).length = 256 := HRL.out
  rcases hsl' with h0 | ⟨b, off, rfl, _, hc⟩
  · rw [h0] at hpl; cases hpl
  have q0 := hc 0 (by rw [hpl]; decide)
  have q1 := hc 1 (by rw [hpl]; decide)
  have q2 := hc 2 (by rw [hpl]; decide)
  rw [List.getD_eq_getElem?_getD, ex0] at q0
  rw [List.getD_eq_getElem?_getD, ex1] at q1
  rw [List.getD_eq_getElem?_getD, ex2] at q2
  have q0' : w9.cell? ⟨b, off, none⟩ = some (.int .u8 2) := q0
  have q1' : w9.cell? ⟨b, off + 1, none⟩ = some (.int .u8 2) := q1
  have q2' : w9.cell? ⟨b, off + 2, none⟩ = some (.int .u8 1) := q2
  clear hd9 hm9 hv hc1 hc2 hsl HR HRL HB8 hpl hc q0 q1 q2
  go_wp2_with fail
  go_ret
  exact ⟨rfl, HB9.out⟩
end Go.Proofs.Ytgppmnaidgkboaa
