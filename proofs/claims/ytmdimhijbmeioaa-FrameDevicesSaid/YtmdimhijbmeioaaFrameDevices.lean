/- STATEMENT: what is written to a device is read from its page, and from no other one. For every frame, device of 1 to 20 pages, page and kinds; bodies of at most 250 bytes. -/
import Derived.Test.YtmdimhijbmeioaaFrP
import Derived.Test.YtmdimhijbmeioaaFrQ
import Derived.Test.YtmdimhijbmeioaaFrL
import Derived.Deep.CutBlock
import Derived.Lib.MinMax
namespace Go.Proofs.Ytmdimhijbmeioaa
open Go.RowKit Go.Inc

def pgOf (x : Int) : Nat := ((x % 18446744073709551616) % 20).toNat
theorem pgOf_lt (x : Int) : pgOf x < 20 := by
  unfold pgOf
  have h1 := Int.emod_nonneg (x % 18446744073709551616) (show (20 : Int) ≠ 0 by omega)
  have h2 := Int.emod_lt_of_pos (x % 18446744073709551616) (show (0 : Int) < 20 by omega)
  omega
theorem pgOf_walk (x : Int) : (IntKind.u64.wrap x).tmod 20 = (pgOf x : Int) := by
  have h0 : 0 ≤ IntKind.u64.wrap x := by rw [IntKind.wrap_u64]; omega
  rw [Int.tmod_eq_emod_of_nonneg h0, IntKind.wrap_u64]
  unfold pgOf
  have h1 := Int.emod_nonneg (x % 18446744073709551616) (show (20 : Int) ≠ 0 by omega)
  rw [Int.toNat_of_nonneg h1]

set_option maxRecDepth 20000 in
set_option maxHeartbeats 8000000 in
theorem frameDevices_walk (ok ok2 : Nat → Prop) (x : Int) (k e pg : Int) (a : Option Addr) (c : Nat) (bs : List Nat) (page : Int) (a2 : Option Addr) (c2 : Nat) (zs : List Int) (w : World) (hs : Sl ok w a bs) (hby : Bytes bs) (hc : bs.length ≤ c ∧ c ≤ maxLen) (hn : a = none → c = 0)
    (hz : Si ok2 w a2 zs) (hzc : zs.length ≤ c2 ∧ c2 ≤ maxLen) :
    Calls Try.prog 6 #[.int .i64 x, .agg #[.int .i64 k, .int .i64 e, .int .i64 pg, .slice a bs.length c], .int .i64 page, .slice a2 zs.length c2] w fun r w' => r = .returned (.bool true) ∧ Below w.heap.size w w' := by
  have hb0 := (Below.refl w.heap.size w).alloc (Nat.le_refl _) (.cells #[.int .i64 k, .int .i64 e, .int .i64 pg, .slice a bs.length c] 24)
  have hsz : w.heap.size ≤ (w.alloc (.cells #[.int .i64 k, .int .i64 e, .int .i64 pg, .slice a bs.length c] 24)).heap.size := hb0.size
  have hat := pgOf_walk x
  have hatl : (pgOf x : Int) < 20 := by have := pgOf_lt x; omega
  obtain ⟨p, hp⟩ : ∃ p, p = 1 + pgOf x := ⟨_, rfl⟩
  have hp1 : (1 : Int) + (pgOf x : Int) = (p : Int) := by omega
  have hp20 : (p : Int) ≤ 20 ∧ (1 : Int) ≤ p := by omega
  obtain ⟨hp2, hp3⟩ := hp20
  have HNW := hid (dv_new (w.alloc (.cells #[.int .i64 k, .int .i64 e, .int .i64 pg, .slice a bs.length c] 24)) p (by omega))
  obtain ⟨zh, hzh⟩ : ∃ zh, zh = zs.take 9 := ⟨_, rfl⟩
  have hzmin : min (zs.length : Int) 9 = (zh.length : Int) := by rw [hzh, List.length_take]; omega
  have hz1 : (zh.length : Int) ≤ zs.length := by omega
  have hz2 : (zh.length : Int) ≤ c2 := by omega
  have hz3 : zh.length ≤ 9 := by rw [hzh, List.length_take]; omega
  have HZ0 : Hid (Si (fun b => b < w.heap.size) w a2 zh) := hid (by rw [hzh]; exact (hz.mono fun b _ h => h).front 9)
  have HZC := hid hzc
  have HS0 := hid (hs.mono (ok' := fun b => b < w.heap.size) fun b _ h => h)
  have HCC := hid hc
  have HNN := hid hn
  have HB0 := hid hb0
  have hbh : Bytes (bs.take 250) := hby.take 250
  have HBOX : Hid ((w.alloc (.cells #[.int .i64 k, .int .i64 e, .int .i64 pg, .slice a bs.length c] 24)).heap[w.heap.size]? = _) := hid (heap_alloc_new w _)
  clear hs hby hc hn hb0 hz hzc hzh hp hz3 hsz
  generalize pgOf x = M at *
  go_enter Try.func6, Try.ntmps6
  go_wp2_with fail
  refine HNW.out.mono ?_
  rintro r w1 ⟨C, g, rfl, hd, hb1, hC⟩
  have HB1 : Hid (Below w.heap.size w w1) := hid (HB0.out.trans (hb1.mono HB0.out.size))
  have HBX1 : Hid (w1.heap[w.heap.size]? = _) := hid (row_below HBOX.out hb1)
  have HS1 := hid (HS0.out.below HB1.out)
  have HZ1 := hid (HZ0.out.below HB1.out)
  have HC0 : Hid (∀ b, C b ≠ 0 → w.heap.size ≤ b) := hid fun b hb => Nat.le_trans HB0.out.size (hC b hb)
  have HCN : Hid (∀ b, w1.heap.size ≤ b → C b = 0) := hid fun b hb => hd.new hb
  have HD1 := hid hd
  have HTO := hid (to_any _ k e pg a c bs w1 HS1.out HCC.out HNN.out)
  clear hd hb1 hC HNW HB0 HBOX HS0 HZ0 HS1
  have q0 := cell_of_row w1 _ 0 _ _ _ HBX1.out
  have q1 := cell_of_row w1 _ 1 _ _ _ HBX1.out
  have q2 := cell_of_row w1 _ 2 _ _ _ HBX1.out
  have q3 := cell_of_row w1 _ 3 _ _ _ HBX1.out
  have hzcm : (c2 : Int) ≤ 9223372036854775807 := by have := HZC.out.2; unfold maxLen at this; omega
  go_wp2_with fail
  refine HTO.out.mono ?_
  rintro r w2 ⟨v, rfl, hv, hb2⟩
  obtain ⟨bh, hbhd⟩ : ∃ bh, bh = bs.take 250 := ⟨_, rfl⟩
  rw [← hbhd] at hv hbh
  have HBH := hid hbh
  obtain ⟨a1, c1, rfl, hs1, hlc1, hm1, hn1⟩ := hv
  obtain ⟨w3, hw3⟩ : ∃ w3, w3 = w2.alloc (.cells #[.int .i64 k, .int .i64 e, .int .i64 pg, .slice a1 bh.length c1] 25) := ⟨_, rfl⟩
  have hb3 : Below w2.heap.size w2 w3 := by rw [hw3]; exact (Below.refl _ _).alloc (Nat.le_refl _) _
  have hb13 : Below w1.heap.size w1 w3 := hb2.trans (hb3.mono hb2.size)
  have R3 : Hid (w3.heap[w2.heap.size]? = some (.cells #[.int .i64 k, .int .i64 e, .int .i64 pg, .slice a1 bh.length c1] 25 (0, 0))) := hid (by rw [hw3]; exact heap_alloc_new w2 _)
  have HLE : Hid (w1.heap.size ≤ w2.heap.size) := hid hb2.size
  have HB3 : Hid (Below w.heap.size w w3) := hid (HB1.out.trans (hb13.mono HB1.out.size))
  have HS3 := hid (hs1.below hb3)
  have HZ3 := hid (HZ1.out.below hb13)
  have HC1 := hid (And.intro hlc1 hm1)
  have HN1 := hid hn1
  have HWR := hid (write_all (HD1.out.below hb13) _ k e pg a1 c1 bh HS3.out HBH.out HC1.out HN1.out)
  have HW3 := hid hw3
  clear q0 q1 q2 q3 hbhd hbh hs1 hlc1 hm1 hn1 hb2 hb3 hb13 hw3 HTO HB1 HBX1 HZ1 HD1 HCC HNN
  go_wp2_with fail
  rw [← HW3.out]
  refine HWR.out.mono ?_
  rintro r w4 ⟨rfl, ⟨C4, n4, S4, hd4, hn4, ho4, hr4, hrd4, hx4⟩, hm4⟩
  have HD4 := hid hd4
  have HP4 := hid (And.intro hn4 (And.intro ho4 (And.intro hr4 hrd4)))
  have HX4 : Hid (∀ b, b < w3.heap.size → C4 b = C b) := hid hx4
  have HB4 : Hid (Below w.heap.size w w4) := hid (HB3.out.trans (hm4.below HB3.out.size HC0.out))
  have R4 : Hid (w4.heap[w2.heap.size]? = _) := hid ((hm4.block w2.heap.size (row_lt R3.out) (fun h => h (HCN.out _ HLE.out))).trans R3.out)
  have HS4 : Hid (Sl (fun b => w1.heap.size ≤ b ∧ b < w3.heap.size) w4 a1 bh) := hid ((HS3.out.mono (ok' := fun b => w1.heap.size ≤ b ∧ b < w3.heap.size) fun b h1 h2 => ⟨h1, h2⟩).mv hm4 (fun b hb h => h (HCN.out b hb.1)))
  have HZ4 : Hid (Si (fun b => b < w.heap.size) w4 a2 zh) := hid (HZ3.out.kept fun b hb hlt => hm4.block b hlt (fun h => absurd (HC0.out b h) (by omega)))
  have HSZ : Hid (w3.heap.size ≤ w4.heap.size) := hid hm4.size
  have HSZ2 : Hid (w2.heap.size < w3.heap.size) := hid (row_lt R3.out)
  have HBC : Hid (∀ b, C4 b ≠ 0 → w.heap.size ≤ b) := hid fun b hb => by
    rcases Nat.lt_or_ge b w3.heap.size with h | h
    · exact HC0.out b (by rw [← HX4.out b h]; exact hb)
    · exact Nat.le_trans HB3.out.size h
  have HOF := hid (of_any k e pg a1 bh.length c1 w4)
  clear hd4 hn4 ho4 hr4 hrd4 hx4 hm4 HWR R3 HS3 HZ3 HB3 HC0 HW3
  have q0 := cell_of_row w4 _ 0 _ _ _ R4.out
  have q1 := cell_of_row w4 _ 1 _ _ _ R4.out
  have q2 := cell_of_row w4 _ 2 _ _ _ R4.out
  have q3 := cell_of_row w4 _ 3 _ _ _ R4.out
  go_wp2_with fail
  refine HOF.out.mono ?_
  rintro r w5 ⟨rfl, hb5⟩
  have HCK := hid (refCheck_any k e pg a1 c1 bh w5)
  have HB45 := hid hb5
  clear hb5 q0 q1 q2 q3
  go_wp2_with fail
  refine HCK.out.mono ?_
  rintro r w6 ⟨rfl, hb6⟩
  have hb46 : Below w4.heap.size w4 w6 := HB45.out.trans (hb6.mono HB45.out.size)
  have HB6 : Hid (Below w.heap.size w w6) := hid (HB4.out.trans (hb46.mono HB4.out.size))
  have R6 : Hid (w6.heap[w2.heap.size]? = _) := hid (row_below R4.out hb46)
  have HS6 := hid (HS4.out.below hb46)
  have HZ6 := hid (HZ4.out.below hb46)
  have HD6 := hid (HD4.out.below hb46)
  have q2 := cell_of_row w6 _ 2 _ _ _ R6.out
  clear hb6 hb46 HCK HB45 HOF HB4 R4 HS4 HZ4 HD4
  have hsp : (chk ⟨k, e, pg, bh⟩ = 0 ∧ (p : Int) ≤ pg ∧ wrE ⟨k, e, pg, bh⟩ p = 10 ∧ (∀ j : Nat, j < p → wrP ⟨k, e, pg, bh⟩ j = List.replicate 256 0)) ∨ (chk ⟨k, e, pg, bh⟩ = 0 ∧ pg < p ∧ wrE ⟨k, e, pg, bh⟩ p = 0) ∨ (chk ⟨k, e, pg, bh⟩ ≠ 0 ∧ wrE ⟨k, e, pg, bh⟩ p = chk ⟨k, e, pg, bh⟩ ∧ (∀ j : Nat, j < p → wrP ⟨k, e, pg, bh⟩ j = List.replicate 256 0)) := by
    by_cases h0 : chk ⟨k, e, pg, bh⟩ = 0
    · by_cases h1 : (p : Int) ≤ pg
      · exact .inl ⟨h0, h1, by unfold wrE; rw [if_pos ⟨h0, h1⟩], fun j hj => by unfold wrP; rw [if_neg (fun h => by have := h.2; dsimp only at this; omega)]⟩
      · exact .inr (.inl ⟨h0, by omega, by unfold wrE; rw [if_neg (fun h => h1 h.2), h0]⟩)
    · exact .inr (.inr ⟨h0, by unfold wrE; rw [if_neg (fun h => h0 h.1)], fun j hj => by unfold wrP; rw [if_neg (fun h => h0 h.1)]⟩)
  rcases hsp with ⟨hchk, hpp, hwe, hzr⟩ | ⟨hchk, hpp, hwe⟩ | ⟨hchk, hwe, hzr⟩
  · rw [hwe, hchk]
    by_cases hlo : page < 0
    · have hlo1 := hlo
      have HRD := hid (read_far HD6.out page (.slice a2 zh.length c2) HP4.out.2.1 (by omega))
      go_wp2_with fail
      refine HRD.out.mono ?_
      rintro r w7 ⟨rfl, hb7⟩
      clear q2
      obtain ⟨w8, hw8⟩ : ∃ w8, w8 = w7.alloc (.cells zc 25) := ⟨_, rfl⟩
      have HB8 : Hid (Below w.heap.size w w8) := hid (by
        have h7 := HB6.out.trans (hb7.mono HB6.out.size)
        rw [hw8]; exact h7.alloc h7.size _)
      have HKN := hid (known_any w8)
      have HW8 := hid hw8
      clear hb7 hw8 HRD
      go_wp2_with fail
      rw [← HW8.out]
      refine HKN.out.mono ?_
      rintro r w9 ⟨rfl, hb9⟩
      have HB9 : Hid (Below w.heap.size w w9) := hid (HB8.out.trans (hb9.mono HB8.out.size))
      clear hb9 HKN HW8 HB8
      go_wp2_with fail
      go_ret
      exact ⟨rfl, HB9.out⟩
    · by_cases hhi : (p : Int) ≤ page
      · have hhi1 := hhi
        have HRD := hid (read_far HD6.out page (.slice a2 zh.length c2) HP4.out.2.1 (by omega))
        go_wp2_with fail
        refine HRD.out.mono ?_
        rintro r w7 ⟨rfl, hb7⟩
        clear q2
        obtain ⟨w8, hw8⟩ : ∃ w8, w8 = w7.alloc (.cells zc 25) := ⟨_, rfl⟩
        have HB8 : Hid (Below w.heap.size w w8) := hid (by
          have h7 := HB6.out.trans (hb7.mono HB6.out.size)
          rw [hw8]; exact h7.alloc h7.size _)
        have HKN := hid (known_any w8)
        have HW8 := hid hw8
        clear hb7 hw8 HRD
        go_wp2_with fail
        rw [← HW8.out]
        refine HKN.out.mono ?_
        rintro r w9 ⟨rfl, hb9⟩
        have HB9 : Hid (Below w.heap.size w w9) := hid (HB8.out.trans (hb9.mono HB8.out.size))
        clear hb9 HKN HW8 HB8
        go_wp2_with fail
        go_ret
        exact ⟨rfl, HB9.out⟩
      · obtain ⟨P, rfl⟩ := Int.eq_ofNat_of_zero_le (show 0 ≤ page by omega)
        have HBYR : Hid (Bytes (rd S4 P)) := hid (by rw [HP4.out.2.2.2 P (by omega)]; exact wrP_bytes HBH.out P)
        have HRD := hid (read_good HD6.out P _ a2 c2 zh HZ6.out (fun b hb => by
          rcases Nat.eq_zero_or_pos (C4 b) with h | h
          · exact h
          · exact absurd (HBC.out b (by omega)) (by omega)) (by omega) HP4.out.2.1 (by omega) (Nat.le_trans HP4.out.1 (by decide)) (by rw [HP4.out.2.2.1]; decide) HBYR.out)
        have HRW : Hid (rd S4 P = wrP ⟨k, e, pg, bh⟩ P) := hid (HP4.out.2.2.2 P (by omega))
        rw [HRW.out] at HRD
        clear HBYR
        go_wp2_with fail
        refine HRD.out.mono ?_
        rintro r w7 ⟨hans, hm7⟩
        clear q2
        have HB7 : Hid (Below w.heap.size w w7) := hid (HB6.out.trans (hm7.below HB6.out.size HBC.out))
        have hz7 : ∀ b, w1.heap.size ≤ b → b < w3.heap.size → C4 b = 0 := fun b h1 h2 => by rw [HX4.out b h2]; exact HCN.out b h1
        have R7 : Hid (w7.heap[w2.heap.size]? = _) := hid ((hm7.block w2.heap.size (row_lt R6.out) (fun h => h (hz7 _ HLE.out HSZ2.out))).trans R6.out)
        have hzero := hzr P (by omega)
        rw [hzero] at hans
        obtain ⟨v7, rfl, hv7⟩ := hans
        have hF : opnF (List.replicate 256 0) (P : Int) zh = zeroFr := by unfold opnF; rw [opnE_zeros, if_neg (by decide)]
        rw [hF] at hv7 ⊢
        rw [opnE_zeros]
        dsimp only [zeroFr] at hv7 ⊢
        obtain ⟨a7, c7, rfl, _, _, _, _⟩ := hv7
        obtain ⟨w8, hw8⟩ : ∃ w8, w8 = w7.alloc (.cells #[.int .i64 0, .int .i64 0, .int .i64 0, .slice a7 0 c7] 25) := ⟨_, rfl⟩
        have hb8 : Below w7.heap.size w7 w8 := by rw [hw8]; exact (Below.refl _ _).alloc (Nat.le_refl _) _
        have HB8 : Hid (Below w.heap.size w w8) := hid (HB7.out.trans (hb8.mono HB7.out.size))
        have R8 : Hid (w8.heap[w2.heap.size]? = _) := hid (row_below R7.out hb8)
        have q2 := cell_of_row w8 _ 2 _ _ _ R8.out
        have HKN := hid (known_any w8)
        have HW8 := hid hw8
        clear hb8 hw8 HRD hm7 hz7 hF hzero R7 HB7
        go_upto_region 16 with fail
        rw [← HW8.out]
        go_wp2_with fail
        refine HKN.out.mono ?_
        rintro r w9 ⟨rfl, hb9⟩
        have HB9 : Hid (Below w.heap.size w w9) := hid (HB8.out.trans (hb9.mono HB8.out.size))
        clear hb9 HKN HW8 HB8 R8 q2
        go_wp2_with fail
        go_ret
        exact ⟨rfl, HB9.out⟩
  · rw [hwe, hchk]
    by_cases hlo : page < 0
    · have hlo1 := hlo
      have HRD := hid (read_far HD6.out page (.slice a2 zh.length c2) HP4.out.2.1 (by omega))
      go_wp2_with fail
      refine HRD.out.mono ?_
      rintro r w7 ⟨rfl, hb7⟩
      clear q2
      obtain ⟨w8, hw8⟩ : ∃ w8, w8 = w7.alloc (.cells zc 25) := ⟨_, rfl⟩
      have HB8 : Hid (Below w.heap.size w w8) := hid (by
        have h7 := HB6.out.trans (hb7.mono HB6.out.size)
        rw [hw8]; exact h7.alloc h7.size _)
      have HKN := hid (known_any w8)
      have HW8 := hid hw8
      clear hb7 hw8 HRD
      go_wp2_with fail
      rw [← HW8.out]
      refine HKN.out.mono ?_
      rintro r w9 ⟨rfl, hb9⟩
      have HB9 : Hid (Below w.heap.size w w9) := hid (HB8.out.trans (hb9.mono HB8.out.size))
      clear hb9 HKN HW8 HB8
      go_wp2_with fail
      go_ret
      exact ⟨rfl, HB9.out⟩
    · by_cases hhi : (p : Int) ≤ page
      · have hhi1 := hhi
        have HRD := hid (read_far HD6.out page (.slice a2 zh.length c2) HP4.out.2.1 (by omega))
        go_wp2_with fail
        refine HRD.out.mono ?_
        rintro r w7 ⟨rfl, hb7⟩
        clear q2
        obtain ⟨w8, hw8⟩ : ∃ w8, w8 = w7.alloc (.cells zc 25) := ⟨_, rfl⟩
        have HB8 : Hid (Below w.heap.size w w8) := hid (by
          have h7 := HB6.out.trans (hb7.mono HB6.out.size)
          rw [hw8]; exact h7.alloc h7.size _)
        have HKN := hid (known_any w8)
        have HW8 := hid hw8
        clear hb7 hw8 HRD
        go_wp2_with fail
        rw [← HW8.out]
        refine HKN.out.mono ?_
        rintro r w9 ⟨rfl, hb9⟩
        have HB9 : Hid (Below w.heap.size w w9) := hid (HB8.out.trans (hb9.mono HB8.out.size))
        clear hb9 HKN HW8 HB8
        go_wp2_with fail
        go_ret
        exact ⟨rfl, HB9.out⟩
      · obtain ⟨P, rfl⟩ := Int.eq_ofNat_of_zero_le (show 0 ≤ page by omega)
        by_cases hpe : pg = (P : Int)
        · subst hpe
          have HBYR : Hid (Bytes (rd S4 P)) := hid (by rw [HP4.out.2.2.2 P (by omega)]; exact wrP_bytes HBH.out P)
          have HRD := hid (read_good HD6.out P _ a2 c2 zh HZ6.out (fun b hb => by
            rcases Nat.eq_zero_or_pos (C4 b) with h | h
            · exact h
            · exact absurd (HBC.out b (by omega)) (by omega)) (by omega) HP4.out.2.1 (by omega) (Nat.le_trans HP4.out.1 (by decide)) (by rw [HP4.out.2.2.1]; decide) HBYR.out)
          have HRW : Hid (rd S4 P = wrP ⟨k, e, (P : Int), bh⟩ P) := hid (HP4.out.2.2.2 P (by omega))
          rw [HRW.out] at HRD
          clear HBYR
          go_wp2_with fail
          refine HRD.out.mono ?_
          rintro r w7 ⟨hans, hm7⟩
          clear q2
          have HB7 : Hid (Below w.heap.size w w7) := hid (HB6.out.trans (hm7.below HB6.out.size HBC.out))
          have hz7 : ∀ b, w1.heap.size ≤ b → b < w3.heap.size → C4 b = 0 := fun b h1 h2 => by rw [HX4.out b h2]; exact HCN.out b h1
          have R7 : Hid (w7.heap[w2.heap.size]? = _) := hid ((hm7.block w2.heap.size (row_lt R6.out) (fun h => h (hz7 _ HLE.out HSZ2.out))).trans R6.out)
          have hwp : wrP ⟨k, e, (P : Int), bh⟩ P = enc ⟨k, e, (P : Int), bh⟩ := by unfold wrP; rw [if_pos ⟨hchk, rfl⟩]
          rw [hwp] at hans
          obtain ⟨v7, rfl, hv7⟩ := hans
          obtain ⟨aZ, cZ, rfl, hsZ, hlcZ, hmZ, _⟩ := hv7
          obtain ⟨w8, hw8⟩ : ∃ w8, w8 = w7.alloc (.cells (#[.int .i64 (opnF (enc ⟨k, e, (P : Int), bh⟩) (P : Int) zh).k, .int .i64 (opnF (enc ⟨k, e, (P : Int), bh⟩) (P : Int) zh).e, .int .i64 (opnF (enc ⟨k, e, (P : Int), bh⟩) (P : Int) zh).p, .slice aZ (opnF (enc ⟨k, e, (P : Int), bh⟩) (P : Int) zh).b.length cZ]) 25) := ⟨_, rfl⟩
          have hb8 : Below w7.heap.size w7 w8 := by rw [hw8]; exact (Below.refl _ _).alloc (Nat.le_refl _) _
          have HB8 : Hid (Below w.heap.size w w8) := hid (HB7.out.trans (hb8.mono HB7.out.size))
          have R8 : Hid (w8.heap[w2.heap.size]? = _) := hid (row_below R7.out hb8)
          have RZ8 : Hid (w8.heap[w7.heap.size]? = some (.cells (#[.int .i64 (opnF (enc ⟨k, e, (P : Int), bh⟩) (P : Int) zh).k, .int .i64 (opnF (enc ⟨k, e, (P : Int), bh⟩) (P : Int) zh).e, .int .i64 (opnF (enc ⟨k, e, (P : Int), bh⟩) (P : Int) zh).p, .slice aZ (opnF (enc ⟨k, e, (P : Int), bh⟩) (P : Int) zh).b.length cZ]) 25 (0, 0))) := hid (by rw [hw8]; exact heap_alloc_new w7 _)
          have HSZ8 := hid ((hsZ.mono (ok' := fun _ => True) fun _ _ _ => trivial).below hb8)
          have HLZ : Hid ((opnF (enc ⟨k, e, (P : Int), bh⟩) (P : Int) zh).b.length ≤ 9223372036854775807) := hid (by unfold maxLen at hmZ; omega)
          have HS8 := hid ((HS6.out.mv hm7 (fun b hb h => h (hz7 b hb.1 hb.2))).below hb8)
          have HZ8 : Hid (Si (fun b => b < w.heap.size) w8 a2 zh) := hid ((HZ6.out.kept fun b hb hlt => hm7.block b hlt (fun h => absurd (HBC.out b h) (by omega))).below hb8)
          have HEN := hid (encode_any _ k e (P : Int) a1 c1 bh w8 HS8.out HBH.out HC1.out HN1.out)
          have hpp2 : (((P : Nat) : Int) != ((P : Nat) : Int)) = false := by simp
          have HCHK := hid hchk
          have HW8 := hid hw8
          have q0 := cell_of_row w8 _ 0 _ _ _ R8.out
          have q1 := cell_of_row w8 _ 1 _ _ _ R8.out
          have q2 := cell_of_row w8 _ 2 _ _ _ R8.out
          have q3 := cell_of_row w8 _ 3 _ _ _ R8.out
          clear hb8 hw8 HRD hm7 hz7 R7 HB7 hsZ hlcZ hmZ hwp hchk
          go_upto_region 16 with fail
          rw [← HW8.out]
          go_wp2_with fail
          refine HEN.out.mono ?_
          rintro r w9 ⟨⟨v9, rfl, hv9⟩, hb9⟩
          rw [HCHK.out, if_pos rfl] at hv9
          rw [HCHK.out]
          obtain ⟨a9, c9, rfl, hs9, hlc9, hm9, hn9⟩ := hv9
          have HB9 : Hid (Below w.heap.size w w9) := hid (HB8.out.trans (hb9.mono HB8.out.size))
          have RZ9 : Hid (w9.heap[w7.heap.size]? = _) := hid (row_below RZ8.out hb9)
          have HSZ9 := hid (HSZ8.out.below hb9)
          have HRO := hid (refOpen_any (fun _ => True) _ a9 c9 _ (P : Int) a2 c2 zh w9 (hs9.mono fun _ _ _ => trivial) (enc_bytes (f := ⟨k, e, (P : Int), bh⟩) HBH.out) ⟨hlc9, hm9⟩ (HZ8.out.below hb9) (by omega))
          clear hb9 hs9 hlc9 hm9 hn9 HEN HB8 RZ8 HSZ8 HS8 HZ8 R8 HW8 q0 q1 q2 q3
          go_wp2_with fail
          refine HRO.out.mono ?_
          rintro r w10 ⟨⟨v10, rfl, hv10⟩, hb10⟩
          obtain ⟨aW, cW, rfl, hsW, _, _, _⟩ := hv10
          obtain ⟨w11, hw11⟩ : ∃ w11, w11 = w10.alloc (.cells (#[.int .i64 (opnF (enc ⟨k, e, (P : Int), bh⟩) (P : Int) zh).k, .int .i64 (opnF (enc ⟨k, e, (P : Int), bh⟩) (P : Int) zh).e, .int .i64 (opnF (enc ⟨k, e, (P : Int), bh⟩) (P : Int) zh).p, .slice aW (opnF (enc ⟨k, e, (P : Int), bh⟩) (P : Int) zh).b.length cW]) 24) := ⟨_, rfl⟩
          have hb11 : Below w10.heap.size w10 w11 := by rw [hw11]; exact (Below.refl _ _).alloc (Nat.le_refl _) _
          have hb911 : Below w9.heap.size w9 w11 := hb10.trans (hb11.mono hb10.size)
          have HB11 : Hid (Below w.heap.size w w11) := hid (HB9.out.trans (hb911.mono HB9.out.size))
          have RZ11 : Hid (w11.heap[w7.heap.size]? = _) := hid (row_below RZ9.out hb911)
          have RW11 : Hid (w11.heap[w10.heap.size]? = some (.cells (#[.int .i64 (opnF (enc ⟨k, e, (P : Int), bh⟩) (P : Int) zh).k, .int .i64 (opnF (enc ⟨k, e, (P : Int), bh⟩) (P : Int) zh).e, .int .i64 (opnF (enc ⟨k, e, (P : Int), bh⟩) (P : Int) zh).p, .slice aW (opnF (enc ⟨k, e, (P : Int), bh⟩) (P : Int) zh).b.length cW]) 24 (0, 0))) := hid (by rw [hw11]; exact heap_alloc_new w10 _)
          have HSZ11 := hid (HSZ9.out.below hb911)
          have HSW11 := hid (hsW.below hb11)
          have HW11 := hid hw11
          have HCZ : Hid (∀ x, Grew w11.drew x → x.cell? ⟨w7.heap.size, 0, none⟩ = some (.int .i64 (opnF (enc ⟨k, e, (P : Int), bh⟩) (P : Int) zh).k) ∧ x.cell? ⟨w7.heap.size, 1, none⟩ = some (.int .i64 (opnF (enc ⟨k, e, (P : Int), bh⟩) (P : Int) zh).e) ∧ x.cell? ⟨w7.heap.size, 2, none⟩ = some (.int .i64 (opnF (enc ⟨k, e, (P : Int), bh⟩) (P : Int) zh).p) ∧ x.cell? ⟨w7.heap.size, 3, none⟩ = some (.slice aZ (opnF (enc ⟨k, e, (P : Int), bh⟩) (P : Int) zh).b.length cZ)) := hid fun x hx => by
            have hr : x.heap[w7.heap.size]? = _ := row_below (w := w11.drew) RZ11.out hx
            exact ⟨cell_of_row x _ 0 _ _ _ hr, cell_of_row x _ 1 _ _ _ hr, cell_of_row x _ 2 _ _ _ hr, cell_of_row x _ 3 _ _ _ hr⟩
          have HCW : Hid (∀ x, Grew w11.drew x → x.cell? ⟨w10.heap.size, 0, none⟩ = some (.int .i64 (opnF (enc ⟨k, e, (P : Int), bh⟩) (P : Int) zh).k) ∧ x.cell? ⟨w10.heap.size, 1, none⟩ = some (.int .i64 (opnF (enc ⟨k, e, (P : Int), bh⟩) (P : Int) zh).e) ∧ x.cell? ⟨w10.heap.size, 2, none⟩ = some (.int .i64 (opnF (enc ⟨k, e, (P : Int), bh⟩) (P : Int) zh).p) ∧ x.cell? ⟨w10.heap.size, 3, none⟩ = some (.slice aW (opnF (enc ⟨k, e, (P : Int), bh⟩) (P : Int) zh).b.length cW)) := hid fun x hx => by
            have hr : x.heap[w10.heap.size]? = _ := row_below (w := w11.drew) RW11.out hx
            exact ⟨cell_of_row x _ 0 _ _ _ hr, cell_of_row x _ 1 _ _ _ hr, cell_of_row x _ 2 _ _ _ hr, cell_of_row x _ 3 _ _ _ hr⟩
          have HSM : Hid (∀ x, Grew w11.drew x → Calls Try.prog 23 #[.agg #[.int .i64 (opnF (enc ⟨k, e, (P : Int), bh⟩) (P : Int) zh).k, .int .i64 (opnF (enc ⟨k, e, (P : Int), bh⟩) (P : Int) zh).e, .int .i64 (opnF (enc ⟨k, e, (P : Int), bh⟩) (P : Int) zh).p, .slice aZ (opnF (enc ⟨k, e, (P : Int), bh⟩) (P : Int) zh).b.length cZ], .agg #[.int .i64 (opnF (enc ⟨k, e, (P : Int), bh⟩) (P : Int) zh).k, .int .i64 (opnF (enc ⟨k, e, (P : Int), bh⟩) (P : Int) zh).e, .int .i64 (opnF (enc ⟨k, e, (P : Int), bh⟩) (P : Int) zh).p, .slice aW (opnF (enc ⟨k, e, (P : Int), bh⟩) (P : Int) zh).b.length cW]] x fun r w' => r = .returned (.bool true) ∧ Below x.heap.size x w') := hid fun x hx =>
            rsame_is _ _ (opnF (enc ⟨k, e, (P : Int), bh⟩) (P : Int) zh) (opnF (enc ⟨k, e, (P : Int), bh⟩) (P : Int) zh) aZ aW cZ cW x (Sl.below (w := w11.drew) HSZ11.out hx) (Sl.below (w := w11.drew) HSW11.out hx) HLZ.out rfl
          clear hb10 hb11 hb911 hw11 hsW HRO HB9 RZ9 HSZ9
          go_upto_region 20 with fail
          rw [← HW11.out]
          refine wp_region_grows 12 [Eqv' (.bool true), Eqv' (.bool true), Eqv' (.int .i64 (opnE (enc ⟨k, e, (P : Int), bh⟩) (P : Int) zh : Nat)), Eqv' (.int .i64 (opnE (enc ⟨k, e, (P : Int), bh⟩) (P : Int) zh : Nat)), Eqv' (.bool true), Eqv' (.bool true), Eqv' (.bool true), Eqv' (.agg #[.int .i64 (opnF (enc ⟨k, e, (P : Int), bh⟩) (P : Int) zh).k, .int .i64 (opnF (enc ⟨k, e, (P : Int), bh⟩) (P : Int) zh).e, .int .i64 (opnF (enc ⟨k, e, (P : Int), bh⟩) (P : Int) zh).p, .slice aZ (opnF (enc ⟨k, e, (P : Int), bh⟩) (P : Int) zh).b.length cZ]), Eqv' (.agg #[.int .i64 (opnF (enc ⟨k, e, (P : Int), bh⟩) (P : Int) zh).k, .int .i64 (opnF (enc ⟨k, e, (P : Int), bh⟩) (P : Int) zh).e, .int .i64 (opnF (enc ⟨k, e, (P : Int), bh⟩) (P : Int) zh).p, .slice aZ (opnF (enc ⟨k, e, (P : Int), bh⟩) (P : Int) zh).b.length cZ]), Eqv' (.agg #[.int .i64 (opnF (enc ⟨k, e, (P : Int), bh⟩) (P : Int) zh).k, .int .i64 (opnF (enc ⟨k, e, (P : Int), bh⟩) (P : Int) zh).e, .int .i64 (opnF (enc ⟨k, e, (P : Int), bh⟩) (P : Int) zh).p, .slice aW (opnF (enc ⟨k, e, (P : Int), bh⟩) (P : Int) zh).b.length cW]), Eqv' (.bool true), Eqv' (.bool true)] (by kernel_rfl) (by decide) (by kernel_rfl) ?_ ?_ ?_
          · repeat' (first | exact List.forall_mem_nil _ | refine List.forall_mem_cons.2 ⟨?_, ?_⟩)
            all_goals
              intro w w' v hw h
              exact h
          · simp only [AllLt]
            refine ⟨⟨⟨⟨⟨⟨⟨⟨⟨⟨⟨⟨trivial, ?_⟩, ?_⟩, ?_⟩, ?_⟩, ?_⟩, ?_⟩, ?_⟩, ?_⟩, ?_⟩, ?_⟩, ?_⟩, ?_⟩
            all_goals
              intro o' ho
              simp at ho
              subst ho
              intro ρ wq hR hL hS hG
              obtain ⟨hl1, hl2, -⟩ := hL
            · refine plainG rfl ?_
              intro bA K Q' hK
              simp only [execOp]
              go_simp
              refine (known_any wq).mono ?_
              rintro r wr ⟨rfl, hb⟩
              exact hK _ _ rfl hb
            · refine plainG rfl ?_
              intro bA K Q' hK
              have e100 := hG 0 100 (by decide) (by kernel_rfl) (by kernel_rfl)
              change ρ (.tmp 100) = _ at e100
              simp only [execOp]
              go_simp
              exact hK _ _ rfl (Grew.refl _)
            · have eG : ρ (.tmp 101) = _ := hG 1 101 (by decide) (by kernel_rfl) (by kernel_rfl)
              refine onG rfl (by kernel_rfl) eG ?_
              intro bA K Q' hK
              have e15 := hS 15 (by kernel_rfl)
              change ρ (.tmp 15) = _ at e15
              simp only [execOp]
              go_simp
              exact hK _ _ rfl (Grew.refl _)
            · have eG : ρ (.tmp 101) = _ := hG 1 101 (by decide) (by kernel_rfl) (by kernel_rfl)
              refine onG rfl (by kernel_rfl) eG ?_
              intro bA K Q' hK
              have e19 := hS 19 (by kernel_rfl)
              change ρ (.tmp 19) = _ at e19
              simp only [execOp]
              go_simp
              exact hK _ _ rfl (Grew.refl _)
            · have eG : ρ (.tmp 101) = _ := hG 1 101 (by decide) (by kernel_rfl) (by kernel_rfl)
              refine onG rfl (by kernel_rfl) eG ?_
              intro bA K Q' hK
              have e102 := hG 2 102 (by decide) (by kernel_rfl) (by kernel_rfl)
              have e103 := hG 3 103 (by decide) (by kernel_rfl) (by kernel_rfl)
              change ρ (.tmp 102) = _ at e102
              change ρ (.tmp 103) = _ at e103
              simp only [execOp]
              go_simp
              exact hK _ _ rfl (Grew.refl _)
            · refine plainG rfl ?_
              intro bA K Q' hK
              have e101 := hG 1 101 (by decide) (by kernel_rfl) (by kernel_rfl)
              have e104 := hG 4 104 (by decide) (by kernel_rfl) (by kernel_rfl)
              change ρ (.tmp 101) = _ at e101
              change ρ (.tmp 104) = _ at e104
              simp only [execOp]
              go_simp
              exact hK _ _ rfl (Grew.refl _)
            · refine plainG rfl ?_
              intro bA K Q' hK
              have e105 := hG 5 105 (by decide) (by kernel_rfl) (by kernel_rfl)
              change ρ (.tmp 105) = _ at e105
              simp only [execOp]
              go_simp
              exact hK _ _ rfl (Grew.refl _)
            · have eG : ρ (.tmp 106) = _ := hG 6 106 (by decide) (by kernel_rfl) (by kernel_rfl)
              refine onG rfl (by kernel_rfl) eG ?_
              intro bA K Q' hK
              have e14 := hS 14 (by kernel_rfl)
              change ρ (.tmp 14) = _ at e14
              obtain ⟨k0, k1, k2, k3⟩ := HCZ.out wq hR
              simp only [execOp]
              go_simp
              exact hK _ _ rfl (Grew.refl _)
            · have eG : ρ (.tmp 106) = _ := hG 6 106 (by decide) (by kernel_rfl) (by kernel_rfl)
              refine onG rfl (by kernel_rfl) eG ?_
              intro bA K Q' hK
              have e107 := hG 7 107 (by decide) (by kernel_rfl) (by kernel_rfl)
              change ρ (.tmp 107) = _ at e107
              simp only [execOp]
              go_simp
              refine (of_any _ _ _ aZ _ cZ wq).mono ?_
              rintro r wr ⟨rfl, hb⟩
              exact hK _ _ rfl hb
            · have eG : ρ (.tmp 106) = _ := hG 6 106 (by decide) (by kernel_rfl) (by kernel_rfl)
              refine onG rfl (by kernel_rfl) eG ?_
              intro bA K Q' hK
              have e18 := hS 18 (by kernel_rfl)
              change ρ (.tmp 18) = _ at e18
              obtain ⟨k0, k1, k2, k3⟩ := HCW.out wq hR
              simp only [execOp]
              go_simp
              exact hK _ _ rfl (Grew.refl _)
            · have eG : ρ (.tmp 106) = _ := hG 6 106 (by decide) (by kernel_rfl) (by kernel_rfl)
              refine onG rfl (by kernel_rfl) eG ?_
              intro bA K Q' hK
              have e108 := hG 8 108 (by decide) (by kernel_rfl) (by kernel_rfl)
              have e109 := hG 9 109 (by decide) (by kernel_rfl) (by kernel_rfl)
              change ρ (.tmp 108) = _ at e108
              change ρ (.tmp 109) = _ at e109
              simp only [execOp]
              go_simp
              refine (HSM.out wq hR).mono ?_
              rintro r wr ⟨rfl, hb⟩
              exact hK _ _ rfl hb
            · refine plainG rfl ?_
              intro bA K Q' hK
              have e106 := hG 6 106 (by decide) (by kernel_rfl) (by kernel_rfl)
              have e110 := hG 10 110 (by decide) (by kernel_rfl) (by kernel_rfl)
              change ρ (.tmp 106) = _ at e106
              change ρ (.tmp 110) = _ at e110
              simp only [execOp]
              go_simp
              exact hK _ _ rfl (Grew.refl _)
          · intro v wq hR hG
            have h11 := hG.2
            change v 11 = _ at h11
            have HBQ : Hid (Below w.heap.size w wq) := hid (Grew.on HB11.out hR)
            clear hG hR HCZ HCW HSM HSZ11 HSW11 RZ11 RW11 HW11 HB11
            simp [stG, stU, dstAt, Act.put, h11]
            go_wp2_with fail
            go_ret
            exact ⟨rfl, HBQ.out⟩

        · have hpn : (((P : Nat) : Int) != pg) = true := by rw [bne_iff_ne]; omega
          have HBYR : Hid (Bytes (rd S4 P)) := hid (by rw [HP4.out.2.2.2 P (by omega)]; exact wrP_bytes HBH.out P)
          have HRD := hid (read_good HD6.out P _ a2 c2 zh HZ6.out (fun b hb => by
            rcases Nat.eq_zero_or_pos (C4 b) with h | h
            · exact h
            · exact absurd (HBC.out b (by omega)) (by omega)) (by omega) HP4.out.2.1 (by omega) (Nat.le_trans HP4.out.1 (by decide)) (by rw [HP4.out.2.2.1]; decide) HBYR.out)
          have HRW : Hid (rd S4 P = wrP ⟨k, e, pg, bh⟩ P) := hid (HP4.out.2.2.2 P (by omega))
          rw [HRW.out] at HRD
          clear HBYR
          go_wp2_with fail
          refine HRD.out.mono ?_
          rintro r w7 ⟨hans, hm7⟩
          clear q2
          have HB7 : Hid (Below w.heap.size w w7) := hid (HB6.out.trans (hm7.below HB6.out.size HBC.out))
          have hz7 : ∀ b, w1.heap.size ≤ b → b < w3.heap.size → C4 b = 0 := fun b h1 h2 => by rw [HX4.out b h2]; exact HCN.out b h1
          have R7 : Hid (w7.heap[w2.heap.size]? = _) := hid ((hm7.block w2.heap.size (row_lt R6.out) (fun h => h (hz7 _ HLE.out HSZ2.out))).trans R6.out)
          have hzero : wrP ⟨k, e, pg, bh⟩ P = List.replicate 256 0 := by unfold wrP; rw [if_neg (fun h => hpe h.2)]
          rw [hzero] at hans
          obtain ⟨v7, rfl, hv7⟩ := hans
          have hF : opnF (List.replicate 256 0) (P : Int) zh = zeroFr := by unfold opnF; rw [opnE_zeros, if_neg (by decide)]
          rw [hF] at hv7 ⊢
          rw [opnE_zeros]
          dsimp only [zeroFr] at hv7 ⊢
          obtain ⟨a7, c7, rfl, _, _, _, _⟩ := hv7
          obtain ⟨w8, hw8⟩ : ∃ w8, w8 = w7.alloc (.cells #[.int .i64 0, .int .i64 0, .int .i64 0, .slice a7 0 c7] 25) := ⟨_, rfl⟩
          have hb8 : Below w7.heap.size w7 w8 := by rw [hw8]; exact (Below.refl _ _).alloc (Nat.le_refl _) _
          have HB8 : Hid (Below w.heap.size w w8) := hid (HB7.out.trans (hb8.mono HB7.out.size))
          have R8 : Hid (w8.heap[w2.heap.size]? = _) := hid (row_below R7.out hb8)
          have q2 := cell_of_row w8 _ 2 _ _ _ R8.out
          have HKN := hid (known_any w8)
          have HW8 := hid hw8
          clear hb8 hw8 HRD hm7 hz7 hF hzero R7 HB7
          go_upto_region 16 with fail
          rw [← HW8.out]
          go_wp2_with fail
          refine HKN.out.mono ?_
          rintro r w9 ⟨rfl, hb9⟩
          have HB9 : Hid (Below w.heap.size w w9) := hid (HB8.out.trans (hb9.mono HB8.out.size))
          clear hb9 HKN HW8 HB8 R8 q2
          go_wp2_with fail
          go_ret
          exact ⟨rfl, HB9.out⟩
  · rw [hwe]
    have hne : (((chk ⟨k, e, pg, bh⟩ : Nat) : Int) == 0) = false := by rw [beq_eq_false_iff_ne]; omega
    have hne2 : (((chk ⟨k, e, pg, bh⟩ : Nat) : Int) != 0) = true := by rw [bne_iff_ne]; omega
    have hne3 : (((chk ⟨k, e, pg, bh⟩ : Nat) : Int) != ((chk ⟨k, e, pg, bh⟩ : Nat) : Int)) = false := by simp
    clear hchk hwe
    generalize chk ⟨k, e, pg, bh⟩ = q at *
    by_cases hlo : page < 0
    · have hlo1 := hlo
      have HRD := hid (read_far HD6.out page (.slice a2 zh.length c2) HP4.out.2.1 (by omega))
      go_wp2_with fail
      refine HRD.out.mono ?_
      rintro r w7 ⟨rfl, hb7⟩
      clear q2
      obtain ⟨w8, hw8⟩ : ∃ w8, w8 = w7.alloc (.cells zc 25) := ⟨_, rfl⟩
      have HB8 : Hid (Below w.heap.size w w8) := hid (by
        have h7 := HB6.out.trans (hb7.mono HB6.out.size)
        rw [hw8]; exact h7.alloc h7.size _)
      have HKN := hid (known_any w8)
      have HW8 := hid hw8
      clear hb7 hw8 HRD
      go_wp2_with fail
      rw [← HW8.out]
      refine HKN.out.mono ?_
      rintro r w9 ⟨rfl, hb9⟩
      have HB9 : Hid (Below w.heap.size w w9) := hid (HB8.out.trans (hb9.mono HB8.out.size))
      clear hb9 HKN HW8 HB8
      go_wp2_with fail
      go_ret
      exact ⟨rfl, HB9.out⟩
    · by_cases hhi : (p : Int) ≤ page
      · have hhi1 := hhi
        have HRD := hid (read_far HD6.out page (.slice a2 zh.length c2) HP4.out.2.1 (by omega))
        go_wp2_with fail
        refine HRD.out.mono ?_
        rintro r w7 ⟨rfl, hb7⟩
        clear q2
        obtain ⟨w8, hw8⟩ : ∃ w8, w8 = w7.alloc (.cells zc 25) := ⟨_, rfl⟩
        have HB8 : Hid (Below w.heap.size w w8) := hid (by
          have h7 := HB6.out.trans (hb7.mono HB6.out.size)
          rw [hw8]; exact h7.alloc h7.size _)
        have HKN := hid (known_any w8)
        have HW8 := hid hw8
        clear hb7 hw8 HRD
        go_wp2_with fail
        rw [← HW8.out]
        refine HKN.out.mono ?_
        rintro r w9 ⟨rfl, hb9⟩
        have HB9 : Hid (Below w.heap.size w w9) := hid (HB8.out.trans (hb9.mono HB8.out.size))
        clear hb9 HKN HW8 HB8
        go_wp2_with fail
        go_ret
        exact ⟨rfl, HB9.out⟩
      · obtain ⟨P, rfl⟩ := Int.eq_ofNat_of_zero_le (show 0 ≤ page by omega)
        have HBYR : Hid (Bytes (rd S4 P)) := hid (by rw [HP4.out.2.2.2 P (by omega)]; exact wrP_bytes HBH.out P)
        have HRD := hid (read_good HD6.out P _ a2 c2 zh HZ6.out (fun b hb => by
          rcases Nat.eq_zero_or_pos (C4 b) with h | h
          · exact h
          · exact absurd (HBC.out b (by omega)) (by omega)) (by omega) HP4.out.2.1 (by omega) (Nat.le_trans HP4.out.1 (by decide)) (by rw [HP4.out.2.2.1]; decide) HBYR.out)
        have HRW : Hid (rd S4 P = wrP ⟨k, e, pg, bh⟩ P) := hid (HP4.out.2.2.2 P (by omega))
        rw [HRW.out] at HRD
        clear HBYR
        go_wp2_with fail
        refine HRD.out.mono ?_
        rintro r w7 ⟨hans, hm7⟩
        clear q2
        have HB7 : Hid (Below w.heap.size w w7) := hid (HB6.out.trans (hm7.below HB6.out.size HBC.out))
        have hz7 : ∀ b, w1.heap.size ≤ b → b < w3.heap.size → C4 b = 0 := fun b h1 h2 => by rw [HX4.out b h2]; exact HCN.out b h1
        have R7 : Hid (w7.heap[w2.heap.size]? = _) := hid ((hm7.block w2.heap.size (row_lt R6.out) (fun h => h (hz7 _ HLE.out HSZ2.out))).trans R6.out)
        have hzero := hzr P (by omega)
        rw [hzero] at hans
        obtain ⟨v7, rfl, hv7⟩ := hans
        have hF : opnF (List.replicate 256 0) (P : Int) zh = zeroFr := by unfold opnF; rw [opnE_zeros, if_neg (by decide)]
        rw [hF] at hv7 ⊢
        rw [opnE_zeros]
        dsimp only [zeroFr] at hv7 ⊢
        obtain ⟨a7, c7, rfl, _, _, _, _⟩ := hv7
        obtain ⟨w8, hw8⟩ : ∃ w8, w8 = w7.alloc (.cells #[.int .i64 0, .int .i64 0, .int .i64 0, .slice a7 0 c7] 25) := ⟨_, rfl⟩
        have hb8 : Below w7.heap.size w7 w8 := by rw [hw8]; exact (Below.refl _ _).alloc (Nat.le_refl _) _
        have HB8 : Hid (Below w.heap.size w w8) := hid (HB7.out.trans (hb8.mono HB7.out.size))
        have R8 : Hid (w8.heap[w2.heap.size]? = _) := hid (row_below R7.out hb8)
        have q2 := cell_of_row w8 _ 2 _ _ _ R8.out
        have HKN := hid (known_any w8)
        have HW8 := hid hw8
        clear hb8 hw8 HRD hm7 hz7 hF hzero R7 HB7
        go_upto_region 16 with fail
        rw [← HW8.out]
        go_wp2_with fail
        refine HKN.out.mono ?_
        rintro r w9 ⟨rfl, hb9⟩
        have HB9 : Hid (Below w.heap.size w w9) := hid (HB8.out.trans (hb9.mono HB8.out.size))
        clear hb9 HKN HW8 HB8 R8 q2
        go_wp2_with fail
        go_ret
        exact ⟨rfl, HB9.out⟩
namespace frameDevices
open Go.ChangeShapes Go.WideShapes Go.ChangeAt

theorem own : ownKnob Try.prog.godebug = none := by kernel_rfl
theorem laidOut : laidOutB Try.prog = true := by kernel_rfl

set_option maxRecDepth 100000 in
theorem lifted (os : Os) (started : os.Started) (H : Type) (enc : TypeId × Value → H) :
    ReturnsInHanded {} Try.checked os 6 .any (Rows.frameDevicesSpec.pre6 enc Try.prog Try.f6 Rows.frameDevicesRow.domain false) (Rows.frameDevicesSpec.post enc Try.prog Try.f6 false true false false) := by
  refine returnsInHanded_of_change (C := Try.checked) own started (by kernel_rfl) Try.func6
    (ChangeSpec.witness6 (enc := enc) (C := Try.checked) false ⟨#[], #[.int .i64 0, .agg #[.int .i64 0, .int .i64 0, .int .i64 0, .slice none 0 0], .int .i64 0, .slice none 0 0], []⟩ 8 (by kernel_rfl) (by kernel_rfl) (by kernel_rfl) (by kernel_rfl)) ?_
  intro W base args ds gs before hval0 hW hcnd _
  have hval : ∀ (j : Nat) t v, Try.f6.params[j]? = some t → args[j]? = some v → Value.okWide Try.prog W .any base t v := hval0
  have hW' := hW
  obtain ⟨p, q, hA0, hV, rfl, hfz, hnd⟩ := hW
  have hA : DataW.TrodAll enc Try.prog W 0 (fun _ => true) true Try.f6.params.toList args.toList ds p := hA0
  rw [Try.params6] at hA hval
  obtain ⟨v0, vs0, d0, ds0, p0, q0, hargs, rfl, rfl, h0, r0⟩ := trodAll_cons hA
  obtain ⟨v1, vs1, d1, ds1, p1, q1, rfl, rfl, rfl, h1, r1⟩ := trodAll_cons r0
  obtain ⟨v2, vs2, d2, ds2, p2, q2, rfl, rfl, rfl, h2, r2⟩ := trodAll_cons r1
  obtain ⟨v3, vs3, d3, ds3, p3, q3, rfl, rfl, rfl, h3, r3⟩ := trodAll_cons r2
  obtain ⟨rfl, rfl, rfl⟩ := trodAll_nil r3
  obtain rfl : args = #[v0, v1, v2, v3] := by cases args; simp_all
  obtain ⟨rfl, rfl⟩ := trodVars_none hV
  obtain ⟨x0, rfl, rfl, rfl, wf0⟩ := open_int Try.underlying3 (hval 0 3 v0 rfl rfl) h0
  have hx0 := bounds_i64 wf0
  have k1 := h1
  have lt1 : ∀ x ∈ p1, x.block < W.heap.size := by obtain ⟨m, hm⟩ := k1; exact DataW.trod_lt m _ _ _ hm
  obtain ⟨K1, E1, G1, a1, cap1, bs1, rfl, hKE1, hby1, hsl1, hlc1, hcm1, hn1⟩ := open_fr (hval 1 24 v1 rfl rfl) h1
  obtain ⟨x2, rfl, rfl, rfl, wf2⟩ := open_int Try.underlying3 (hval 2 3 v2 rfl rfl) h2
  have hx2 := bounds_i64 wf2
  obtain ⟨a3, len3, cap3, rfl⟩ := okWide_slice Try.underlying40 (hval 3 40 v3 rfl rfl)
  have k3 := h3
  have lt3 : ∀ x ∈ p3, x.block < W.heap.size := by obtain ⟨m, hm⟩ := k3; exact DataW.trod_lt m _ _ _ hm
  obtain ⟨a, c, zs3, hv, hz3, hsi3, hlc3, hcm3, hn3⟩ : ∃ a c zs, Value.slice a3 len3 cap3 = .slice a (List.length zs) c ∧ (∀ z ∈ zs, -9223372036854775808 ≤ z ∧ z ≤ 9223372036854775807) ∧ Si (fun _ => True) W a zs ∧ zs.length ≤ c ∧ c ≤ maxLen ∧ (a = none → c = 0) := by
    obtain ⟨fuel, hf⟩ := h3
    exact open_si Try.underlying40 Try.underlying3 (by kernel_rfl) hf
  simp only [Value.slice.injEq] at hv
  obtain ⟨rfl, rfl, rfl⟩ := hv
  clear hA0 hval0
  refine (frameDevices_walk _ _ x0 K1 E1 G1 a1 cap1 bs1 x2 a3 cap3 zs3 W hsl1 hby1 ⟨hlc1, hcm1⟩ hn1 hsi3 ⟨hlc3, hcm3⟩).mono fun e W' ⟨he, bel⟩ => ?_
  subst he
  exact ⟨_, rfl, _, _, _, [], _, [], hW', trodAll_mk1 (shut_bool Try.underlying4 _), (trodAll_cons_mk (shut_int Try.underlying3 wf0) (trodAll_cons_mk (Below.trod laidOut (by kernel_rfl) (of_decide_eq_true (by kernel_rfl)) k1 bel lt1) (trodAll_cons_mk (shut_int Try.underlying3 wf2) (trodAll_cons_mk (Below.trod laidOut (by kernel_rfl) (of_decide_eq_true (by kernel_rfl)) k3 bel lt3) trodAll_mk0)))), rfl, bel.frame _, fun h => by cases h⟩

/-- THE STATEMENT. -/
theorem proved : Rows.FrameDevicesSaid :=
  OpenClaim.holds_of_wide 6 Try.f6 rfl rfl rfl rfl rfl rfl rfl ⟨rfl, rfl, rfl, rfl, rfl⟩ rfl rfl rfl rfl rfl (by kernel_rfl) Try.func6 (by kernel_rfl)
    (of_decide_eq_true (by kernel_rfl)) (by unfold Func.isWrapper; first | (rw [if_pos (by decide +kernel)]; kernel_rfl) | (rw [if_neg (by decide +kernel)]; exact ⟨rfl, rfl⟩))
    (fun os started H enc _ => lifted os started H enc)
end frameDevices
end Go.Proofs.Ytmdimhijbmeioaa
