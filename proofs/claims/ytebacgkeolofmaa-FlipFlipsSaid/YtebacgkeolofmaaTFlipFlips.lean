/- FLIP, THE FOURTH STATEMENT: flips one behind the other count, each of an epoch more; what is not right is not flipped (all lists of superblocks; the first ten are flipped). -/
import Derived.Test.YtebacgkeolofmaaU30
namespace Go.Proofs.Ytebacgkeolofmaa
open Go.RowKit Go.Inc

set_option maxRecDepth 20000 in
set_option maxHeartbeats 8000000 in
theorem flipFlips_walk (ok : Nat → Prop) (a : Option Addr) (c : Nat) (l : List Sp) (w : World) (hs : SpS ok w a l) (hlf : ∀ y ∈ l, y.fits) (hc : l.length ≤ c ∧ c ≤ maxLen) :
    Calls Try.prog 6 #[.slice a l.length c] w fun r w' => r = .returned (.bool true) ∧ Below w.heap.size w w' := by
  obtain ⟨n, hn⟩ : ∃ n, n = l.length := ⟨_, rfl⟩
  obtain ⟨N, hN⟩ : ∃ N, N = min n 10 := ⟨_, rfl⟩
  have HLF := hid hlf
  have HS : Hid (∀ x, Below w.heap.size w x → ∀ k, k < n → ∃ b o, a = some ⟨b, o, none⟩ ∧ _) := hid fun x hx k hk => hs.cells (k := k) hx (by omega)
  have hcl : (n : Int) ≤ c := by omega
  have hcm : (c : Int) ≤ 9223372036854775807 := by have := hc.2; unfold maxLen at this; omega
  have HN := hid hn
  rw [← hn]
  clear hs hc hn hlf
  go_enter Try.func6, Try.ntmps6
  go_wp2_with fail
  refine (new_dd w).mono ?_
  rintro x w1 ⟨C0, g, S0, rfl, hd1, hb1⟩
  obtain ⟨w2, hw2⟩ : ∃ y, y = w1.alloc (.cells #[.int .i64 0, .int .i64 0, .int .i64 0, .int .i64 0] 23) := ⟨_, rfl⟩
  have hb2 : Below w1.heap.size w1 w2 := by rw [hw2]; exact (Below.refl _ _).alloc (Nat.le_refl _) _
  have HNOW2 : Hid (w2.heap[w1.heap.size]? = some (.cells #[.int .i64 (zeroSp).e, .int .i64 (zeroSp).r, .int .i64 (zeroSp).s, .int .i64 (zeroSp).t] 23 (0, 0))) := hid (by rw [hw2]; exact heap_alloc_new w1 _)
  have HB2 : Hid (Below w.heap.size w w2) := hid (hb1.trans (hb2.mono hb1.size))
  have HD2 := hid (hd1.below hb2)
  have HNB : Hid (w.heap.size ≤ w1.heap.size) := hid hb1.size
  have HC2 : Hid (C0 w1.heap.size = 0) := hid (hd1.dv.new (Nat.le_refl _))
  have HW2 := hid hw2
  obtain ⟨nb, hnb⟩ : ∃ nb, nb = w1.heap.size := ⟨_, rfl⟩
  clear hd1 hb1 hb2 hw2
  go_upto_region 6 with fail
  rw [← HW2.out]
  rw [← hnb] at HNOW2 HNB HC2 ⊢
  clear hnb HW2
  go_wp2_with fail
  go_loopw [5, 7] (fun ep i wr => ∃ (k E : Nat) (C : Nat → Nat) (S : St) (P Q : List Nat) (y : Sp), k ≤ N ∧ i = .int .i64 (k : Int) ∧ ep = .int .i64 (E : Int) ∧ E ≤ k ∧ Dd w.heap.size C wr g S P Q (4 * (k : Int)) ∧ C nb = 0 ∧ wr.heap[nb]? = some (.cells #[.int .i64 (y).e, .int .i64 (y).r, .int .i64 (y).s, .int .i64 (y).t] 23 (0, 0)) ∧ (fiS P Q).e = (E : Int) ∧ (fiE P Q = 0 ↔ 0 < E) ∧ Below w.heap.size w wr) (fun _ i _ => N - (intOf i).toNat)
  case atStart => exact ⟨0, 0, C0, S0, zeros256, zeros256, zeroSp, Nat.zero_le _, rfl, rfl, Nat.le_refl _, HD2.out, HC2.out, HNOW2.out, by rw [k1.2]; rfl, by rw [k1.1]; decide, HB2.out⟩
  case round =>
    obtain ⟨k, E, C, S, P, Q, y, hk, rfl, rfl, hE, hd, hcn, hnow, he, hfe, hb⟩ := hrel
    have HD := hid hd
    have HCN := hid hcn
    have HNOW := hid hnow
    have HE := hid he
    have HFE := hid hfe
    have HB := hid hb
    clear hd hcn hnow he hfe hb HNOW2 HB2 HD2 HC2
    have hN10 : N ≤ 10 := by omega
    have hNn : N ≤ n := by omega
    have hE10 : (E : Int) ≤ 10 := by omega
    by_cases hlt : k < N
    · have hk1 : (k < n) = True := eq_true (by omega)
      have hk2 : (k : Int) < n := by omega
      have hk3 : (k : Int) < 10 := by omega
      obtain ⟨s, hsd⟩ : ∃ s, s = l.getD k zeroSp := ⟨_, rfl⟩
      obtain ⟨b, o, rfl, c0, c1, c2, c3⟩ := HS.out wr HB.out k (by omega)
      rw [← hsd] at c0 c1 c2 c3
      have HLT := hid hlt
      have HNX : Hid (∃ nx : Sp, nx = ⟨(fiS P Q).e + 1, s.r, s.s, s.t⟩ ∧ nx = ⟨(E : Int) + 1, s.r, s.s, s.t⟩ ∧ nx.e = (fiS P Q).e + 1) := hid ⟨_, rfl, by rw [HE.out], rfl⟩
      obtain ⟨nx, hnx1, hnx2, hnx3⟩ := HNX.out
      have HNX1 := hid hnx1
      have HNX2 := hid hnx2
      have HNX3 := hid hnx3
      clear hsd hlt HNX hnx1 hnx2 hnx3
      go_upto_region 10 with fail
      obtain ⟨w3, hw3⟩ : ∃ y, y = wr.alloc (.cells #[.int .i64 (s).e, .int .i64 (s).r, .int .i64 (s).s, .int .i64 (s).t] 23) := ⟨_, rfl⟩
      have hb3 : Below wr.heap.size wr w3 := by rw [hw3]; exact (Below.refl _ _).alloc (Nat.le_refl _) _
      have hs3 : w3.heap[wr.heap.size]? = some (.cells #[.int .i64 (s).e, .int .i64 (s).r, .int .i64 (s).s, .int .i64 (s).t] 23 (0, 0)) := by rw [hw3]; exact heap_alloc_new wr _
      have HB3 : Hid (Below w.heap.size w w3) := hid (HB.out.trans (hb3.mono HB.out.size))
      have HD3 := hid (HD.out.below hb3)
      have HCS : Hid (C wr.heap.size = 0) := hid (HD.out.dv.new (Nat.le_refl _))
      have HNOW3 := hid (row_below HNOW.out hb3)
      have HS3 := hid hs3
      have HGE : Hid (w.heap.size ≤ wr.heap.size) := hid HB.out.size
      have HNE : Hid (nb < wr.heap.size) := hid (row_lt HNOW.out)
      rw [← hw3]
      clear c0 c1 c2 c3
      have c0 := cell_of_row w3 _ 0 _ _ _ hs3
      have c1 := cell_of_row w3 _ 1 _ _ _ hs3
      have c2 := cell_of_row w3 _ 2 _ _ _ hs3
      have c3 := cell_of_row w3 _ 3 _ _ _ hs3
      clear hb3 hs3 hw3 HB HD HNOW
      go_wp2_with fail
      refine (to_any s.e s.r s.s s.t w3).mono ?_
      rintro x w4 ⟨rfl, hb4⟩
      have HB4 : Hid (Below w.heap.size w w4) := hid (HB3.out.trans (hb4.mono HB3.out.size))
      have HFL := hid (flip_dd (HD3.out.below hb4) (by omega) HB4.out.size s.e s.r s.s s.t)
      have HHI := hid HD3.out.hi
      have HNOW4 := hid (row_below HNOW3.out hb4)
      have HS4 := hid (row_below HS3.out hb4)
      clear hb4 c0 c1 c2 c3 HB3 HD3 HNOW3 HS3
      rw [← HNX1.out] at HFL
      go_wp2_with fail
      refine HFL.out.mono ?_
      clear HFL
      rintro x w5 ⟨hm5, C5, S5, hext5, hh⟩
      have HB5 : Hid (Below w.heap.size w w5) := hid (HB4.out.trans (hm5.below HB4.out.size HHI.out))
      have HNOW5 := hid (hm5.row HNOW4.out (fun h => h HCN.out))
      have HS5 := hid (hm5.row HS4.out (fun h => h HCS.out))
      have HCN5 : Hid (C5 nb = 0) := hid (by rw [hext5 _ (row_lt HNOW4.out)]; exact HCN.out)
      have HCS5 : Hid (C5 wr.heap.size = 0) := hid (by rw [hext5 _ (row_lt HS4.out)]; exact HCS.out)
      clear hm5 hext5 HB4 HNOW4 HS4 HCN HCS HHI
      rcases hh with ⟨hok, rfl, hd5⟩ | ⟨hok, rfl, hd5⟩
      · obtain ⟨w6, hw6⟩ : ∃ u, u = w5.alloc (.cells #[.int .i64 0, .int .i64 0, .int .i64 0, .int .i64 0] 24) := ⟨_, rfl⟩
        have hb6 : Below w5.heap.size w5 w6 := by rw [hw6]; exact (Below.refl _ _).alloc (Nat.le_refl _) _
        have HX6 : Hid (w6.heap[w5.heap.size]? = some (.cells #[.int .i64 0, .int .i64 0, .int .i64 0, .int .i64 0] 24 (0, 0))) := hid (by rw [hw6]; exact heap_alloc_new w5 _)
        have HB6 : Hid (Below w.heap.size w w6) := hid (HB5.out.trans (hb6.mono HB5.out.size))
        have HD6 := hid (hd5.below hb6)
        have HCX : Hid (C5 w5.heap.size = 0) := hid (hd5.dv.new (Nat.le_refl _))
        have HNOW6 := hid (row_below HNOW5.out hb6)
        have hs6 : w6.heap[wr.heap.size]? = _ := row_below HS5.out hb6
        have HLT5 : Hid (wr.heap.size < w5.heap.size) := hid (row_lt HS5.out)
        have HW6 := hid hw6
        have q0 := cell_of_row w6 _ 0 _ _ _ hs6
        have qf := frozen_of_row w6 wr.heap.size 0 _ _ hs6
        obtain ⟨w7, hw7⟩ : ∃ u, u = w6.setCell ⟨wr.heap.size, 0, none⟩ (.int .i64 ((E : Int) + 1)) := ⟨_, rfl⟩
        have hg7 : w6.grownBy w7 (some wr.heap.size) := by rw [hw7]; exact grown_setCell (grown_refl _ _) (.inl rfl) _
        have hm7 : Mv (fun b => b = wr.heap.size) w6 w7 := Mv.of_grown hg7 fun g h _ => by cases h; rfl
        have hs7 : w7.heap[wr.heap.size]? = some (.cells #[.int .i64 (nx).e, .int .i64 (nx).r, .int .i64 (nx).s, .int .i64 (nx).t] 23 (0, 0)) := by rw [hw7]; exact row_set hs6 0 _ (by rw [HNX2.out]; simp)
        have HB7 : Hid (Below w.heap.size w w7) := hid (below_grown HB6.out hg7 HGE.out HB6.out.size)
        have HD7 := hid (HD6.out.keep hm7 fun b hb => by subst hb; exact HCS5.out)
        have HX7 := hid (hm7.row HX6.out (by have := HLT5.out; omega))
        have HNOW7 := hid (hm7.row HNOW6.out (by have := HNE.out; omega))
        have HS7 := hid hs7
        have HW7 := hid hw7
        have p0 := cell_of_row w7 _ 0 _ _ _ hs7
        have p1 := cell_of_row w7 _ 1 _ _ _ hs7
        have p2 := cell_of_row w7 _ 2 _ _ _ hs7
        have p3 := cell_of_row w7 _ 3 _ _ _ hs7
        clear hd5 hb6 hw6 hs6 hg7 hm7 hs7 hw7 HB5 HB6 HD6 HX6 HNOW5 HNOW6 HS5
        go_upto_region 11 with fail
        rw [← HW6.out]
        go_upto_region 12 with fail
        rw [← HW7.out]
        clear HW6 HW7 q0 qf
        have HCK := hid (refFCheck_any nx.e nx.r nx.s nx.t w7)
        rw [show spChk ⟨nx.e, nx.r, nx.s, nx.t⟩ = 10 from spChk_no hok] at HCK
        go_wp2_with fail
        refine HCK.out.mono ?_
        clear HCK
        rintro x w8 ⟨rfl, hb8⟩
        have HB8 : Hid (Below w.heap.size w w8) := hid (HB7.out.trans (hb8.mono HB7.out.size))
        have HD8 := hid (HD7.out.below hb8)
        have HX8 := hid (row_below HX7.out hb8)
        have HNOW8 := hid (row_below HNOW7.out hb8)
        have HS8 := hid (row_below HS7.out hb8)
        clear hb8 p0 p1 p2 p3 HB7 HD7 HX7 HNOW7 HS7
        have z0 := cell_of_row w8 _ 0 _ _ _ HX8.out
        have z1 := cell_of_row w8 _ 1 _ _ _ HX8.out
        have z2 := cell_of_row w8 _ 2 _ _ _ HX8.out
        have z3 := cell_of_row w8 _ 3 _ _ _ HX8.out
        clear hok
        go_wp2_with fail
        go_roundw
        case rel => exact ⟨k + 1, E, C5, S5, P, Q, y, by have := HLT.out; omega, by go_num, rfl, by omega, HD8.out.up (by omega), HCN5.out, HNOW8.out, HE.out, HFE.out, HB8.out⟩
        case measure => have := HLT.out; simp [intOf]; omega
      · obtain ⟨w6, hw6⟩ : ∃ u, u = w5.alloc (.cells #[.int .i64 (nx).e, .int .i64 (nx).r, .int .i64 (nx).s, .int .i64 (nx).t] 24) := ⟨_, rfl⟩
        have hb6 : Below w5.heap.size w5 w6 := by rw [hw6]; exact (Below.refl _ _).alloc (Nat.le_refl _) _
        have HX6 : Hid (w6.heap[w5.heap.size]? = some (.cells #[.int .i64 (nx).e, .int .i64 (nx).r, .int .i64 (nx).s, .int .i64 (nx).t] 24 (0, 0))) := hid (by rw [hw6]; exact heap_alloc_new w5 _)
        have HB6 : Hid (Below w.heap.size w w6) := hid (HB5.out.trans (hb6.mono HB5.out.size))
        have HD6 := hid (hd5.below hb6)
        have HCX : Hid (C5 w5.heap.size = 0) := hid (hd5.dv.new (Nat.le_refl _))
        have HNOW6 := hid (row_below HNOW5.out hb6)
        have hs6 : w6.heap[wr.heap.size]? = _ := row_below HS5.out hb6
        have HLT5 : Hid (wr.heap.size < w5.heap.size) := hid (row_lt HS5.out)
        have HW6 := hid hw6
        have q0 := cell_of_row w6 _ 0 _ _ _ hs6
        have qf := frozen_of_row w6 wr.heap.size 0 _ _ hs6
        obtain ⟨w7, hw7⟩ : ∃ u, u = w6.setCell ⟨wr.heap.size, 0, none⟩ (.int .i64 ((E : Int) + 1)) := ⟨_, rfl⟩
        have hg7 : w6.grownBy w7 (some wr.heap.size) := by rw [hw7]; exact grown_setCell (grown_refl _ _) (.inl rfl) _
        have hm7 : Mv (fun b => b = wr.heap.size) w6 w7 := Mv.of_grown hg7 fun g h _ => by cases h; rfl
        have hs7 : w7.heap[wr.heap.size]? = some (.cells #[.int .i64 (nx).e, .int .i64 (nx).r, .int .i64 (nx).s, .int .i64 (nx).t] 23 (0, 0)) := by rw [hw7]; exact row_set hs6 0 _ (by rw [HNX2.out]; simp)
        have HB7 : Hid (Below w.heap.size w w7) := hid (below_grown HB6.out hg7 HGE.out HB6.out.size)
        have HD7 := hid (HD6.out.keep hm7 fun b hb => by subst hb; exact HCS5.out)
        have HX7 := hid (hm7.row HX6.out (by have := HLT5.out; omega))
        have HNOW7 := hid (hm7.row HNOW6.out (by have := HNE.out; omega))
        have HS7 := hid hs7
        have HW7 := hid hw7
        have p0 := cell_of_row w7 _ 0 _ _ _ hs7
        have p1 := cell_of_row w7 _ 1 _ _ _ hs7
        have p2 := cell_of_row w7 _ 2 _ _ _ hs7
        have p3 := cell_of_row w7 _ 3 _ _ _ hs7
        clear hd5 hb6 hw6 hs6 hg7 hm7 hs7 hw7 HB5 HB6 HD6 HX6 HNOW5 HNOW6 HS5
        go_upto_region 11 with fail
        rw [← HW6.out]
        go_upto_region 12 with fail
        rw [← HW7.out]
        clear HW6 HW7 q0 qf
        have HCK := hid (refFCheck_any nx.e nx.r nx.s nx.t w7)
        rw [show spChk ⟨nx.e, nx.r, nx.s, nx.t⟩ = 0 from spChk_ok hok] at HCK
        go_wp2_with fail
        refine HCK.out.mono ?_
        clear HCK
        rintro x w8 ⟨rfl, hb8⟩
        have HB8 : Hid (Below w.heap.size w w8) := hid (HB7.out.trans (hb8.mono HB7.out.size))
        have HD8 := hid (HD7.out.below hb8)
        have HX8 := hid (row_below HX7.out hb8)
        have HNOW8 := hid (row_below HNOW7.out hb8)
        have HS8 := hid (row_below HS7.out hb8)
        clear hb8 p0 p1 p2 p3 HB7 HD7 HX7 HNOW7 HS7
        have HNEW := hid (find_new (A := P) (B := Q) hok HNX3.out)
        clear hok
        go_upto_region 16 with fail
        refine wp_region_lit ?_
        refine wpList_load_row rfl 23 _ rfl wr.heap.size rfl 23 _ _ _ HS8.out Try.underlying23 rfl (by kernel_rfl) ?_
        refine wpList_store_own rfl 23 _ _ rfl nb #[.int .i64 (nx).e, .int .i64 (nx).r, .int .i64 (nx).s, .int .i64 (nx).t] rfl rfl 23 _ HNOW8.out (by kernel_rfl) rfl (by simp [Value.oneCell']) ?_
        intro w9 hr9 hg9
        have HNOW9 := hid hr9
        have hm9 : Mv (fun b => b = nb) w8 w9 := Mv.of_grown hg9 fun g h _ => by cases h; rfl
        have HB9 : Hid (Below w.heap.size w w9) := hid (below_grown HB8.out hg9 HNB.out HB8.out.size)
        have HD9 := hid (HD8.out.keep hm9 fun b hb => by subst hb; exact HCN5.out)
        have HX9 := hid (hm9.row HX8.out (by have := HLT5.out; have := HNE.out; omega))
        have HFD := hid (find_dd HD9.out (by omega))
        have HHI9 := hid HD9.out.hi
        clear hr9 hg9 hm9 HB8 HD8 HX8 HNOW8 HS8
        rw [HNEW.out.1, HNEW.out.2] at HFD
        go_wp2_with fail
        refine HFD.out.mono ?_
        clear HFD
        rintro x w10 ⟨S10, rfl, hd10, hm10⟩
        have HB10 : Hid (Below w.heap.size w w10) := hid (HB9.out.trans (hm10.below HB9.out.size HHI9.out))
        have HNOW10 := hid (hm10.row HNOW9.out (fun h => h HCN5.out))
        have HX10 := hid (hm10.row HX9.out (fun h => h HCX.out))
        obtain ⟨w11, hw11⟩ : ∃ u, u = w10.alloc (.cells #[.int .i64 (nx).e, .int .i64 (nx).r, .int .i64 (nx).s, .int .i64 (nx).t] 24) := ⟨_, rfl⟩
        have hb11 : Below w10.heap.size w10 w11 := by rw [hw11]; exact (Below.refl _ _).alloc (Nat.le_refl _) _
        have HY11 : Hid (w11.heap[w10.heap.size]? = some (.cells #[.int .i64 (nx).e, .int .i64 (nx).r, .int .i64 (nx).s, .int .i64 (nx).t] 24 (0, 0))) := hid (by rw [hw11]; exact heap_alloc_new w10 _)
        have HB11 : Hid (Below w.heap.size w w11) := hid (HB10.out.trans (hb11.mono HB10.out.size))
        have HD11 := hid (hd10.below hb11)
        have HNOW11 := hid (row_below HNOW10.out hb11)
        have HX11 := hid (row_below HX10.out hb11)
        have HW11 := hid hw11
        clear hd10 hm10 hb11 hw11 HB9 HB10 HD9 HX9 HX10 HNOW9 HNOW10 HHI9
        go_upto_region 18 with fail
        rw [← HW11.out]
        clear HW11
        have HC : Hid (∀ z, Grew w11.drew z → z.cell? ⟨w5.heap.size, 0, none⟩ = some (.int .i64 nx.e) ∧ z.cell? ⟨w5.heap.size, 1, none⟩ = some (.int .i64 nx.r) ∧ z.cell? ⟨w5.heap.size, 2, none⟩ = some (.int .i64 nx.s) ∧ z.cell? ⟨w5.heap.size, 3, none⟩ = some (.int .i64 nx.t) ∧
            z.cell? ⟨nb, 0, none⟩ = some (.int .i64 nx.e) ∧ z.cell? ⟨nb, 1, none⟩ = some (.int .i64 nx.r) ∧ z.cell? ⟨nb, 2, none⟩ = some (.int .i64 nx.s) ∧ z.cell? ⟨nb, 3, none⟩ = some (.int .i64 nx.t) ∧
            z.cell? ⟨w10.heap.size, 0, none⟩ = some (.int .i64 nx.e) ∧ z.cell? ⟨w10.heap.size, 1, none⟩ = some (.int .i64 nx.r) ∧ z.cell? ⟨w10.heap.size, 2, none⟩ = some (.int .i64 nx.s) ∧ z.cell? ⟨w10.heap.size, 3, none⟩ = some (.int .i64 nx.t)) := hid fun z hz => by
          have h1 : z.heap[w5.heap.size]? = _ := row_below (w := w11.drew) HX11.out hz
          have h2 : z.heap[nb]? = _ := row_below (w := w11.drew) HNOW11.out hz
          have h3 : z.heap[w10.heap.size]? = _ := row_below (w := w11.drew) HY11.out hz
          exact ⟨cell_of_row z _ 0 _ _ _ h1, cell_of_row z _ 1 _ _ _ h1, cell_of_row z _ 2 _ _ _ h1, cell_of_row z _ 3 _ _ _ h1, cell_of_row z _ 0 _ _ _ h2, cell_of_row z _ 1 _ _ _ h2, cell_of_row z _ 2 _ _ _ h2, cell_of_row z _ 3 _ _ _ h2, cell_of_row z _ 0 _ _ _ h3, cell_of_row z _ 1 _ _ _ h3, cell_of_row z _ 2 _ _ _ h3, cell_of_row z _ 3 _ _ _ h3⟩
        refine wp_region_grows 17 [Eqv' (.int .i64 0), Eqv' (.bool false), Eqv' (.bool false), Eqv' (.agg #[.int .i64 (nx).e, .int .i64 (nx).r, .int .i64 (nx).s, .int .i64 (nx).t]), Eqv' (.agg #[.int .i64 (nx).e, .int .i64 (nx).r, .int .i64 (nx).s, .int .i64 (nx).t]), Eqv' (.agg #[.int .i64 (nx).e, .int .i64 (nx).r, .int .i64 (nx).s, .int .i64 (nx).t]), Eqv' (.bool false), Eqv' (.bool false), Eqv' (.bool false), Eqv' (.int .i64 0), Eqv' (.bool false), Eqv' (.bool false), Eqv' (.bool false), Eqv' (.agg #[.int .i64 (nx).e, .int .i64 (nx).r, .int .i64 (nx).s, .int .i64 (nx).t]), Eqv' (.agg #[.int .i64 (nx).e, .int .i64 (nx).r, .int .i64 (nx).s, .int .i64 (nx).t]), Eqv' (.bool false), Eqv' (.bool false)] (by kernel_rfl) (by decide) (by kernel_rfl) ?_ ?_ ?_
        · repeat' (first | exact List.forall_mem_nil _ | refine List.forall_mem_cons.2 ⟨?_, ?_⟩)
          all_goals
            intro w w' v hw h
            exact h
        · simp only [AllLt]
          refine ⟨⟨⟨⟨⟨⟨⟨⟨⟨⟨⟨⟨⟨⟨⟨⟨⟨trivial, ?_⟩, ?_⟩, ?_⟩, ?_⟩, ?_⟩, ?_⟩, ?_⟩, ?_⟩, ?_⟩, ?_⟩, ?_⟩, ?_⟩, ?_⟩, ?_⟩, ?_⟩, ?_⟩, ?_⟩
          all_goals
            intro o' ho
            simp at ho
            subst ho
            intro ρ w2 hR hL hS hG
            obtain ⟨hl1, hl2, -⟩ := hL
          · refine plainG rfl ?_
            intro bA K Q' hK
            have e10 := hS 10 (by kernel_rfl)
            change ρ (.tmp 10) = _ at e10
            simp only [execOp]
            go_simp
            exact hK _ _ rfl (Grew.refl _)
          · refine plainG rfl ?_
            intro bA K Q' hK
            have e63 := hG 0 63 (by decide) (by kernel_rfl) (by kernel_rfl)
            change ρ (.tmp 63) = _ at e63
            simp only [execOp]
            go_simp
            exact hK _ _ rfl (Grew.refl _)
          · refine plainG rfl ?_
            intro bA K Q' hK
            have e64 := hG 1 64 (by decide) (by kernel_rfl) (by kernel_rfl)
            change ρ (.tmp 64) = _ at e64
            simp only [execOp]
            go_simp
            exact hK _ _ rfl (Grew.refl _)
          · have eG : ρ (.tmp 65) = _ := hG 2 65 (by decide) (by kernel_rfl) (by kernel_rfl)
            refine onG rfl (by kernel_rfl) eG ?_
            intro bA K Q' hK
            have e9 := hS 9 (by kernel_rfl)
            change ρ (.tmp 9) = _ at e9
            obtain ⟨x0, x1, x2, x3, y0, y1, y2, y3, z0, z1, z2, z3⟩ := HC.out w2 hR
            simp only [execOp]
            go_simp
            exact hK _ _ rfl (Grew.refl _)
          · have eG : ρ (.tmp 65) = _ := hG 2 65 (by decide) (by kernel_rfl) (by kernel_rfl)
            refine onG rfl (by kernel_rfl) eG ?_
            intro bA K Q' hK
            have e66 := hG 3 66 (by decide) (by kernel_rfl) (by kernel_rfl)
            change ρ (.tmp 66) = _ at e66
            simp only [execOp]
            go_simp
            refine (of_any nx.e nx.r nx.s nx.t w2).mono ?_
            rintro r9 w9 ⟨rfl, hb9⟩
            exact hK _ _ rfl hb9
          · have eG : ρ (.tmp 65) = _ := hG 2 65 (by decide) (by kernel_rfl) (by kernel_rfl)
            refine onG rfl (by kernel_rfl) eG ?_
            intro bA K Q' hK
            have e6 := hS 6 (by kernel_rfl)
            change ρ (.tmp 6) = _ at e6
            obtain ⟨x0, x1, x2, x3, y0, y1, y2, y3, z0, z1, z2, z3⟩ := HC.out w2 hR
            simp only [execOp]
            go_simp
            exact hK _ _ rfl (Grew.refl _)
          · have eG : ρ (.tmp 65) = _ := hG 2 65 (by decide) (by kernel_rfl) (by kernel_rfl)
            refine onG rfl (by kernel_rfl) eG ?_
            intro bA K Q' hK
            have e67 := hG 4 67 (by decide) (by kernel_rfl) (by kernel_rfl)
            have e68 := hG 5 68 (by decide) (by kernel_rfl) (by kernel_rfl)
            change ρ (.tmp 67) = _ at e67
            change ρ (.tmp 68) = _ at e68
            simp only [execOp]
            go_simp
            exact hK _ _ rfl (Grew.refl _)
          · refine plainG rfl ?_
            intro bA K Q' hK
            have e65 := hG 2 65 (by decide) (by kernel_rfl) (by kernel_rfl)
            have e69 := hG 6 69 (by decide) (by kernel_rfl) (by kernel_rfl)
            change ρ (.tmp 65) = _ at e65
            change ρ (.tmp 69) = _ at e69
            simp only [execOp]
            go_simp
            exact hK _ _ rfl (Grew.refl _)
          · refine plainG rfl ?_
            intro bA K Q' hK
            have e70 := hG 7 70 (by decide) (by kernel_rfl) (by kernel_rfl)
            change ρ (.tmp 70) = _ at e70
            simp only [execOp]
            go_simp
            exact hK _ _ rfl (Grew.refl _)
          · have eG : ρ (.tmp 71) = _ := hG 8 71 (by decide) (by kernel_rfl) (by kernel_rfl)
            refine onG rfl (by kernel_rfl) eG ?_
            intro bA K Q' hK
            have e12 := hS 12 (by kernel_rfl)
            change ρ (.tmp 12) = _ at e12
            simp only [execOp]
            go_simp
            exact hK _ _ rfl (Grew.refl _)
          · have eG : ρ (.tmp 71) = _ := hG 8 71 (by decide) (by kernel_rfl) (by kernel_rfl)
            refine onG rfl (by kernel_rfl) eG ?_
            intro bA K Q' hK
            have e72 := hG 9 72 (by decide) (by kernel_rfl) (by kernel_rfl)
            change ρ (.tmp 72) = _ at e72
            simp only [execOp]
            go_simp
            exact hK _ _ rfl (Grew.refl _)
          · refine plainG rfl ?_
            intro bA K Q' hK
            have e71 := hG 8 71 (by decide) (by kernel_rfl) (by kernel_rfl)
            have e73 := hG 10 73 (by decide) (by kernel_rfl) (by kernel_rfl)
            change ρ (.tmp 71) = _ at e71
            change ρ (.tmp 73) = _ at e73
            simp only [execOp]
            go_simp
            exact hK _ _ rfl (Grew.refl _)
          · refine plainG rfl ?_
            intro bA K Q' hK
            have e74 := hG 11 74 (by decide) (by kernel_rfl) (by kernel_rfl)
            change ρ (.tmp 74) = _ at e74
            simp only [execOp]
            go_simp
            exact hK _ _ rfl (Grew.refl _)
          · have eG : ρ (.tmp 75) = _ := hG 12 75 (by decide) (by kernel_rfl) (by kernel_rfl)
            refine onG rfl (by kernel_rfl) eG ?_
            intro bA K Q' hK
            have e11 := hS 11 (by kernel_rfl)
            change ρ (.tmp 11) = _ at e11
            obtain ⟨x0, x1, x2, x3, y0, y1, y2, y3, z0, z1, z2, z3⟩ := HC.out w2 hR
            simp only [execOp]
            go_simp
            exact hK _ _ rfl (Grew.refl _)
          · have eG : ρ (.tmp 75) = _ := hG 12 75 (by decide) (by kernel_rfl) (by kernel_rfl)
            refine onG rfl (by kernel_rfl) eG ?_
            intro bA K Q' hK
            have e9 := hS 9 (by kernel_rfl)
            change ρ (.tmp 9) = _ at e9
            obtain ⟨x0, x1, x2, x3, y0, y1, y2, y3, z0, z1, z2, z3⟩ := HC.out w2 hR
            simp only [execOp]
            go_simp
            exact hK _ _ rfl (Grew.refl _)
          · have eG : ρ (.tmp 75) = _ := hG 12 75 (by decide) (by kernel_rfl) (by kernel_rfl)
            refine onG rfl (by kernel_rfl) eG ?_
            intro bA K Q' hK
            have e76 := hG 13 76 (by decide) (by kernel_rfl) (by kernel_rfl)
            have e77 := hG 14 77 (by decide) (by kernel_rfl) (by kernel_rfl)
            change ρ (.tmp 76) = _ at e76
            change ρ (.tmp 77) = _ at e77
            simp only [execOp]
            go_simp
            exact hK _ _ rfl (Grew.refl _)
          · refine plainG rfl ?_
            intro bA K Q' hK
            have e75 := hG 12 75 (by decide) (by kernel_rfl) (by kernel_rfl)
            have e78 := hG 15 78 (by decide) (by kernel_rfl) (by kernel_rfl)
            change ρ (.tmp 75) = _ at e75
            change ρ (.tmp 78) = _ at e78
            simp only [execOp]
            go_simp
            exact hK _ _ rfl (Grew.refl _)
        · intro v' w12 hR hG
          have hlast : v' 16 = .bool false := hG.2
          have HB12 : Hid (Below w.heap.size w w12) := hid (Grew.on HB11.out hR)
          have HNOW12 : Hid (w12.heap[nb]? = _) := hid (row_below (w := w11.drew) HNOW11.out hR)
          have HD12 : Hid (Dd w.heap.size C5 w12 g S10 _ _ _) := hid (HD11.out.keep (Mv.of_below (F := fun _ => False) (Below.trans ((Below.refl _ _).drew) hR)) (fun _ h => h.elim))
          have HEE : Hid ((fiS (newA nx P) (newB nx Q)).e = ((E + 1 : Nat) : Int) ∧ (fiE (newA nx P) (newB nx Q) = 0 ↔ 0 < E + 1)) := hid ⟨by rw [HNEW.out.2, HNX2.out]; show (E : Int) + 1 = _; omega, by rw [HNEW.out.1]; omega⟩
          clear hG hR HC HB11 HX11 HY11 HNOW11 HD11
          simp [stG, stU, dstAt, Act.put, hlast]
          go_wp2_with fail
          go_roundw
          case rel => exact ⟨k + 1, E + 1, C5, S10, _, _, nx, by have := HLT.out; omega, by go_num, by go_num, by omega, HD12.out.up (by omega), HCN5.out, HNOW12.out, HEE.out.1, HEE.out.2, HB12.out⟩
          case measure => have := HLT.out; simp [intOf]; omega
    · have hkN : k = N := by omega
      have HF := hid (find_dd HD.out (by omega))
      have HHI := hid HD.out.hi
      have hq := fiE_cases P Q
      have HEND : Hid (decide (0 < (E : Int)) = ((fiE P Q : Int) == 0)) := hid (by
        have := HFE.out
        by_cases h0 : 0 < E
        · rw [decide_eq_true (by omega)]
          have : fiE P Q = 0 := HFE.out.2 h0
          rw [this]; rfl
        · rw [decide_eq_false (by omega)]
          have : fiE P Q ≠ 0 := fun h => h0 (HFE.out.1 h)
          exact (beq_eq_false_iff_ne.2 (by omega)).symm)
      obtain ⟨q, hqq⟩ : ∃ q, q = fiE P Q := ⟨_, rfl⟩
      rw [← hqq] at HF HEND
      have htest : (k < n) = False ∨ ((k < n) = True ∧ (k : Int) < n ∧ (10 : Int) ≤ k) := by
        by_cases h : k < n
        · exact .inr ⟨eq_true h, by omega, by omega⟩
        · exact .inl (eq_false h)
      clear hqq hq hkN hlt HFE HE
      generalize fiS P Q = z at *
      rcases htest with h1 | ⟨h1, h2, h3⟩
      all_goals
        go_wp2_with fail
        refine HF.out.mono ?_
        rintro x w2 ⟨S2, rfl, hd2, hm2⟩
        have HB2 : Hid (Below w.heap.size w w2) := hid (HB.out.trans (hm2.below HB.out.size HHI.out))
        have HB3 : Hid (Below w.heap.size w (w2.alloc (.cells #[.int .i64 (z).e, .int .i64 (z).r, .int .i64 (z).s, .int .i64 (z).t] 24))) := hid (HB2.out.alloc HB2.out.size _)
        clear hd2 hm2 HB2
        go_wp2_with fail
        refine (flKnown_any _).mono ?_
        rintro x w4 ⟨rfl, hb4⟩
        have HB4 : Hid (Below w.heap.size w w4) := hid (HB3.out.trans (hb4.mono HB3.out.size))
        clear hb4 HB3
        go_wp2_with fail
        go_ret
        exact ⟨by rw [← HEND.out]; simp, HB4.out⟩
namespace flipFlips
open Go.ChangeShapes Go.WideShapes Go.ChangeAt

theorem own : ownKnob Try.prog.godebug = none := by kernel_rfl
theorem laidOut : laidOutB Try.prog = true := by kernel_rfl

set_option maxRecDepth 100000 in
theorem lifted (os : Os) (started : os.Started) (H : Type) (enc : TypeId × Value → H) :
    ReturnsInHanded {} Try.checked os 6 .any (Rows.flipFlipsSpec.pre6 enc Try.prog Try.f6 Rows.flipFlipsRow.domain false) (Rows.flipFlipsSpec.post enc Try.prog Try.f6 false true false false) := by
  refine returnsInHanded_of_change (C := Try.checked) own started (by kernel_rfl) Try.func6
    (ChangeSpec.witness6 (enc := enc) (C := Try.checked) false ⟨#[], #[.slice none 0 0], []⟩ 8 (by kernel_rfl) (by kernel_rfl) (by kernel_rfl) (by kernel_rfl)) ?_
  intro W base args ds gs before hval0 hW hcnd _
  have hval : ∀ (j : Nat) t v, Try.f6.params[j]? = some t → args[j]? = some v → Value.okWide Try.prog W .any base t v := hval0
  have hW' := hW
  obtain ⟨p, q, hA0, hV, rfl, hfz, hnd⟩ := hW
  have hA : DataW.TrodAll enc Try.prog W 0 (fun _ => true) true Try.f6.params.toList args.toList ds p := hA0
  rw [Try.params6] at hA hval
  obtain ⟨v0, vs0, d0, ds0, p0, q0, hargs, rfl, rfl, h0, r0⟩ := trodAll_cons hA
  obtain ⟨rfl, rfl, rfl⟩ := trodAll_nil r0
  obtain rfl : args = #[v0] := by cases args; simp_all
  obtain ⟨rfl, rfl⟩ := trodVars_none hV
  obtain ⟨a0, len0, cap0, rfl⟩ := okWide_slice Try.underlying44 (hval 0 44 v0 rfl rfl)
  have k0 := h0
  have lt0 : ∀ x ∈ p0, x.block < W.heap.size := by obtain ⟨m, hm⟩ := k0; exact DataW.trod_lt m _ _ _ hm
  obtain ⟨a, c, l0, hv, hls0, hlf0, hlc0, hcm0⟩ : ∃ a c l, Value.slice a0 len0 cap0 = .slice a (List.length l) c ∧ SpS (fun _ => True) W a l ∧ (∀ y ∈ l, y.fits) ∧ l.length ≤ c ∧ c ≤ maxLen := by
    obtain ⟨fuel, hf⟩ := h0
    exact open_sups Try.underlying44 hf
  simp only [Value.slice.injEq] at hv
  obtain ⟨rfl, rfl, rfl⟩ := hv
  clear hA0 hval0
  refine (flipFlips_walk _ a0 cap0 l0 W hls0 hlf0 ⟨hlc0, hcm0⟩).mono fun e W' ⟨he, bel⟩ => ?_
  subst he
  exact ⟨_, rfl, _, _, _, [], _, [], hW', trodAll_mk1 (shut_bool Try.underlying4 _), (trodAll_cons_mk (Below.trod laidOut (by kernel_rfl) (of_decide_eq_true (by kernel_rfl)) k0 bel lt0) trodAll_mk0), rfl, bel.frame _, fun h => by cases h⟩

/-- THE STATEMENT. -/
theorem proved : Rows.FlipFlipsSaid :=
  OpenClaim.holds_of_wide 6 Try.f6 rfl rfl rfl rfl rfl rfl rfl ⟨rfl, rfl, rfl, rfl, rfl⟩ rfl rfl rfl rfl rfl (by kernel_rfl) Try.func6 (by kernel_rfl)
    (of_decide_eq_true (by kernel_rfl)) (by unfold Func.isWrapper; first | (rw [if_pos (by decide +kernel)]; kernel_rfl) | (rw [if_neg (by decide +kernel)]; exact ⟨rfl, rfl⟩))
    (fun os started H enc _ => lifted os started H enc)
end flipFlips
end Go.Proofs.Ytebacgkeolofmaa
