/- FLIP, THE FIFTH STATEMENT: wherever the power goes in a flip, and whatever a crash keeps, the one that counts is the one ahead or the new one; the new one, if it was answered (all lists of superblocks, the first five flipped ahead; every superblock, count of calls and list of keeps, the first thirty looked at). -/
import Derived.Test.YtebacgkeolofmaaU30
import Derived.Test.YtebacgkeolofmaaU31
import Derived.Lib.MinMax
namespace Go.Proofs.Ytebacgkeolofmaa
open Go.RowKit Go.Inc

theorem left_lt (x : Int) : 0 ≤ (IntKind.u64.wrap x).tmod 3 ∧ (IntKind.u64.wrap x).tmod 3 < 3 := by
  have h0 : 0 ≤ IntKind.u64.wrap x := by rw [IntKind.wrap_u64]; omega
  rw [Int.tmod_eq_emod_of_nonneg h0]
  omega
set_option maxRecDepth 20000 in
set_option maxHeartbeats 8000000 in
theorem flipCrashes_walk (ok ok2 : Nat → Prop) (a : Option Addr) (c : Nat) (l : List Sp) (s : Sp) (left : Int) (ka : Option Addr) (kc : Nat) (ks : List Kp) (w : World) (hs : SpS ok w a l) (hc : l.length ≤ c ∧ c ≤ maxLen)
    (hks : KpS ok2 w ka ks) (hkc : ks.length ≤ kc ∧ kc ≤ maxLen) :
    Calls Try.prog 7 #[.slice a l.length c, .agg #[.int .i64 (s).e, .int .i64 (s).r, .int .i64 (s).s, .int .i64 (s).t], .int .i64 left, .slice ka ks.length kc] w fun r w' => r = .returned (.bool true) ∧ Below w.heap.size w w' := by
  obtain ⟨n, hn⟩ : ∃ n, n = l.length := ⟨_, rfl⟩
  obtain ⟨N, hN⟩ : ∃ N, N = min n 5 := ⟨_, rfl⟩
  have HS : Hid (∀ x, Below w.heap.size w x → ∀ k, k < n → ∃ b o, a = some ⟨b, o, none⟩ ∧ _) := hid fun x hx k hk => hs.cells (k := k) hx (by omega)
  have hcl : (n : Int) ≤ c := by omega
  have hcm : (c : Int) ≤ 9223372036854775807 := by have := hc.2; unfold maxLen at this; omega
  rw [← hn]
  obtain ⟨kh, hkh⟩ : ∃ kh, kh = ks.take 30 := ⟨_, rfl⟩
  obtain ⟨kn, hkn⟩ : ∃ kn, kn = ks.length := ⟨_, rfl⟩
  have hkmin : min (kn : Int) 30 = (kh.length : Int) := by rw [hkh, hkn, List.length_take]; omega
  have HKMIN := hid hkmin
  have HKL : Hid (kh.length ≤ 1000) := hid (by rw [hkh, List.length_take]; omega)
  have HKP : Hid (KpS (fun b => b < w.heap.size) w ka kh) := hid (by rw [hkh]; exact (hks.mono fun _ _ h => h).front 30)
  have HKC : Hid (kn ≤ kc ∧ kc ≤ maxLen) := hid (by rw [hkn]; exact hkc)
  rw [← hkn]
  obtain ⟨L, hL⟩ : ∃ L : Int, L = (IntKind.u64.wrap left).tmod 3 := ⟨_, rfl⟩
  have hL3 := left_lt left
  rw [← hL] at hL3
  obtain ⟨hL0, hL1⟩ := hL3
  have HL := hid hL
  obtain ⟨wb, hwb⟩ : ∃ y, y = w.alloc (.cells #[.int .i64 (s).e, .int .i64 (s).r, .int .i64 (s).s, .int .i64 (s).t] 23) := ⟨_, rfl⟩
  have hb : Below w.heap.size w wb := by rw [hwb]; exact (Below.refl _ _).alloc (Nat.le_refl _) _
  have HSB := hid (show wb.heap[w.heap.size]? = some (.cells #[.int .i64 (s).e, .int .i64 (s).r, .int .i64 (s).s, .int .i64 (s).t] 23 (0, 0)) by rw [hwb]; exact heap_alloc_new w _)
  have HBB := hid hb
  have HLT : Hid (w.heap.size < wb.heap.size) := hid (by rw [hwb]; simp)
  have HWB := hid hwb
  clear hs hc hn hks hkc hkh hkn hkmin hL hb hwb
  go_enter Try.func7, Try.ntmps7
  go_upto_region 1 with fail
  rw [← HWB.out]
  clear HWB
  go_wp2_with fail
  refine (new_dd wb).mono ?_
  rintro x w1 ⟨C0, g, S0, rfl, hd1, hb1⟩
  have HD1 := hid hd1
  have HB1 : Hid (Below w.heap.size w w1) := hid (HBB.out.trans (hb1.mono HBB.out.size))
  have HSB1 := hid (row_below HSB.out hb1)
  have HBW1 : Hid (wb.heap.size ≤ w1.heap.size) := hid hb1.size
  clear hd1 hb1 HSB HBB
  go_wp2_with fail
  go_loopw [11] (fun i wr => ∃ (k K : Nat) (C : Nat → Nat) (S : St) (P Q : List Nat), k ≤ N ∧ i = .int .i64 (k : Int) ∧ K ≤ k ∧ Dd wb.heap.size C wr g S P Q (2 * (k : Int)) ∧ Flips P Q (K : Int) ∧ wr.heap[w.heap.size]? = some (.cells #[.int .i64 (s).e, .int .i64 (s).r, .int .i64 (s).s, .int .i64 (s).t] 23 (0, 0)) ∧ Below w.heap.size w wr ∧ wb.heap.size ≤ wr.heap.size) (fun i _ => N - (intOf i).toNat)
  case atStart => exact ⟨0, 0, C0, S0, zeros256, zeros256, Nat.zero_le _, rfl, Nat.le_refl _, HD1.out, Flips.start, HSB1.out, HB1.out, HBW1.out⟩
  case round =>
    obtain ⟨k, K, C, S, P, Q, hk, rfl, hK, hd, hfl, hsb, hb, hbw⟩ := hrel
    have HD := hid hd
    have HFL := hid hfl
    have HSB := hid hsb
    have HB := hid hb
    have HBW := hid hbw
    have HNEW : Hid (∀ b, b < wb.heap.size → C b = 0) := hid fun b hlt => by
      rcases Nat.eq_zero_or_pos (C b) with h | h
      · exact h
      · have := hd.hi b (by omega); omega
    clear hd hfl hsb hb hbw HD1 HB1 HSB1 HBW1
    have hN5 : N ≤ 5 := by omega
    have hNn : N ≤ n := by omega
    have hfe := flips_e HFL.out
    by_cases hlt : k < N
    · have hk1 : (k < n) = True := eq_true (by omega)
      have hk2 : (k : Int) < n := by omega
      have hk3 : (k : Int) < 5 := by omega
      obtain ⟨y, hyd⟩ : ∃ y, y = l.getD k zeroSp := ⟨_, rfl⟩
      obtain ⟨b, o, rfl, c0, c1, c2, c3⟩ := HS.out wr HB.out k (by omega)
      rw [← hyd] at c0 c1 c2 c3
      have HK := hid hlt
      have HFE := hid hfe
      clear hyd hlt hfe
      go_wp2_with fail
      refine (to_any y.e y.r y.s y.t wr).mono ?_
      rintro x w4 ⟨rfl, hb4⟩
      have HB4 : Hid (Below w.heap.size w w4) := hid (HB.out.trans (hb4.mono HB.out.size))
      have HFP := hid (flip_dd (HD.out.below hb4) (by omega) (Nat.le_trans HBW.out hb4.size) y.e y.r y.s y.t)
      have HSB4 := hid (row_below HSB.out hb4)
      have HBW4 : Hid (wb.heap.size ≤ w4.heap.size) := hid (Nat.le_trans HBW.out hb4.size)
      have HHI := hid HD.out.hi
      clear c0 c1 c2 c3 hb4 HD HB HSB HBW
      go_wp2_with fail
      refine HFP.out.mono ?_
      clear HFP
      rintro x w5 ⟨hm5, C5, S5, hext5, hh⟩
      have HB5 : Hid (Below w.heap.size w w5) := hid (HB4.out.trans (hm5.below HB4.out.size (fun b h => Nat.le_trans (Nat.le_of_lt HLT.out) (HHI.out b h))))
      have HSB5 : Hid (w5.heap[w.heap.size]? = _) := hid (hm5.row HSB4.out (fun h => h (HNEW.out _ HLT.out)))
      have HBW5 : Hid (wb.heap.size ≤ w5.heap.size) := hid (Nat.le_trans HBW4.out hm5.size)
      clear hm5 hext5 HB4 HSB4 HBW4 HHI HNEW
      rcases hh with ⟨hok, rfl, hd5⟩ | ⟨hok, rfl, hd5⟩
      · have HD5 := hid hd5
        clear hok hd5
        go_wp2_with fail
        go_roundw
        case rel => exact ⟨k + 1, K, C5, S5, P, Q, by have := HK.out; omega, by go_num, by omega, HD5.out.up (by omega), HFL.out, HSB5.out, HB5.out, HBW5.out⟩
        case measure => have := HK.out; simp [intOf]; omega
      · have HD5 := hid hd5
        have HFL5 : Hid (Flips _ _ ((K + 1 : Nat) : Int)) := hid (by
          have h := HFL.out.next hok (by show (fiS P Q).e + 1 = (K : Int) + 1; rw [HFE.out])
          rw [show ((K + 1 : Nat) : Int) = (K : Int) + 1 from by omega]
          exact h)
        clear hok hd5
        go_wp2_with fail
        go_roundw
        case rel => exact ⟨k + 1, K + 1, C5, S5, _, _, by have := HK.out; omega, by go_num, by omega, HD5.out.up (by omega), HFL5.out, HSB5.out, HB5.out, HBW5.out⟩
        case measure => have := HK.out; simp [intOf]; omega
    · have htest : (k < n) = False ∨ ((k < n) = True ∧ (k : Int) < n ∧ (5 : Int) ≤ k) := by
        by_cases h : k < n
        · exact .inr ⟨eq_true h, by omega, by omega⟩
        · exact .inl (eq_false h)
      have HF := hid (find_dd HD.out (by omega))
      have hK5 : (K : Int) ≤ 5 := by omega
      have hk5 : (k : Int) ≤ 5 := by omega
      have HFE := hid hfe
      clear hN hk hN5 hNn hlt hfe HS
      obtain ⟨X, hX⟩ : ∃ X, X = fiS P Q := ⟨_, rfl⟩
      obtain ⟨q, hq⟩ : ∃ q, q = fiE P Q := ⟨_, rfl⟩
      have HX := hid hX
      have HQ := hid hq
      have hq05 := fiE_cases P Q
      rw [← hq] at hq05
      rw [← hX, ← hq] at HF
      have hXe : X.e = (K : Int) := by rw [hX]; exact HFE.out
      have hXe0 : 0 ≤ X.e := by omega
      have hXe1 : X.e ≤ 5 := by omega
      clear hX hq hXe
      rcases htest with h1 | ⟨h1, h2, h3⟩
      all_goals
        go_wp2_with fail
        refine HF.out.mono ?_
        clear HF
        rintro x w2 ⟨S2, rfl, hd2, hm2⟩
        have HB2 : Hid (Below w.heap.size w w2) := hid (HB.out.trans (hm2.below HB.out.size (fun b h => Nat.le_trans (Nat.le_of_lt HLT.out) (HD.out.hi b h))))
        have HSB2 : Hid (w2.heap[w.heap.size]? = _) := hid (hm2.row HSB.out (fun h => h (HNEW.out _ HLT.out)))
        obtain ⟨w3, hw3⟩ : ∃ u, u = w2.alloc (.cells #[.int .i64 (X).e, .int .i64 (X).r, .int .i64 (X).s, .int .i64 (X).t] 24) := ⟨_, rfl⟩
        have hb3 : Below w2.heap.size w2 w3 := by rw [hw3]; exact (Below.refl _ _).alloc (Nat.le_refl _) _
        have HX3 : Hid (w3.heap[w2.heap.size]? = some (.cells #[.int .i64 (X).e, .int .i64 (X).r, .int .i64 (X).s, .int .i64 (X).t] 24 (0, 0))) := hid (by rw [hw3]; exact heap_alloc_new w2 _)
        have HC2 : Hid (C w2.heap.size = 0) := hid (hd2.dv.new (Nat.le_refl _))
        have HD3 := hid (hd2.below hb3)
        have HB3 : Hid (Below w.heap.size w w3) := hid (HB2.out.trans (hb3.mono HB2.out.size))
        have hs3 : w3.heap[w.heap.size]? = _ := row_below HSB2.out hb3
        have HSB3 := hid hs3
        have HW3 := hid hw3
        have c0 := cell_of_row w3 _ 0 _ _ _ hs3
        have c1 := cell_of_row w3 _ 1 _ _ _ hs3
        have c2 := cell_of_row w3 _ 2 _ _ _ hs3
        have c3 := cell_of_row w3 _ 3 _ _ _ hs3
        clear hd2 hm2 hb3 hs3 hw3 HB2 HSB2 HB HD HSB HBW
        go_upto_region 9 with fail
        rw [← HW3.out]
        clear HW3
        go_wp2_with fail
        refine (to_any s.e s.r s.s s.t w3).mono ?_
        rintro x w4 ⟨rfl, hb4⟩
        have HB4 : Hid (Below w.heap.size w w4) := hid (HB3.out.trans (hb4.mono HB3.out.size))
        have HD4 := hid (HD3.out.below hb4)
        have HX4 := hid (row_below HX3.out hb4)
        have HSB4 := hid (row_below HSB3.out hb4)
        obtain ⟨w5, hw5⟩ : ∃ u, u = w4.alloc (.cells #[.int .i64 (s).e, .int .i64 (s).r, .int .i64 (s).s, .int .i64 (s).t] 24) := ⟨_, rfl⟩
        have hb5 : Below w4.heap.size w4 w5 := by rw [hw5]; exact (Below.refl _ _).alloc (Nat.le_refl _) _
        have hn5 : w5.heap[w4.heap.size]? = some (.cells #[.int .i64 (s).e, .int .i64 (s).r, .int .i64 (s).s, .int .i64 (s).t] 24 (0, 0)) := by rw [hw5]; exact heap_alloc_new w4 _
        have HC4 : Hid (C w4.heap.size = 0) := hid (HD4.out.dv.new (Nat.le_refl _))
        have HD5 := hid (HD4.out.below hb5)
        have HB5 : Hid (Below w.heap.size w w5) := hid (HB4.out.trans (hb5.mono HB4.out.size))
        have hx5 : w5.heap[w2.heap.size]? = _ := row_below HX4.out hb5
        have HSB5 := hid (row_below HSB4.out hb5)
        have HNE : Hid (w2.heap.size < w4.heap.size ∧ w.heap.size < w4.heap.size) := hid ⟨row_lt HX4.out, row_lt HSB4.out⟩
        have HX5 := hid hx5
        have HW5 := hid hw5
        have x0 := cell_of_row w5 _ 0 _ _ _ hx5
        have q0 := cell_of_row w5 _ 0 _ _ _ hn5
        have qf := frozen_of_row w5 w4.heap.size 0 _ _ hn5
        obtain ⟨w6, hw6⟩ : ∃ u, u = w5.setCell ⟨w4.heap.size, 0, none⟩ (.int .i64 (X.e + 1)) := ⟨_, rfl⟩
        have hg6 : w5.grownBy w6 (some w4.heap.size) := by rw [hw6]; exact grown_setCell (grown_refl _ _) (.inl rfl) _
        have hm6 : Mv (fun b => b = w4.heap.size) w5 w6 := Mv.of_grown hg6 fun g h _ => by cases h; rfl
        have HN6 : Hid (w6.heap[w4.heap.size]? = some (.cells #[.int .i64 (X.e + 1), .int .i64 s.r, .int .i64 s.s, .int .i64 s.t] 24 (0, 0))) := hid (by rw [hw6]; exact row_set hn5 0 _ (by simp))
        have HB6 : Hid (Below w.heap.size w w6) := hid (below_grown HB5.out hg6 HB4.out.size HB5.out.size)
        have HD6 := hid (HD5.out.keep hm6 fun b hb => by subst hb; exact HC4.out)
        have HX6 := hid (hm6.row HX5.out (by have := HNE.out; omega))
        have HSB6 := hid (hm6.row HSB5.out (by have := HNE.out; omega))
        have HW6 := hid hw6
        clear c0 c1 c2 c3 hb4 hb5 hn5 hx5 hw5 hg6 hm6 hw6 HB3 HD3 HX3 HSB3 HB4 HD4 HX4 HSB4 HB5 HD5 HX5 HSB5
        go_upto_region 10 with fail
        rw [← HW5.out]
        clear HW5
        go_upto_region 11 with fail
        rw [← HW6.out]
        clear HW6 x0 q0 qf
        have HARM := hid (dv_arm HD6.out.dv L (by omega))
        have hrem : (IntKind.u64.wrap left).tmod 3 = L := HL.out.symm
        go_wp2_with fail
        refine HARM.out.mono ?_
        clear HARM
        rintro x w7 ⟨rfl, hd7, hm7⟩
        obtain ⟨S3, hS3⟩ : ∃ S3 : St, S3 = { S2 with armed := decide (0 ≤ L), left := L } := ⟨_, rfl⟩
        rw [← hS3] at hd7
        have HI3 : Hid (S3.on = true ∧ (∀ y, S3.W y = []) ∧ pg S3.B 0 = P ∧ pg S3.B 1 = Q ∧ S3.r ≤ 100 ∧ S3.s ≤ 100 ∧ S3.t ≤ 100) := hid (by
          have hi := HD6.out.idle
          rw [hS3]
          exact ⟨hi.on, hi.W, hi.pa, hi.pb, by have := hi.r; show S2.r ≤ 100; omega, by have := hi.s; show S2.s ≤ 100; omega, by have := hi.t; show S2.t ≤ 100; omega⟩)
        have HPQ : Hid (Bytes P ∧ Bytes Q) := hid ⟨HD6.out.pb, HD6.out.qb⟩
        have HHI6 := hid HD6.out.hi
        have HD7 := hid hd7
        have HB7 : Hid (Below w.heap.size w w7) := hid (HB6.out.trans (hm7.below HB6.out.size (fun b h => Nat.le_trans (Nat.le_of_lt HLT.out) (HD6.out.hi b h))))
        have HX7 := hid (hm7.row HX6.out (fun h => h HC2.out))
        have HN7 := hid (hm7.row HN6.out (fun h => h HC4.out))
        have hs7 : w7.heap[w.heap.size]? = _ := hm7.row HSB6.out (fun h => h (HNEW.out _ HLT.out))
        have c0 := cell_of_row w7 _ 0 _ _ _ hs7
        have c1 := cell_of_row w7 _ 1 _ _ _ hs7
        have c2 := cell_of_row w7 _ 2 _ _ _ hs7
        have c3 := cell_of_row w7 _ 3 _ _ _ hs7
        clear hd7 hm7 hs7 hS3 HD6 HB6 HX6 HN6 HSB6 hrem
        go_wp2_with fail
        refine (to_any s.e s.r s.s s.t w7).mono ?_
        rintro x w8 ⟨rfl, hb8⟩
        have HB8 : Hid (Below w.heap.size w w8) := hid (HB7.out.trans (hb8.mono HB7.out.size))
        have HX8 := hid (row_below HX7.out hb8)
        have HN8 := hid (row_below HN7.out hb8)
        have HFP := hid (flip_any (HD7.out.below hb8) P Q s.e s.r s.s s.t (by rw [rd_dry (HI3.out.2.1 _), HI3.out.2.2.1]) (by rw [rd_dry (HI3.out.2.1 _), HI3.out.2.2.2.1]) HPQ.out.1 HPQ.out.2 HI3.out.1 (by have := HI3.out.2.2.2.2.1; omega) (by have := HI3.out.2.2.2.2.2.1; omega) (by have := HI3.out.2.2.2.2.2.2; omega))
        clear c0 c1 c2 c3 hb8 HD7 HB7 HX7 HN7
        go_wp2_with fail
        refine HFP.out.mono ?_
        clear HFP
        rintro x w9 ⟨hm9, C9, n9, S9, hd9, hext9, hend⟩
        obtain ⟨hn9, hr9, z, err, rfl, hout⟩ := crash_out (S2 := { S3 with r := S3.r + 2 }) (P := P) (Q := Q) (K := (K : Int)) HI3.out.2.1 HI3.out.2.2.1 HI3.out.2.2.2.1 HFL.out (by show (fiS P Q).e + 1 = (K : Int) + 1; rw [HFE.out]) hend hd9
        rw [← HX.out] at hout
        have HOUT := hid hout
        have HN9 : Hid (n9 ≤ 1) := hid hn9
        have HR9 : Hid (S9.r ≤ 200) := hid (by rw [hr9]; have := HI3.out.2.2.2.2.1; show S3.r + 2 ≤ 200; omega)
        have HB9 : Hid (Below w.heap.size w w9) := hid (HB8.out.trans (hm9.below HB8.out.size (fun b h => Nat.le_trans (Nat.le_of_lt HLT.out) (HHI6.out b h))))
        have HX9 := hid (hm9.row HX8.out (fun h => h HC2.out))
        have HM9 := hid (hm9.row HN8.out (fun h => h HC4.out))
        have HC92 : Hid (C9 w2.heap.size = 0) := hid (by rw [hext9 _ (row_lt HX8.out)]; exact HC2.out)
        have HC94 : Hid (C9 w4.heap.size = 0) := hid (by rw [hext9 _ (row_lt HN8.out)]; exact HC4.out)
        have HHI9 : Hid (∀ b, C9 b ≠ 0 → w.heap.size ≤ b) := hid fun b hb => by
          by_cases hlt : b < w8.heap.size
          · rw [hext9 b hlt] at hb
            exact Nat.le_trans (Nat.le_of_lt HLT.out) (HHI6.out b hb)
          · have := HB8.out.size; omega
        have HD9 := hid hd9
        clear hm9 hd9 hext9 hend hn9 hr9 hout HB8 HX8 HN8 HHI6 HC2 HC4 HNEW HI3 HPQ
        obtain ⟨w10, hw10⟩ : ∃ u, u = w9.alloc (.cells #[.int .i64 (z).e, .int .i64 (z).r, .int .i64 (z).s, .int .i64 (z).t] 24) := ⟨_, rfl⟩
        have hb10 : Below w9.heap.size w9 w10 := by rw [hw10]; exact (Below.refl _ _).alloc (Nat.le_refl _) _
        have HB10 : Hid (Below w.heap.size w w10) := hid (HB9.out.trans (hb10.mono HB9.out.size))
        have HD10 := hid (HD9.out.below hb10)
        have HX10 := hid (row_below HX9.out hb10)
        have HM10 := hid (row_below HM9.out hb10)
        have HW10 := hid hw10
        have HKE := hid (keeps_any _ ka kn kc kh w10 (HKP.out.mv (Mv.of_below (F := fun _ => False) HB10.out) (fun _ _ h => h)) HKMIN.out HKC.out.1 HKC.out.2)
        clear hb10 hw10 HB9 HD9 HX9 HM9
        go_upto_region 13 with fail
        rw [← HW10.out]
        clear HW10
        go_wp2_with fail
        refine HKE.out.mono ?_
        clear HKE
        rintro x w11 ⟨a', c', rfl, hk11, hb11⟩
        have HB11 : Hid (Below w.heap.size w w11) := hid (HB10.out.trans (hb11.mono HB10.out.size))
        have HX11 := hid (row_below HX10.out hb11)
        have HM11 := hid (row_below HM10.out hb11)
        have HCR := hid (dv_crash (HD10.out.below hb11) _ a' c' kh hk11 (fun b hb => HD10.out.new hb) (by have := HN9.out; omega) HKL.out)
        clear hk11 hb11 HB10 HD10 HX10 HM10
        generalize kh.length = kl at *
        go_wp2_with fail
        refine HCR.out.mono ?_
        clear HCR
        rintro x w12 ⟨rfl, hd12, hm12⟩
        have HB12 : Hid (Below w.heap.size w w12) := hid (HB11.out.trans (hm12.below HB11.out.size HHI9.out))
        have HX12 := hid (hm12.row HX11.out (fun h => h HC92.out))
        have HM12 := hid (hm12.row HM11.out (fun h => h HC94.out))
        have HPW := hid (dv_power hd12)
        clear hd12 hm12 HB11 HX11 HM11
        go_wp2_with fail
        refine HPW.out.mono ?_
        clear HPW
        rintro x w13 ⟨rfl, hd13, hm13⟩
        have HB13 : Hid (Below w.heap.size w w13) := hid (HB12.out.trans (hm13.below HB12.out.size HHI9.out))
        have HX13 := hid (hm13.row HX12.out (fun h => h HC92.out))
        have HM13 := hid (hm13.row HM12.out (fun h => h HC94.out))
        obtain ⟨A2, B2, e1, e2, hbA2, hbB2, hco⟩ := HOUT.out kh
        have HFD := hid (find_any hd13 A2 B2 (by rw [rd_dry rfl]; exact e1.symm) (by rw [rd_dry rfl]; exact e2.symm) hbA2 hbB2 rfl (by decide) (by have := HR9.out; show S9.r ≤ 999000; omega))
        generalize fiS A2 B2 = Y at *
        generalize fiE A2 B2 = q2 at *
        rw [← HQ.out, ← HX.out] at hco
        have HCO := hid hco
        clear hd13 hm13 e1 e2 hbA2 hbB2 hco HB12 HX12 HM12 HOUT HR9 HN9
        go_wp2_with fail
        refine HFD.out.mono ?_
        clear HFD
        rintro x w14 ⟨rfl, _, hm14⟩
        obtain ⟨w15, hw15⟩ : ∃ u, u = w14.alloc (.cells #[.int .i64 (Y).e, .int .i64 (Y).r, .int .i64 (Y).s, .int .i64 (Y).t] 24) := ⟨_, rfl⟩
        have hb15 : Below w14.heap.size w14 w15 := by rw [hw15]; exact (Below.refl _ _).alloc (Nat.le_refl _) _
        have HB14 : Hid (Below w.heap.size w w14) := hid (HB13.out.trans (hm14.below HB13.out.size HHI9.out))
        have HB15 : Hid (Below w.heap.size w w15) := hid (HB14.out.trans (hb15.mono HB14.out.size))
        have HX15 := hid (row_below (hm14.row HX13.out (fun h => h HC92.out)) hb15)
        have HM15 := hid (row_below (hm14.row HM13.out (fun h => h HC94.out)) hb15)
        have HY15 : Hid (w15.heap[w14.heap.size]? = some (.cells #[.int .i64 (Y).e, .int .i64 (Y).r, .int .i64 (Y).s, .int .i64 (Y).t] 24 (0, 0))) := hid (by rw [hw15]; exact heap_alloc_new w14 _)
        have HW15 := hid hw15
        clear hm14 hb15 hw15 HB13 HX13 HM13 HB14 HHI9 HC92 HC94
        go_upto_region 17 with fail
        rw [← HW15.out]
        clear HW15
        rcases HCO.out with ⟨h0, f1, f2⟩ | ⟨hne, hh⟩
        · subst h0 f1 f2
          clear HCO
          go_wp2_with fail
          refine (flKnown_any w15).mono ?_
          rintro x w16 ⟨rfl, hb16⟩
          have HB16 : Hid (Below w.heap.size w w16) := hid (HB15.out.trans (hb16.mono HB15.out.size))
          have hn16 : w16.heap[w4.heap.size]? = _ := row_below HM15.out hb16
          have hy16 : w16.heap[w14.heap.size]? = _ := row_below HY15.out hb16
          have n0 := cell_of_row w16 _ 0 _ _ _ hn16
          have n1 := cell_of_row w16 _ 1 _ _ _ hn16
          have n2 := cell_of_row w16 _ 2 _ _ _ hn16
          have n3 := cell_of_row w16 _ 3 _ _ _ hn16
          have y0 := cell_of_row w16 _ 0 _ _ _ hy16
          have y1 := cell_of_row w16 _ 1 _ _ _ hy16
          have y2 := cell_of_row w16 _ 2 _ _ _ hy16
          have y3 := cell_of_row w16 _ 3 _ _ _ hy16
          clear hb16 hn16 hy16 HB15 HX15 HM15 HY15
          go_wp2_with fail
          go_ret
          exact ⟨rfl, HB16.out⟩
        · have herr : ((err : Int) == 0) = false := by rw [beq_eq_false_iff_ne]; omega
          rcases hh with ⟨g1, g2⟩ | ⟨hok, f1, f2⟩
          · subst g1 g2
            clear HCO hne
            go_wp2_with fail
            refine (flKnown_any w15).mono ?_
            rintro x w16 ⟨rfl, hb16⟩
            have HB16 : Hid (Below w.heap.size w w16) := hid (HB15.out.trans (hb16.mono HB15.out.size))
            have hn16 : w16.heap[w2.heap.size]? = _ := row_below HX15.out hb16
            have hy16 : w16.heap[w14.heap.size]? = _ := row_below HY15.out hb16
            have n0 := cell_of_row w16 _ 0 _ _ _ hn16
            have n1 := cell_of_row w16 _ 1 _ _ _ hn16
            have n2 := cell_of_row w16 _ 2 _ _ _ hn16
            have n3 := cell_of_row w16 _ 3 _ _ _ hn16
            have y0 := cell_of_row w16 _ 0 _ _ _ hy16
            have y1 := cell_of_row w16 _ 1 _ _ _ hy16
            have y2 := cell_of_row w16 _ 2 _ _ _ hy16
            have y3 := cell_of_row w16 _ 3 _ _ _ hy16
            clear hb16 hn16 hy16 HB15 HX15 HM15 HY15
            go_wp2_with fail
            go_ret
            exact ⟨rfl, HB16.out⟩
          · subst f1 f2
            have HOK := hid hok
            clear HCO hne hok
            rcases hq05 with rfl | rfl
            all_goals
              go_wp2_with fail
              refine (flKnown_any w15).mono ?_
              rintro x w16 ⟨rfl, hb16⟩
              have HB16 : Hid (Below w.heap.size w w16) := hid (HB15.out.trans (hb16.mono HB15.out.size))
              have hx16 : w16.heap[w2.heap.size]? = _ := row_below HX15.out hb16
              have hn16 : w16.heap[w4.heap.size]? = _ := row_below HM15.out hb16
              have hy16 : w16.heap[w14.heap.size]? = _ := row_below HY15.out hb16
              have HN16 := hid hn16
              have HY16 := hid hy16
              have x0 := cell_of_row w16 _ 0 _ _ _ hx16
              have x1 := cell_of_row w16 _ 1 _ _ _ hx16
              have x2 := cell_of_row w16 _ 2 _ _ _ hx16
              have x3 := cell_of_row w16 _ 3 _ _ _ hx16
              have n0 := cell_of_row w16 _ 0 _ _ _ hn16
              have n1 := cell_of_row w16 _ 1 _ _ _ hn16
              have n2 := cell_of_row w16 _ 2 _ _ _ hn16
              have n3 := cell_of_row w16 _ 3 _ _ _ hn16
              have y0 := cell_of_row w16 _ 0 _ _ _ hy16
              have y1 := cell_of_row w16 _ 1 _ _ _ hy16
              have y2 := cell_of_row w16 _ 2 _ _ _ hy16
              have y3 := cell_of_row w16 _ 3 _ _ _ hy16
              have HCK := hid (fcheck_any (X.e + 1) s.r s.s s.t w16)
              rw [spChk_ok HOK.out] at HCK
              clear hb16 hx16 hn16 hy16 HB15 HX15 HM15 HY15
              go_wp2_with fail
              refine HCK.out.mono ?_
              clear HCK
              rintro x w17 ⟨rfl, hb17⟩
              have HB17 : Hid (Below w.heap.size w w17) := hid (HB16.out.trans (hb17.mono HB16.out.size))
              have hn17 : w17.heap[w4.heap.size]? = _ := row_below HN16.out hb17
              have hy17 : w17.heap[w14.heap.size]? = _ := row_below HY16.out hb17
              clear x0 x1 x2 x3 n0 n1 n2 n3 y0 y1 y2 y3
              have n0 := cell_of_row w17 _ 0 _ _ _ hn17
              have n1 := cell_of_row w17 _ 1 _ _ _ hn17
              have n2 := cell_of_row w17 _ 2 _ _ _ hn17
              have n3 := cell_of_row w17 _ 3 _ _ _ hn17
              have y0 := cell_of_row w17 _ 0 _ _ _ hy17
              have y1 := cell_of_row w17 _ 1 _ _ _ hy17
              have y2 := cell_of_row w17 _ 2 _ _ _ hy17
              have y3 := cell_of_row w17 _ 3 _ _ _ hy17
              clear hb17 hn17 hy17 HB16 HN16 HY16 HOK
              go_wp2_with fail
              go_ret
              exact ⟨rfl, HB17.out⟩
namespace flipCrashes
open Go.ChangeShapes Go.WideShapes Go.ChangeAt

theorem own : ownKnob Try.prog.godebug = none := by kernel_rfl
theorem laidOut : laidOutB Try.prog = true := by kernel_rfl

set_option maxRecDepth 100000 in
theorem lifted (os : Os) (started : os.Started) (H : Type) (enc : TypeId × Value → H) :
    ReturnsInHanded {} Try.checked os 7 .any (Rows.flipCrashesSpec.pre6 enc Try.prog Try.f7 Rows.flipCrashesRow.domain false) (Rows.flipCrashesSpec.post enc Try.prog Try.f7 false true false false) := by
  refine returnsInHanded_of_change (C := Try.checked) own started (by kernel_rfl) Try.func7
    (ChangeSpec.witness6 (enc := enc) (C := Try.checked) false ⟨#[], #[.slice none 0 0, .agg #[.int .i64 0, .int .i64 0, .int .i64 0, .int .i64 0], .int .i64 0, .slice none 0 0], []⟩ 8 (by kernel_rfl) (by kernel_rfl) (by kernel_rfl) (by kernel_rfl)) ?_
  intro W base args ds gs before hval0 hW hcnd _
  have hval : ∀ (j : Nat) t v, Try.f7.params[j]? = some t → args[j]? = some v → Value.okWide Try.prog W .any base t v := hval0
  have hW' := hW
  obtain ⟨p, q, hA0, hV, rfl, hfz, hnd⟩ := hW
  have hA : DataW.TrodAll enc Try.prog W 0 (fun _ => true) true Try.f7.params.toList args.toList ds p := hA0
  rw [Try.params7] at hA hval
  obtain ⟨v0, vs0, d0, ds0, p0, q0, hargs, rfl, rfl, h0, r0⟩ := trodAll_cons hA
  obtain ⟨v1, vs1, d1, ds1, p1, q1, rfl, rfl, rfl, h1, r1⟩ := trodAll_cons r0
  obtain ⟨v2, vs2, d2, ds2, p2, q2, rfl, rfl, rfl, h2, r2⟩ := trodAll_cons r1
  obtain ⟨v3, vs3, d3, ds3, p3, q3, rfl, rfl, rfl, h3, r3⟩ := trodAll_cons r2
  obtain ⟨rfl, rfl, rfl⟩ := trodAll_nil r3
  obtain rfl : args = #[v0, v1, v2, v3] := by cases args; simp_all
  obtain ⟨rfl, rfl⟩ := trodVars_none hV
  obtain ⟨a0, len0, cap0, rfl⟩ := okWide_slice Try.underlying44 (hval 0 44 v0 rfl rfl)
  have k0 := h0
  have lt0 : ∀ x ∈ p0, x.block < W.heap.size := by obtain ⟨m, hm⟩ := k0; exact DataW.trod_lt m _ _ _ hm
  obtain ⟨a, c, l0, hv, hls0, hlf0, hlc0, hcm0⟩ : ∃ a c l, Value.slice a0 len0 cap0 = .slice a (List.length l) c ∧ SpS (fun _ => True) W a l ∧ (∀ y ∈ l, y.fits) ∧ l.length ≤ c ∧ c ≤ maxLen := by
    obtain ⟨fuel, hf⟩ := h0
    exact open_sups Try.underlying44 hf
  simp only [Value.slice.injEq] at hv
  obtain ⟨rfl, rfl, rfl⟩ := hv
  have k1 := h1
  have lt1 : ∀ x ∈ p1, x.block < W.heap.size := by obtain ⟨m, hm⟩ := k1; exact DataW.trod_lt m _ _ _ hm
  obtain ⟨s1, rfl, hf1⟩ := open_sup (hval 1 23 v1 rfl rfl) h1
  obtain ⟨x2, rfl, rfl, rfl, wf2⟩ := open_int Try.underlying3 (hval 2 3 v2 rfl rfl) h2
  have hx2 := bounds_i64 wf2
  obtain ⟨a3, len3, cap3, rfl⟩ := okWide_slice Try.underlying56 (hval 3 56 v3 rfl rfl)
  have k3 := h3
  have lt3 : ∀ x ∈ p3, x.block < W.heap.size := by obtain ⟨m, hm⟩ := k3; exact DataW.trod_lt m _ _ _ hm
  obtain ⟨a, c, ks3, hv, hks3, hlc3, hcm3⟩ : ∃ a c ks, Value.slice a3 len3 cap3 = .slice a (List.length ks) c ∧ KpS (fun _ => True) W a ks ∧ ks.length ≤ c ∧ c ≤ maxLen := by
    obtain ⟨fuel, hf⟩ := h3
    exact open_keeps hf
  simp only [Value.slice.injEq] at hv
  obtain ⟨rfl, rfl, rfl⟩ := hv
  clear hA0 hval0
  refine (flipCrashes_walk _ _ a0 cap0 l0 s1 x2 a3 cap3 ks3 W hls0 ⟨hlc0, hcm0⟩ hks3 ⟨hlc3, hcm3⟩).mono fun e W' ⟨he, bel⟩ => ?_
  subst he
  exact ⟨_, rfl, _, _, _, [], _, [], hW', trodAll_mk1 (shut_bool Try.underlying4 _), (trodAll_cons_mk (Below.trod laidOut (by kernel_rfl) (of_decide_eq_true (by kernel_rfl)) k0 bel lt0) (trodAll_cons_mk (Below.trod laidOut (by kernel_rfl) (of_decide_eq_true (by kernel_rfl)) k1 bel lt1) (trodAll_cons_mk (shut_int Try.underlying3 wf2) (trodAll_cons_mk (Below.trod laidOut (by kernel_rfl) (of_decide_eq_true (by kernel_rfl)) k3 bel lt3) trodAll_mk0)))), rfl, bel.frame _, fun h => by cases h⟩

/-- THE STATEMENT. -/
theorem proved : Rows.FlipCrashesSaid :=
  OpenClaim.holds_of_wide 7 Try.f7 rfl rfl rfl rfl rfl rfl rfl ⟨rfl, rfl, rfl, rfl, rfl⟩ rfl rfl rfl rfl rfl (by kernel_rfl) Try.func7 (by kernel_rfl)
    (of_decide_eq_true (by kernel_rfl)) (by unfold Func.isWrapper; first | (rw [if_pos (by decide +kernel)]; kernel_rfl) | (rw [if_neg (by decide +kernel)]; exact ⟨rfl, rfl⟩))
    (fun os started H enc _ => lifted os started H enc)
end flipCrashes
end Go.Proofs.Ytebacgkeolofmaa
