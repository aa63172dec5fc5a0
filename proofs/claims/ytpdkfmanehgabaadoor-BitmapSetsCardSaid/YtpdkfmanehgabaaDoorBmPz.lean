/- THE LAW BitmapParses: the walk. -/
import Derived.Test.YtpdkfmanehgabaaDoorBmLaid
namespace Go.Proofs.YtpdkfmanehgabaaDoor
open Go.RowKit Go.Inc

/-- The first k numbers of what bytes tell. -/
def parseTo (S : Nat) (bs : List Nat) (k : Nat) : List Bool := (List.range S).map fun i => decide (i < k) && (bs.getD (i / 8) 0).testBit (i % 8)
theorem parseTo_len (S : Nat) (bs : List Nat) (k : Nat) : (parseTo S bs k).length = S := by simp [parseTo]
theorem parseTo_get {S : Nat} {bs : List Nat} {k i : Nat} (h : i < S) : (parseTo S bs k)[i]? = some (decide (i < k) && (bs.getD (i / 8) 0).testBit (i % 8)) := by
  unfold parseTo
  rw [List.getElem?_map, List.getElem?_range h]
  rfl
theorem parseTo_zero (S : Nat) (bs : List Nat) : parseTo S bs 0 = List.replicate S false := by
  apply List.ext_getElem?
  intro i
  by_cases h : i < S
  · rw [parseTo_get h, List.getElem?_replicate, if_pos h]; simp
  · rw [List.getElem?_eq_none (by rw [parseTo_len]; omega), List.getElem?_eq_none (by rw [List.length_replicate]; omega)]
theorem parseTo_succ {S : Nat} {bs : List Nat} {k : Nat} (h : k < S) : parseTo S bs (k + 1) = (parseTo S bs k).set k ((bs.getD (k / 8) 0).testBit (k % 8)) := by
  apply List.ext_getElem?
  intro i
  by_cases hi : i < S
  · rw [parseTo_get hi, List.getElem?_set]
    by_cases hk : k = i
    · subst hk; rw [if_pos rfl, if_pos (by rw [parseTo_len]; exact h)]; simp
    · rw [if_neg hk, parseTo_get hi]
      have : (i < k + 1) = (i < k) := propext (by omega)
      simp only [this]
  · rw [List.getElem?_eq_none (by rw [parseTo_len]; omega), List.getElem?_eq_none (by rw [List.length_set, parseTo_len]; omega)]
theorem parseTo_all {S : Nat} {bs : List Nat} {k : Nat} (h : S ≤ k ∨ bs.length ≤ k / 8) : parseTo S bs k = parseB S bs := by
  unfold parseTo parseB
  apply List.map_congr_left
  intro i hi
  rw [List.mem_range] at hi
  by_cases hk : i < k
  · simp [hk]
  · have : bs.getD (i / 8) 0 = 0 := by
      rw [List.getD_eq_getElem?_getD, List.getElem?_eq_none (by omega)]; rfl
    rw [this]; simp [hk]
theorem one_bit (x r : Nat) : (x >>> r) % 2 = (x.testBit r).toNat := by
  have h : (x >>> r).testBit 0 = x.testBit r := by rw [Nat.testBit_shiftRight, Nat.add_zero]
  rw [Nat.testBit_zero] at h
  rw [← h]
  by_cases h1 : x >>> r % 2 = 1
  · simp [h1]
  · have : x >>> r % 2 = 0 := by omega
    simp [this]
theorem u8_and_one (n : Nat) (h : n < 256) : bits .and .u8 (n : Int) 1 = ((n % 2 : Nat) : Int) := by
  have e : ∀ k : Nat, k < 256 → (BitVec.ofInt 8 (k : Int)).toNat = k := fun k hk => by
    rw [BitVec.ofInt_natCast, BitVec.toNat_ofNat]; exact Nat.mod_eq_of_lt (by omega)
  show IntKind.u8.wrap ((BitVec.ofInt 8 (n : Int) &&& BitVec.ofInt 8 ((1 : Nat) : Int)).toNat : Int) = _
  rw [BitVec.toNat_and, e n h, e 1 (by decide), Nat.and_two_pow_sub_one_eq_mod n 1, IntKind.wrap_u8]
  omega
set_option maxRecDepth 20000 in
set_option maxHeartbeats 4000000 in
theorem bitmapParses_walk (size : Int) (a : Option Addr) (c : Nat) (bs : List Nat) (W : World) (hs : Sl (fun _ => True) W a bs) (hby : Bytes bs) (hlc : bs.length ≤ c) (hcm : c ≤ maxLen) (hT : Tab W)
    (hz : -9223372036854775808 ≤ size ∧ size ≤ 9223372036854775807) :
    Calls Tryd.prog 4 #[.int .i64 size, .slice a bs.length c] W fun e w' => e = .returned (.bool true) ∧ Below W.heap.size W w' := by
  obtain ⟨bh, hbh⟩ : ∃ bh, bh = bs.take 40 := ⟨_, rfl⟩
  have hmin : min (bs.length : Int) 40 = (bh.length : Int) := by rw [hbh, List.length_take]; omega
  have HS : Hid (Sl (fun _ => True) W a bh) := hid (by rw [hbh]; exact hs.front 40)
  have HBY : Hid (Bytes bh) := hid (by rw [hbh]; exact hby.take 40)
  have hb40 : (bh.length : Int) ≤ 40 := by omega
  have hbc : (bh.length : Int) ≤ c := by omega
  have hcm2 : (c : Int) ≤ 9223372036854775807 := by unfold maxLen at hcm; omega
  have HT := hid hT
  clear hs hby hT hbh
  by_cases hbad : size < 1 ∨ 2048 < size
  · have HP := hid (fun v z => parse_bad v size z hbad)
    rcases hbad with hb | hb
    · go_enter Tryd.func4, Tryd.ntmps4
      go_wp2_with fail
      refine (HP.out _ _).mono ?_
      rintro e w1 ⟨rfl, rfl⟩
      go_wp2_with fail
      refine (known_any _ HT.out).mono ?_
      rintro e w2 ⟨rfl, hb2⟩
      have HB2 := hid hb2
      clear hb2
      go_wp2_with fail
      go_ret
      exact ⟨rfl, HB2.out⟩
    · have hb1 : (size < 1) = False := eq_false (by omega)
      go_enter Tryd.func4, Tryd.ntmps4
      go_wp2_with fail
      refine (HP.out _ _).mono ?_
      rintro e w1 ⟨rfl, rfl⟩
      go_wp2_with fail
      refine (known_any _ HT.out).mono ?_
      rintro e w2 ⟨rfl, hb2⟩
      have HB2 := hid hb2
      clear hb2
      go_wp2_with fail
      go_ret
      exact ⟨rfl, HB2.out⟩
  · obtain ⟨S, rfl⟩ := Int.eq_ofNat_of_zero_le (show 0 ≤ size by omega)
    have h1 : (1 : Int) ≤ S := by omega
    have h2 : (S : Int) ≤ 2048 := by omega
    have hs1 : ((S : Int) < 1) = False := eq_false (by omega)
    have hs1b : (S < 1) = False := eq_false (by omega)
    have hs2 : (2048 < S) = False := eq_false (by omega)
    have HP := hid (parse_any (fun _ => True) S a c bh W HS.out HBY.out h1 h2 (by omega))
    obtain ⟨i0, hi, hz0, hz1, hz2⟩ := info_parts infoBool
    have HI := hid (And.intro hi (And.intro hz0 (And.intro hz1 hz2)))
    clear hbad hi hz0 hz1 hz2
    go_enter Tryd.func4, Tryd.ntmps4
    go_wp2_with fail
    refine HP.out.mono ?_
    clear HP
    rintro e w1 ⟨hp, hb1⟩
    have HP := hid hp
    have HB1 := hid hb1
    have HS1 := hid ((HS.out.mono fun _ _ h => h).below hb1)
    obtain ⟨v5, e6, rfl, HPA⟩ : ∃ v5 e6, e = .returned (.tuple #[v5, .int .i64 e6]) ∧ Hid ((bytesB (inB (parseB S bh)) S = bh ∧ e6 = 0 ∧ NewSet W.heap.size w1 v5 (parseB S bh)) ∨ (bytesB (inB (parseB S bh)) S ≠ bh ∧ e6 = 3 ∧ v5 = .pointer none)) := by
      rcases HP.out with ⟨h1, v, h2, h3⟩ | ⟨h1, h2⟩
      · exact ⟨v, 0, h2, hid (.inl ⟨h1, rfl, h3⟩)⟩
      · exact ⟨.pointer none, 3, h2, hid (.inr ⟨h1, rfl, rfl⟩)⟩
    clear hp hb1 HP
    go_wp2_with (refine wpList_make_full _ rfl _ _ 30 rfl w1.heap.size 4 i0 (.bool false) 1 Tryd.underlying30 HI.out.1 HI.out.2.1 HI.out.2.2.1 .i64 .i64 _ _ S rfl rfl rfl rfl (by rw [HI.out.2.2.2]; omega) (by unfold maxLen; omega) (Nat.le_refl _) ?_)
    intro w2 hown hg
    have HR : Hid (w2.ownsRow w1.heap.size 4 1 (.slice (some ⟨w1.heap.size, 0, none⟩) S S) S (bvals (parseTo S bh 0))) := hid (by rw [bvals_zeros S, ← parseTo_zero S bh] at hown; exact hown)
    have HB2 : Hid (Below w1.heap.size w1 w2) := hid ⟨hg.os, hg.tape, hg.output, hg.size, fun i hi => hg.block i hi (by simp)⟩
    obtain ⟨G, hG⟩ : ∃ G, G = w1.heap.size := ⟨_, rfl⟩
    have HG := hid hG
    rw [← hG] at HR HB2 ⊢
    clear hown hg HI hG
    obtain ⟨n, hn⟩ : ∃ n, n = bh.length := ⟨_, rfl⟩
    have HN := hid hn
    rw [← hn] at hmin hb40 hbc ⊢
    clear hn
    go_wp2_with fail
    go_loopw [8] (fun i wr => ∃ k : Nat, k ≤ S ∧ k ≤ 8 * n ∧ i = .int .i64 (k : Int) ∧ wr.ownsRow G 4 1 (.slice (some ⟨G, 0, none⟩) S S) S (bvals (parseTo S bh k)) ∧ Below G w1 wr) (fun i _ => S - (intOf i).toNat)
    case atStart => exact ⟨0, Nat.zero_le _, Nat.zero_le _, rfl, HR.out, HB2.out⟩
    case round =>
      obtain ⟨k, hk, hk8, rfl, hr, hb⟩ := hrel
      have HRW := hid hr
      have HB := hid hb
      have HB' : Hid (Below w1.heap.size w1 wr) := hid (by rw [← HG.out]; exact hb)
      clear hr hb HR HB2
      obtain ⟨q, hq⟩ : ∃ q, q = k / 8 := ⟨_, rfl⟩
      obtain ⟨r, hr⟩ : ∃ r, r = k % 8 := ⟨_, rfl⟩
      have hki : (k : Int) / 8 = (q : Int) := by omega
      have hkr : (k : Int) % 8 = (r : Int) := by omega
      have hr8 : (r : Int) < 8 := by omega
      have hq32 : (q : Int) < 300 := by omega
      by_cases hlt : (k : Int) < S
      · have hks : (k < S) = True := eq_true (by omega)
        by_cases hqn : (q : Int) < n
        · obtain ⟨b0, o0, rfl, hc⟩ : ∃ b0 o0, a = some ⟨b0, o0, none⟩ ∧ wr.cell? ⟨b0, o0 + q, none⟩ = some (.int .u8 ((bh.getD q 0 : Nat) : Int)) := by
            rcases HS1.out.below HB'.out with h | ⟨b0, o0, h, _, hc⟩
            · have := HN.out; rw [h] at this; simp at this; omega
            · exact ⟨b0, o0, h, hc q (by have := HN.out; omega)⟩
          obtain ⟨x, hx⟩ : ∃ x, x = bh.getD q 0 := ⟨_, rfl⟩
          have hx8 : x < 256 := by rw [hx]; exact HBY.out.getD q
          rw [← hx] at hc
          obtain ⟨y, hy⟩ : ∃ y, y = x >>> r := ⟨_, rfl⟩
          have hsh : (x : Int) / 2 ^ r = (y : Int) := by rw [hy, Nat.shiftRight_eq_div_pow]; simp
          have hy8 : y < 256 := by rw [hy, Nat.shiftRight_eq_div_pow]; exact Nat.lt_of_le_of_lt (Nat.div_le_self _ _) hx8
          obtain ⟨bt, hbt⟩ : ∃ bt, bt = x.testBit r := ⟨_, rfl⟩
          have hand : bits .and .u8 (y : Int) 1 = ((bt.toNat : Nat) : Int) := by rw [u8_and_one y hy8, hy, one_bit, hbt]
          have heq : (((bt.toNat : Nat) : Int) == 1) = bt := by cases bt <;> rfl
          have HT1 : Hid (parseTo S bh (k + 1) = (parseTo S bh k).set k bt) := hid (by rw [parseTo_succ (by omega), hbt, hx, hq, hr])
          have hcell := HRW.out.cells (g := G) rfl k (.bool (inB (parseTo S bh k) k)) (bvals_get (by rw [parseTo_len]; omega))
          rw [Addr.add_lit] at hcell
          simp only [Nat.zero_add] at hcell
          have hfz : wr.frozen? ⟨G, k, none⟩ = false := HRW.out.frozenAt k
          have hst := hid (HRW.out.stored k (.bool bt))
          have HB3 : Hid (Below G w1 (wr.setCell ⟨G, k, none⟩ (.bool bt))) := hid (HB.out.setCell (p := ⟨G, k, none⟩) (Nat.le_refl _) (.bool bt))
          generalize inB (parseTo S bh k) k = old at *
          have hkn : (q < n) = True := eq_true (by omega)
          have HK8 : Hid (k + 1 ≤ 8 * n) := hid (by omega)
          generalize bt.toNat = btn at *
          clear hx hy hbt hq hr hx8 hy8 HRW HB HB'
          go_wp2_with fail
          go_roundw
          case rel => exact ⟨k + 1, by omega, HK8.out, by go_num, by rw [HT1.out, ← bvals_set]; exact hst.out.1, HB3.out⟩
          case measure => simp [intOf]; omega
        · have HA : Hid (parseTo S bh k = parseB S bh) := hid (parseTo_all (.inr (by rw [← HN.out]; omega)))
          have hkn : (q < n) = False := eq_false (by omega)
          clear hq hr hqn
          have HROW : Hid (wr.ownsRow G 4 1 (.slice (some ⟨G, 0, none⟩) S S) S (bvals (parseB S bh))) := hid (by rw [← HA.out]; exact HRW.out)
          obtain ⟨aw, cw, hvw, -, -, -, -, hbl⟩ := Bl.owned HROW.out
          rw [parseB_len] at hvw
          obtain ⟨haw, -, hcw⟩ := Value.slice.inj hvw
          subst haw hcw
          have HBL := hid hbl
          have HW : Hid (Below W.heap.size W wr) := hid (HB1.out.trans (HB'.out.mono HB1.out.size))
          have HTR := hid (HT.out.below HW.out)
          have HBT : Hid (Calls Tryd.prog 17 #[.slice (some ⟨G, 0, none⟩) S S] wr fun e w' => (∃ x, e = .returned x ∧ Row 5 wr.heap.size w' x (bytesB (inB (parseB S bh)) S)) ∧ Below wr.heap.size wr w') := hid (by
            have h := refBytes_any _ _ S (parseB S bh) wr HBL.out (by rw [parseB_len]; exact h2)
            rw [parseB_len] at h
            exact h)
          have HSR := hid (HS1.out.below HB'.out)
          clear hbl HA HRW
          go_wp2_with fail
          refine HBT.out.mono ?_
          clear HBT
          rintro e w3 ⟨⟨x3, rfl, hx3⟩, hb3⟩
          have HB3 := hid hb3
          obtain ⟨a3, c3, rfl, -, -, -, hs3⟩ := hx3.sl
          have HSA : Hid (Calls Tryd.prog 16 #[.slice a3 (bytesB (inB (parseB S bh)) S).length c3, .slice a n c] w3 fun e w' => e = .returned (.bool (decide (bytesB (inB (parseB S bh)) S = bh))) ∧ Below w3.heap.size w3 w') := hid (by
            rw [HN.out]
            exact same_any _ _ a3 a c3 c _ bh w3 hs3 (HSR.out.below hb3) (by rw [bytesB_len]; omega))
          clear hx3 hb3 hs3
          generalize (bytesB (inB (parseB S bh)) S).length = bl at *
          rcases HPA.out with ⟨hyes, rfl, hnew⟩ | ⟨hno, rfl, rfl⟩
          · have HD : Hid (decide (bytesB (inB (parseB S bh)) S = bh) = true) := hid (decide_eq_true hyes)
            rw [HD.out] at HSA
            have HNEW := hid hnew
            clear HD hyes hnew HPA
            go_wp2_with fail
            refine HSA.out.mono ?_
            clear HSA
            rintro e w4 ⟨rfl, hb4⟩
            have HB4 : Hid (Below wr.heap.size wr w4) := hid (HB3.out.trans (hb4.mono HB3.out.size))
            have HW4 : Hid (Below W.heap.size W w4) := hid (HW.out.trans (HB4.out.mono HW.out.size))
            clear hb4 HB3
            go_wp2_with fail
            refine (known_any w4 (HT.out.below HW4.out)).mono ?_
            rintro e w5 ⟨rfl, hb5⟩
            have HB5 : Hid (Below wr.heap.size wr w5) := hid (HB4.out.trans (hb5.mono HB4.out.size))
            have HW5 : Hid (Below W.heap.size W w5) := hid (HW4.out.trans (hb5.mono HW4.out.size))
            have HTE : Hid (Calls Tryd.prog 13 #[v5, .slice (some ⟨G, 0, none⟩) S S, .int .i64 0] w5 fun e w' => e = .returned (.bool true) ∧ Below w5.heap.size w5 w') := hid (by
              have h := tells_any _ _ v5 (parseB S bh) (some ⟨G, 0, none⟩) S 0 w5 ((HNEW.out.below HB'.out).below HB5.out).bm (HBL.out.below HB5.out) (HT.out.below HW5.out) (by rw [parseB_len]; exact h1) (by decide) (by decide)
              rw [parseB_len] at h
              exact h)
            clear hb5 HB4 HW4
            go_wp2_with fail
            refine HTE.out.mono ?_
            clear HTE
            rintro e w6 ⟨rfl, hb6⟩
            have HW6 : Hid (Below W.heap.size W w6) := hid (HW5.out.trans (hb6.mono HW5.out.size))
            clear hb6
            go_wp2_with fail
            go_ret
            exact ⟨rfl, HW6.out⟩
          · have HD : Hid (decide (bytesB (inB (parseB S bh)) S = bh) = false) := hid (decide_eq_false hno)
            rw [HD.out] at HSA
            clear HD hno HPA
            go_wp2_with fail
            refine HSA.out.mono ?_
            clear HSA
            rintro e w4 ⟨rfl, hb4⟩
            have HB4 : Hid (Below wr.heap.size wr w4) := hid (HB3.out.trans (hb4.mono HB3.out.size))
            have HW4 : Hid (Below W.heap.size W w4) := hid (HW.out.trans (HB4.out.mono HW.out.size))
            clear hb4 HB3
            go_wp2_with fail
            refine (known_any w4 (HT.out.below HW4.out)).mono ?_
            rintro e w5 ⟨rfl, hb5⟩
            have HW5 : Hid (Below W.heap.size W w5) := hid (HW4.out.trans (hb5.mono HW4.out.size))
            clear hb5 HB4 HW4
            go_wp2_with fail
            go_ret
            exact ⟨rfl, HW5.out⟩
      · have HA : Hid (parseTo S bh k = parseB S bh) := hid (parseTo_all (.inl (by omega)))
        have hks : (k < S) = False := eq_false (by omega)
        clear hq hr hlt
        have HROW : Hid (wr.ownsRow G 4 1 (.slice (some ⟨G, 0, none⟩) S S) S (bvals (parseB S bh))) := hid (by rw [← HA.out]; exact HRW.out)
        obtain ⟨aw, cw, hvw, -, -, -, -, hbl⟩ := Bl.owned HROW.out
        rw [parseB_len] at hvw
        obtain ⟨haw, -, hcw⟩ := Value.slice.inj hvw
        subst haw hcw
        have HBL := hid hbl
        have HW : Hid (Below W.heap.size W wr) := hid (HB1.out.trans (HB'.out.mono HB1.out.size))
        have HTR := hid (HT.out.below HW.out)
        have HBT : Hid (Calls Tryd.prog 17 #[.slice (some ⟨G, 0, none⟩) S S] wr fun e w' => (∃ x, e = .returned x ∧ Row 5 wr.heap.size w' x (bytesB (inB (parseB S bh)) S)) ∧ Below wr.heap.size wr w') := hid (by
          have h := refBytes_any _ _ S (parseB S bh) wr HBL.out (by rw [parseB_len]; exact h2)
          rw [parseB_len] at h
          exact h)
        have HSR := hid (HS1.out.below HB'.out)
        clear hbl HA HRW
        go_wp2_with fail
        refine HBT.out.mono ?_
        clear HBT
        rintro e w3 ⟨⟨x3, rfl, hx3⟩, hb3⟩
        have HB3 := hid hb3
        obtain ⟨a3, c3, rfl, -, -, -, hs3⟩ := hx3.sl
        have HSA : Hid (Calls Tryd.prog 16 #[.slice a3 (bytesB (inB (parseB S bh)) S).length c3, .slice a n c] w3 fun e w' => e = .returned (.bool (decide (bytesB (inB (parseB S bh)) S = bh))) ∧ Below w3.heap.size w3 w') := hid (by
          rw [HN.out]
          exact same_any _ _ a3 a c3 c _ bh w3 hs3 (HSR.out.below hb3) (by rw [bytesB_len]; omega))
        clear hx3 hb3 hs3
        generalize (bytesB (inB (parseB S bh)) S).length = bl at *
        rcases HPA.out with ⟨hyes, rfl, hnew⟩ | ⟨hno, rfl, rfl⟩
        · have HD : Hid (decide (bytesB (inB (parseB S bh)) S = bh) = true) := hid (decide_eq_true hyes)
          rw [HD.out] at HSA
          have HNEW := hid hnew
          clear HD hyes hnew HPA
          go_wp2_with fail
          refine HSA.out.mono ?_
          clear HSA
          rintro e w4 ⟨rfl, hb4⟩
          have HB4 : Hid (Below wr.heap.size wr w4) := hid (HB3.out.trans (hb4.mono HB3.out.size))
          have HW4 : Hid (Below W.heap.size W w4) := hid (HW.out.trans (HB4.out.mono HW.out.size))
          clear hb4 HB3
          go_wp2_with fail
          refine (known_any w4 (HT.out.below HW4.out)).mono ?_
          rintro e w5 ⟨rfl, hb5⟩
          have HB5 : Hid (Below wr.heap.size wr w5) := hid (HB4.out.trans (hb5.mono HB4.out.size))
          have HW5 : Hid (Below W.heap.size W w5) := hid (HW4.out.trans (hb5.mono HW4.out.size))
          have HTE : Hid (Calls Tryd.prog 13 #[v5, .slice (some ⟨G, 0, none⟩) S S, .int .i64 0] w5 fun e w' => e = .returned (.bool true) ∧ Below w5.heap.size w5 w') := hid (by
            have h := tells_any _ _ v5 (parseB S bh) (some ⟨G, 0, none⟩) S 0 w5 ((HNEW.out.below HB'.out).below HB5.out).bm (HBL.out.below HB5.out) (HT.out.below HW5.out) (by rw [parseB_len]; exact h1) (by decide) (by decide)
            rw [parseB_len] at h
            exact h)
          clear hb5 HB4 HW4
          go_wp2_with fail
          refine HTE.out.mono ?_
          clear HTE
          rintro e w6 ⟨rfl, hb6⟩
          have HW6 : Hid (Below W.heap.size W w6) := hid (HW5.out.trans (hb6.mono HW5.out.size))
          clear hb6
          go_wp2_with fail
          go_ret
          exact ⟨rfl, HW6.out⟩
        · have HD : Hid (decide (bytesB (inB (parseB S bh)) S = bh) = false) := hid (decide_eq_false hno)
          rw [HD.out] at HSA
          clear HD hno HPA
          go_wp2_with fail
          refine HSA.out.mono ?_
          clear HSA
          rintro e w4 ⟨rfl, hb4⟩
          have HB4 : Hid (Below wr.heap.size wr w4) := hid (HB3.out.trans (hb4.mono HB3.out.size))
          have HW4 : Hid (Below W.heap.size W w4) := hid (HW.out.trans (HB4.out.mono HW.out.size))
          clear hb4 HB3
          go_wp2_with fail
          refine (known_any w4 (HT.out.below HW4.out)).mono ?_
          rintro e w5 ⟨rfl, hb5⟩
          have HW5 : Hid (Below W.heap.size W w5) := hid (HW4.out.trans (hb5.mono HW4.out.size))
          clear hb5 HB4 HW4
          go_wp2_with fail
          go_ret
          exact ⟨rfl, HW5.out⟩
end Go.Proofs.YtpdkfmanehgabaaDoor
