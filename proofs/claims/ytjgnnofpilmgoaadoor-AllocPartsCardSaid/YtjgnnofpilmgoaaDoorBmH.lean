/- CONTRACTS: the lowest number from one on (seek, Lowest, Free). -/
import Derived.Test.YtjgnnofpilmgoaaDoorBmT
namespace Go.Proofs.YtjgnnofpilmgoaaDoor
open Go.RowKit Go.Inc

def NoneTo (m : List Bool) (no : Int) (b : Bool) (k : Nat) : Prop := ∀ i : Nat, i < k → ¬ (no ≤ i ∧ inB m i = b)
theorem NoneTo.none {m : List Bool} {no : Int} {b : Bool} {k : Nat} (h : NoneTo m no b k) (hk : m.length ≤ k) : lowB (inB m) no b m.length = -1 := lowB_none fun i hi => h i (by omega)
theorem NoneTo.first {m : List Bool} {no : Int} {b : Bool} {k : Nat} (h : NoneTo m no b k) (hk : k < m.length) (h1 : no ≤ k) (h2 : inB m k = b) : lowB (inB m) no b m.length = k := lowB_first ⟨h1, h2⟩ h hk
theorem NoneTo.more {m : List Bool} {no : Int} {b : Bool} {k n : Nat} (h : NoneTo m no b k) (hn : ∀ j, j < n → inB m (k + j) = !b) : NoneTo m no b (k + n) := fun i hi hh => by
  by_cases hik : i < k
  · exact h i hik hh
  · have e := hn (i - k) (by omega)
    rw [show k + (i - k) = i from by omega, hh.2] at e
    cases b <;> cases e
theorem turned_bit {m : List Bool} {W : List Nat} {T k j : Nat} {tb : Bool} (hb : ∀ i, wbit W i = inB m i) (hT : ∀ j, j < 64 → T.testBit j = tb) (hj : k % 64 + j < 64) :
    ((W.getD (k / 64) 0 ^^^ T) >>> (k % 64)).testBit j = (inB m (k + j) ^^ tb) := by
  rw [Nat.testBit_shiftRight, Nat.testBit_xor, hT _ hj, ← hb (k + j)]
  unfold wbit
  rw [show (k + j) / 64 = k / 64 from by omega, show (k + j) % 64 = k % 64 + j from by omega]
theorem bx1 {p tb : Bool} (h : false = (p ^^ tb)) : p = !(!tb) := by cases p <;> cases tb <;> simp_all
theorem bx2 {p tb : Bool} (h : true = (p ^^ tb)) : p = !tb := by cases p <;> cases tb <;> simp_all
/-- Nothing in the rest of the word. -/
theorem seek_miss {m : List Bool} {W : List Nat} {T k : Nat} {tb : Bool} (hb : ∀ i, wbit W i = inB m i) (hT : ∀ j, j < 64 → T.testBit j = tb) (h0 : (W.getD (k / 64) 0 ^^^ T) >>> (k % 64) = 0) :
    ∀ j, j < 64 - k % 64 → inB m (k + j) = !(!tb) := fun j hj => by
  have e := turned_bit (k := k) (j := j) hb hT (by omega)
  rw [h0, Nat.zero_testBit] at e
  exact bx1 e
/-- The first of the word's rest. -/
theorem seek_hit {m : List Bool} {W : List Nat} {T k x : Nat} {tb : Bool} (hb : ∀ i, wbit W i = inB m i) (hT : ∀ j, j < 64 → T.testBit j = tb) (hW : W.getD (k / 64) 0 < 18446744073709551616) (hT2 : T < 18446744073709551616) (hx : x = (W.getD (k / 64) 0 ^^^ T) >>> (k % 64)) (h0 : x ≠ 0) :
    x < 18446744073709551616 ∧ k % 64 + Lib.ctz 64 x < 64 ∧ inB m (k + Lib.ctz 64 x) = (!tb) ∧ ∀ j, j < Lib.ctz 64 x → inB m (k + j) = !(!tb) := by
  have hy : W.getD (k / 64) 0 ^^^ T < 18446744073709551616 := xor_lt64 hW hT2
  have hxl : x < 18446744073709551616 := by
    rw [hx, Nat.shiftRight_eq_div_pow]
    exact Nat.lt_of_le_of_lt (Nat.div_le_self _ _) hy
  obtain ⟨hb1, hb2, hb3⟩ := ctz_bit h0 hxl
  generalize Lib.ctz 64 x = z at *
  have hz : k % 64 + z < 64 := by
    have h := hb1
    rw [hx, Nat.testBit_shiftRight] at h
    exact lt_bit hy h
  refine ⟨hxl, hz, ?_, fun j hj => ?_⟩
  · have e := turned_bit (k := k) (j := z) hb hT hz
    rw [← hx, hb1] at e
    exact bx2 e
  · have e := turned_bit (k := k) (j := j) hb hT (by omega)
    rw [← hx, hb3 j hj] at e
    exact bx1 e

/-- An answer: a number, or ErrNone. -/
def seekV (L : Int) : Value := if 0 ≤ L then .tuple #[.int .i64 L, .int .i64 0] else .tuple #[.int .i64 0, .int .i64 7]
theorem seekV_none {L : Int} (h : L = -1) : seekV L = .tuple #[.int .i64 0, .int .i64 7] := by subst h; rfl
theorem seekV_at {L : Int} {k : Nat} (h : L = k) : seekV L = .tuple #[.int .i64 (k : Int), .int .i64 0] := by subst h; unfold seekV; rw [if_pos (by omega)]
set_option maxRecDepth 20000 in
set_option maxHeartbeats 1000000 in
theorem seek_any (ok : Nat → Prop) (v : Value) (m : List Bool) (no : Int) (tb : Bool) (T : Nat) (w : World) (h : Bm ok w v m) (ht : Tab w) (hT : T < 18446744073709551616) (hTb : ∀ j, j < 64 → T.testBit j = tb)
    (h1 : -9223372036854775808 ≤ no) (h2 : no ≤ 9223372036854775807) :
    Calls Tryd.prog 57 #[v, .int .i64 no, .int .u64 (T : Int)] w fun e w' => e = .returned (seekV (lowB (inB m) no (!tb) m.length)) ∧ w = w' := by
  have HB0 := hid h
  have HTB := hid hTb
  obtain ⟨S, hS⟩ : ∃ S, S = m.length := ⟨_, rfl⟩
  have HS := hid hS
  have hs2 : (S : Int) ≤ 2048 := by have := h.len; omega
  obtain ⟨n0, hn0⟩ : ∃ n0, n0 = (max no 0).toNat := ⟨_, rfl⟩
  have hmax : max no 0 = (n0 : Int) := by omega
  have hn1 : (n0 : Int) ≤ 9223372036854775807 := by omega
  have HNO : Hid (no ≤ n0) := hid (by omega)
  have HN0 : Hid (NoneTo m no (!tb) n0) := hid fun i hi hh => by omega
  have HSZ : Hid (Calls Tryd.prog 44 #[v] w fun e w' => e = .returned (.int .i64 (S : Int)) ∧ w = w') := hid (by rw [HS.out]; exact size_any ok v m w h)
  have HTZ : Hid (∀ x : Nat, x < 18446744073709551616 → x ≠ 0 → Calls Tryd.prog 61 #[.int .u64 (x : Int)] w fun e w' => e = .returned (.int .i64 (Lib.ctz 64 x)) ∧ w = w') := hid fun x hx h0 => tz_any x w hx h0 ht
  clear h ht hTb hS hn0
  go_enter Tryd.func57, Tryd.ntmps57
  go_wp2_with fail
  go_loop [8] (fun i => ∃ k : Nat, (k : Int) ≤ 9223372036854775807 ∧ no ≤ k ∧ i = .int .i64 (k : Int) ∧ NoneTo m no (!tb) k) (fun i => S - (intOf i).toNat)
  case atStart => exact ⟨n0, hn1, HNO.out, rfl, HN0.out⟩
  case round =>
    obtain ⟨k, hk, hnk, rfl, hno⟩ := hrel
    have HK := hid hno
    clear hno HN0 hmax
    by_cases hlt : (k : Int) < S
    · rcases HB0.out with ⟨_, hm⟩ | ⟨b, g, c, W, rfl, hob, hog, hat, hbits⟩
      · have := HS.out; rw [hm] at this; simp at this; omega
      have hlen := hat.len
      obtain ⟨q, hq⟩ : ∃ q, q = k / 64 := ⟨_, rfl⟩
      have hqn : q < W.length := by rw [hq, hlen, ← HS.out]; omega
      have hc1 := hat.hw
      have hc2 := hat.cell hqn
      have hW := wget_lt hat.fits q
      have HBT := hid hbits
      obtain ⟨u, hu⟩ : ∃ u, u = W.getD q 0 := ⟨_, rfl⟩
      obtain ⟨r, hr⟩ : ∃ r, r = k % 64 := ⟨_, rfl⟩
      obtain ⟨y, hy⟩ : ∃ y, y = u ^^^ T := ⟨_, rfl⟩
      obtain ⟨x, hx⟩ : ∃ x, x = y >>> r := ⟨_, rfl⟩
      rw [← hu] at hc2 hW
      have hxor : bits .xor .u64 (u : Int) (T : Int) = (y : Int) := by rw [hy]; exact u64_xor_nat u T hW hT
      have hsh : (y : Int) / 2 ^ r = (x : Int) := by rw [hx, Nat.shiftRight_eq_div_pow]; simp
      have HX : Hid (x = (W.getD (k / 64) 0 ^^^ T) >>> (k % 64)) := hid (by rw [hx, hy, hu, hq, hr])
      have hki : (k : Int) / 64 = (q : Int) := by omega
      have hkr : (k : Int) % 64 = (r : Int) := by omega
      have hr64 : (r : Int) < 64 := by omega
      obtain ⟨n, hn⟩ : ∃ n, n = W.length := ⟨_, rfl⟩
      rw [← hn] at hc1 hqn
      have hqn' : (q : Int) < (n : Int) := by omega
      have hq32 : (q : Int) < 32 := by omega
      have HQ := hid (And.intro hq hr)
      have HW : Hid (W.getD (k / 64) 0 < 18446744073709551616) := hid (by rw [← hq, ← hu]; exact hW)
      have hks : (k < S) = True := eq_true (by omega)
      clear hq hr hu hy hx hn hat hbits hlen hob hog HB0 hW
      by_cases hx0 : x = 0
      · have HNX : Hid (NoneTo m no (!tb) (k + (64 - k % 64))) := hid (HK.out.more (seek_miss HBT.out HTB.out (by rw [← HX.out]; exact hx0)))
        subst hx0
        have hr0 : (0 : Int) ≤ r := by omega
        go_wp2_with fail
        refine HSZ.out.mono ?_
        rintro e w1 ⟨rfl, rfl⟩
        go_wp2_with fail
        go_round
        case rel => exact ⟨k + (64 - k % 64), by have := HQ.out.2; omega, by omega, by congr 1; have := HQ.out.2; omega, HNX.out⟩
        case measure => simp [intOf]; have := HQ.out.2; omega
      · obtain ⟨hx64, hz64, hin, hno⟩ := seek_hit HBT.out HTB.out HW.out hT HX.out hx0
        have HTX := hid (HTZ.out x hx64 hx0)
        generalize Lib.ctz 64 x = z at *
        have HIN := hid hin
        have HNX : Hid (NoneTo m no (!tb) (k + z)) := hid (HK.out.more hno)
        have hxb : ((x : Int) == 0) = false := by rw [beq_eq_false_iff_ne]; omega
        have hzi : (z : Int) < 64 := by omega
        clear hin hno hx64 hx0
        by_cases hfar : k + z < S
        · have HL : Hid (seekV (lowB (inB m) no (!tb) m.length) = .tuple #[.int .i64 ((k + z : Nat) : Int), .int .i64 0]) := hid (seekV_at (HNX.out.first (by rw [← HS.out]; exact hfar) (by omega) HIN.out))
          have hf2 : ((S : Int) ≤ (k : Int) + z) = False := eq_false (by omega)
          clear hfar
          go_wp2_with fail
          refine HSZ.out.mono ?_
          rintro e w1 ⟨rfl, rfl⟩
          go_wp2_with fail
          refine HTX.out.mono ?_
          rintro e w1 ⟨rfl, rfl⟩
          go_wp2_with fail
          refine HSZ.out.mono ?_
          rintro e w1 ⟨rfl, rfl⟩
          go_wp2_with fail
          go_ret2
          exact ⟨by rw [HL.out]; rfl, rfl⟩
        · have HL : Hid (seekV (lowB (inB m) no (!tb) m.length) = .tuple #[.int .i64 0, .int .i64 7]) := hid (seekV_none (HNX.out.none (by have := HS.out; omega)))
          have hf2 : ((S : Int) ≤ (k : Int) + z) = True := eq_true (by omega)
          clear hfar
          go_wp2_with fail
          refine HSZ.out.mono ?_
          rintro e w1 ⟨rfl, rfl⟩
          go_wp2_with fail
          refine HTX.out.mono ?_
          rintro e w1 ⟨rfl, rfl⟩
          go_wp2_with fail
          refine HSZ.out.mono ?_
          rintro e w1 ⟨rfl, rfl⟩
          go_wp2_with fail
          go_ret2
          exact ⟨by rw [HL.out]; rfl, rfl⟩
    · have hks : (k < S) = False := eq_false (by omega)
      have hks2 : (S ≤ k) = True := eq_true (by omega)
      have HL : Hid (seekV (lowB (inB m) no (!tb) m.length) = .tuple #[.int .i64 0, .int .i64 7]) := hid (seekV_none (HK.out.none (by have := HS.out; omega)))
      clear hlt
      go_wp2_with fail
      refine HSZ.out.mono ?_
      rintro e w1 ⟨rfl, rfl⟩
      go_wp2_with fail
      refine HSZ.out.mono ?_
      rintro e w1 ⟨rfl, rfl⟩
      go_wp2_with fail
      go_ret2
      exact ⟨by rw [HL.out]; rfl, rfl⟩
theorem lowest_any (ok : Nat → Prop) (v : Value) (m : List Bool) (no : Int) (w : World) (h : Bm ok w v m) (ht : Tab w) (h1 : -9223372036854775808 ≤ no) (h2 : no ≤ 9223372036854775807) :
    Calls Tryd.prog 50 #[v, .int .i64 no] w fun e w' => e = .returned (seekV (lowB (inB m) no true m.length)) ∧ w = w' := by
  have H := hid (seek_any ok v m no false 0 w h ht (by decide) (fun j _ => by simp) h1 h2)
  clear h ht
  obtain ⟨L, hL⟩ : ∃ L, L = lowB (inB m) no true m.length := ⟨_, rfl⟩
  have H2 : Hid (Calls Tryd.prog 57 #[v, .int .i64 no, .int .u64 0] w fun e w' => e = .returned (seekV L) ∧ w = w') := hid (by rw [hL]; exact H.out)
  rw [← hL]
  clear H hL
  unfold seekV at *
  by_cases h0 : 0 ≤ L
  · rw [if_pos h0] at *
    go_enter Tryd.func50, Tryd.ntmps50
    go_wp2_with fail
    refine H2.out.mono ?_
    rintro e w1 ⟨rfl, rfl⟩
    go_wp2_with fail
    go_ret2
    exact ⟨rfl, rfl⟩
  · rw [if_neg h0] at *
    go_enter Tryd.func50, Tryd.ntmps50
    go_wp2_with fail
    refine H2.out.mono ?_
    rintro e w1 ⟨rfl, rfl⟩
    go_wp2_with fail
    go_ret2
    exact ⟨rfl, rfl⟩
theorem ones_bit (j : Nat) (h : j < 64) : (18446744073709551615 : Nat).testBit j = true := by
  rw [show (18446744073709551615 : Nat) = 2 ^ 64 - 1 from by decide, Nat.testBit_two_pow_sub_one, decide_eq_true h]
theorem free_any (ok : Nat → Prop) (v : Value) (m : List Bool) (no : Int) (w : World) (h : Bm ok w v m) (ht : Tab w) (h1 : -9223372036854775808 ≤ no) (h2 : no ≤ 9223372036854775807) :
    Calls Tryd.prog 49 #[v, .int .i64 no] w fun e w' => e = .returned (seekV (lowB (inB m) no false m.length)) ∧ w = w' := by
  have H := hid (seek_any ok v m no true 18446744073709551615 w h ht (by decide) ones_bit h1 h2)
  clear h ht
  obtain ⟨L, hL⟩ : ∃ L, L = lowB (inB m) no false m.length := ⟨_, rfl⟩
  have H2 : Hid (Calls Tryd.prog 57 #[v, .int .i64 no, .int .u64 18446744073709551615] w fun e w' => e = .returned (seekV L) ∧ w = w') := hid (by rw [hL]; exact H.out)
  rw [← hL]
  clear H hL
  unfold seekV at *
  by_cases h0 : 0 ≤ L
  · rw [if_pos h0] at *
    go_enter Tryd.func49, Tryd.ntmps49
    go_wp2_with fail
    refine H2.out.mono ?_
    rintro e w1 ⟨rfl, rfl⟩
    go_wp2_with fail
    go_ret2
    exact ⟨rfl, rfl⟩
  · rw [if_neg h0] at *
    go_enter Tryd.func49, Tryd.ntmps49
    go_wp2_with fail
    refine H2.out.mono ?_
    rintro e w1 ⟨rfl, rfl⟩
    go_wp2_with fail
    go_ret2
    exact ⟨rfl, rfl⟩
end Go.Proofs.YtjgnnofpilmgoaaDoor

