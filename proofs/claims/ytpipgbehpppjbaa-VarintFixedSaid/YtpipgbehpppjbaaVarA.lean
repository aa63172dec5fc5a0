/- CONTRACTS: a number's bytes laid behind others (the program's, the document's), signed numbers folded and unfolded. -/
import Derived.Test.YtpipgbehpppjbaaSame
import Derived.Test.YtpipgbehpppjbaaClone
import Derived.Test.YtpipgbehpppjbaaVarMath
import Derived.Lib.Zigzag
import Derived.IntWalk
namespace Go.Proofs.Ytpipgbehpppjbaa
open Go.RowKit Go.Inc

theorem u8_or128 (x : Nat) (h : x < 256) : bits .or .u8 (x : Int) 128 = ((x % 128 + 128 : Nat) : Int) := by
  have key : ∀ n : Fin 256, bits .or .u8 (n.val : Int) 128 = ((n.val % 128 + 128 : Nat) : Int) := by decide +kernel
  exact key ⟨x, h⟩

theorem row_one {w : World} {E B : Nat} {v : Value} {bs : List Nat} {x n m : Nat} (h : w.ownsRow B E 1 v (n + m) (u8s bs ++ [.int .u8 (x : Int)])) (hn : n = bs.length) (hm : m = 1) : Row E B w v (bs ++ [x]) := by
  subst hn hm
  have : u8s (bs ++ [x]) = u8s bs ++ [.int .u8 (x : Int)] := by simp [u8s]
  unfold Row
  rw [this, List.length_append]
  exact h

set_option maxHeartbeats 1000000 in
theorem lay_any (B : Nat) (v : Value) (bs : List Nat) (n : Nat) (w : World) (hv : Row 5 B w v bs) (hB : B ≤ w.heap.size) (hn : n < 18446744073709551616) (hl : bs.length ≤ 70368744177664) :
    Calls Try.prog 24 #[v, .int .u64 (n : Int)] w fun e w' => ∃ v', e = .returned v' ∧ Row 5 B w' v' (bs ++ Var.put n) ∧ Below B w w' := by
  have HV := hid hv
  have hpl := Var.put_ten hn
  clear hv
  go_enter Try.func24, Try.ntmps24
  go_wp2_with fail
  go_loopw [0, 1] (fun v1 n1 wr => ∃ (m : Nat) (xs : List Nat), m ≤ n ∧ n1 = .int .u64 (m : Int) ∧ Row 5 B wr v1 xs ∧ bs ++ Var.put n = xs ++ Var.put m ∧ Below B w wr) (fun _ n1 _ => (intOf n1).toNat)
  case atStart => exact ⟨n, bs, Nat.le_refl _, rfl, HV.out, rfl, Below.refl _ _⟩
  case round =>
    obtain ⟨m, xs, hm, rfl, hr, hs, hb⟩ := hrel
    have hx : xs.length ≤ bs.length + 10 := by
      have := congrArg List.length hs
      simp only [List.length_append] at this
      omega
    have HR := hid hr
    have HS := hid hs
    have HB : Hid (B ≤ wr.heap.size) := hid (Nat.le_trans hB hb.size)
    clear hr hs
    have hm2 : (m : Int) < 18446744073709551616 := by omega
    by_cases h : (128 : Int) ≤ m
    · have hp := hid (Var.put_more (n := m) (by omega))
      have ho : Hid (bits .or .u8 ((m : Int) % 256) 128 = ((m % 128 + 128 : Nat) : Int)) := by
        have h := u8_or128 (m % 256) (by omega)
        rw [show m % 256 % 128 = m % 128 from by omega] at h
        exact h
      have hi : (128 : Int) ≤ (m : Int) := h
      go_wp2_with (refine wpList_append_any rfl (.tmp 9) (.tmp 13) 23 rfl B 5 (.int .u8 0) 1 Try.underlying23 infoU8 rfl _ _ _ rfl (HR.out.alloc _) (some ⟨wr.heap.size, 0, none⟩) 1 1 _ rfl rfl (by intro h; cases h) (one_new wr _ _) (by simp [Value.oneCell']) (by unfold maxLen; omega) (by omega) (by have := HB.out; simp; omega) ?_)
      intro v2 w2 hv2 hg2 _
      have hb2 := (hb.alloc HB.out _).grown hg2 (by have := HB.out; simp; omega) fun k hk => (HR.out.lt k hk).1
      rw [ho.out] at hv2
      have hv3 := hid (row_one hv2 rfl rfl)
      clear hv2 hg2 hb
      go_wp2_with fail
      go_roundw
      case rel =>
        refine ⟨m / 128, xs ++ [m % 128 + 128], by omega, by go_num, hv3.out, ?_, hb2⟩
        rw [HS.out, hp.out]; simp
      case measure => simp [intOf]; omega
    · have hp := hid (Var.put_low (n := m) (by omega))
      have hi : (m : Int) < 128 := by omega
      have hc : Hid ((m : Int) % 256 = m) := hid (by omega)
      go_wp2_with (refine wpList_append_any rfl (.tmp 15) (.tmp 18) 23 rfl B 5 (.int .u8 0) 1 Try.underlying23 infoU8 rfl _ _ _ rfl (HR.out.alloc _) (some ⟨wr.heap.size, 0, none⟩) 1 1 _ rfl rfl (by intro h; cases h) (one_new wr _ _) (by simp [Value.oneCell']) (by unfold maxLen; omega) (by omega) (by have := HB.out; simp; omega) ?_)
      intro v2 w2 hv2 hg2 _
      have hb2 := (hb.alloc HB.out _).grown hg2 (by have := HB.out; simp; omega) fun k hk => (HR.out.lt k hk).1
      have hv3 := hid (row_one hv2 rfl rfl)
      clear hv2 hg2 hb
      go_wp2_with fail
      go_ret
      refine ⟨_, rfl, ?_, hb2⟩
      rw [HS.out, hp.out]; exact hv3.out

set_option maxHeartbeats 1000000 in
/-- The document's bytes of a number. -/
theorem refPut_any (n : Nat) (w : World) (hn : n < 18446744073709551616) :
    Calls Try.prog 10 #[.int .u64 (n : Int)] w fun e w' => ∃ v', e = .returned v' ∧ Row 5 w.heap.size w' v' (Var.put n) ∧ Below w.heap.size w w' := by
  have hpl := Var.put_ten hn
  go_enter Try.func10, Try.ntmps10
  go_wp2_with fail
  go_loopw [0, 3] (fun n1 v1 wr => ∃ (m : Nat) (xs : List Nat), m ≤ n ∧ n1 = .int .u64 (m : Int) ∧ Row 5 w.heap.size wr v1 xs ∧ Var.put n = xs ++ Var.put m ∧ Below w.heap.size w wr) (fun n1 _ _ => (intOf n1).toNat)
  case atStart => exact ⟨n, [], Nat.le_refl _, rfl, Row.nil _ _ _, rfl, Below.refl _ _⟩
  case round =>
    obtain ⟨m, xs, hm, rfl, hr, hs, hb⟩ := hrel
    have hx : xs.length ≤ 10 := by
      have := congrArg List.length hs
      simp only [List.length_append] at this
      omega
    have HR := hid hr
    have HS := hid hs
    have HB : Hid (w.heap.size ≤ wr.heap.size) := hid hb.size
    clear hr hs
    have hm2 : (m : Int) < 18446744073709551616 := by omega
    by_cases h : (128 : Int) ≤ m
    · have hp := hid (Var.put_more (n := m) (by omega))
      have hd : ((m : Int) / 128 == 0) = false := by rw [beq_eq_false_iff_ne]; omega
      have hc : Hid ((m : Int) % 128 % 256 = (m : Int) % 128) := hid (by omega)
      go_wp2_with (refine wpList_append_any rfl (.tmp 16) (.tmp 19) 23 rfl w.heap.size 5 (.int .u8 0) 1 Try.underlying23 infoU8 rfl _ _ _ rfl (HR.out.alloc _) (some ⟨wr.heap.size, 0, none⟩) 1 1 _ rfl rfl (by intro h; cases h) (one_new wr _ _) (by simp [Value.oneCell']) (by unfold maxLen; omega) (by omega) (by have := HB.out; simp; omega) ?_)
      intro v2 w2 hv2 hg2 _
      have hb2 := (hb.alloc HB.out _).grown hg2 (by have := HB.out; simp; omega) fun k hk => (HR.out.lt k hk).1
      have hv3 := hid (row_one (x := m % 128 + 128) hv2 rfl rfl)
      clear hv2 hg2 hb
      go_wp2_with fail
      go_roundw
      case rel =>
        refine ⟨m / 128, xs ++ [m % 128 + 128], by omega, by go_num, hv3.out, ?_, hb2⟩
        rw [HS.out, hp.out]; simp
      case measure => simp [intOf]; omega
    · have hp := hid (Var.put_low (n := m) (by omega))
      have hi : (m : Int) < 128 := by omega
      have hd : ((m : Int) / 128 == 0) = true := by rw [beq_iff_eq]; omega
      have hc : Hid ((m : Int) % 128 = m) := hid (by omega)
      go_wp2_with (refine wpList_append_any rfl (.tmp 12) (.tmp 14) 23 rfl w.heap.size 5 (.int .u8 0) 1 Try.underlying23 infoU8 rfl _ _ _ rfl (HR.out.alloc _) (some ⟨wr.heap.size, 0, none⟩) 1 1 _ rfl rfl (by intro h; cases h) (one_new wr _ _) (by simp [Value.oneCell']) (by unfold maxLen; omega) (by omega) (by have := HB.out; simp; omega) ?_)
      intro v2 w2 hv2 hg2 _
      have hb2 := (hb.alloc HB.out _).grown hg2 (by have := HB.out; simp; omega) fun k hk => (HR.out.lt k hk).1
      have hv3 := hid (row_one (x := m % 128) hv2 rfl rfl)
      clear hv2 hg2 hb
      go_wp2_with fail
      go_ret
      refine ⟨_, rfl, ?_, hb2⟩
      rw [HS.out, hp.out]
      have := hv3.out
      rw [show m % 128 = m from by omega] at this
      exact this
theorem sig_u64 : IntKind.u64.signed = false := rfl
theorem sig_i64 : IntKind.i64.signed = true := rfl
theorem ret_u64 {a b : Int} (h : a = b) : Ending.returned (.int .u64 a) = .returned (.int .u64 b) := by rw [h]
theorem fold_any (n : Int) (w : World) (h0 : -9223372036854775808 ≤ n) (h1 : n ≤ 9223372036854775807) :
    Calls Try.prog 25 #[.int .i64 n] w fun e w' => e = .returned (.int .u64 (Var.fold n : Nat)) ∧ w = w' := by
  by_cases h : n < 0
  · have hz := hid (Go.Lib.zigzag_neg h0 h)
    have hsg := sig_u64
    go_enter Try.func25, Try.ntmps25
    go_wp2
    go_ret
    refine ⟨ret_u64 (hz.out.trans ?_), rfl⟩
    unfold Go.Lib.zigzag Var.fold
    rw [if_neg (by omega)]
  · have h : 0 ≤ n := by omega
    go_enter Try.func25, Try.ntmps25
    go_wp2
    go_ret
    refine ⟨ret_u64 (a := n * 2) ?_, rfl⟩
    unfold Var.fold
    rw [if_pos h]; omega
theorem refSigned_any (n : Int) (w : World) (h0 : -9223372036854775808 ≤ n) (h1 : n ≤ 9223372036854775807) :
    Calls Try.prog 11 #[.int .i64 n] w fun e w' => e = .returned (.int .u64 (Var.fold n : Nat)) ∧ w = w' := by
  by_cases h : n < 0
  · have h' : ¬ 0 ≤ n := by omega
    go_enter Try.func11, Try.ntmps11
    go_wp2
    go_ret
    refine ⟨ret_u64 (a := 2 * -(n + 1) + 1) ?_, rfl⟩
    unfold Var.fold
    rw [if_neg (by omega)]; omega
  · have h : 0 ≤ n := by omega
    go_enter Try.func11, Try.ntmps11
    go_wp2
    go_ret
    refine ⟨ret_u64 (a := 2 * n) ?_, rfl⟩
    unfold Var.fold
    rw [if_pos h]; omega
theorem unfold_any (u : Nat) (w : World) (h : u < 18446744073709551616) :
    Calls Try.prog 28 #[.int .u64 (u : Int)] w fun e w' => e = .returned (.int .i64 (Var.unfold' u)) ∧ w = w' := by
  have hu : (u : Int) < 18446744073709551616 := by omega
  have ha := Go.Lib.u64_and1 u (by omega) hu
  have hx : Hid (bits .xor .i64 (-1) ((u : Int) / 2) = -((u / 2 : Nat) : Int) - 1) := hid (Go.Lib.i64_not (u / 2) (by omega))
  clear h
  by_cases hm : u % 2 = 0
  · have hb : ((u : Int) % 2 != 0) = false := by rw [bne_eq_false_iff_eq]; omega
    have H := hid hm
    clear hm
    go_enter Try.func28, Try.ntmps28
    go_wp2
    go_ret
    refine ⟨ret_int (a := (u : Int) / 2) ?_, rfl⟩
    unfold Var.unfold'
    rw [if_pos H.out]; rfl
  · have hb : ((u : Int) % 2 != 0) = true := by rw [bne_iff_ne]; omega
    have H := hid hm
    have hsg := sig_i64
    clear hm
    go_enter Try.func28, Try.ntmps28
    go_wp2
    go_ret
    refine ⟨ret_int (hx.out.trans ?_), rfl⟩
    unfold Var.unfold'
    rw [if_neg H.out]

theorem signed_any (n : Int) (w : World) (h0 : -9223372036854775808 ≤ n) (h1 : n ≤ 9223372036854775807) :
    Calls Try.prog 7 #[.int .i64 n] w fun e w' => ∃ v', e = .returned v' ∧ Row 5 w.heap.size w' v' (Var.put (Var.fold n)) ∧ Below w.heap.size w w' := by
  have hf := hid (fold_any n w h0 h1)
  have hl := hid (lay_any w.heap.size (.slice none 0 0) [] (Var.fold n) w (Row.nil _ _ _) (Nat.le_refl _) (Var.fold_lt h0 h1) (by decide))
  go_enter Try.func7, Try.ntmps7
  go_wp2_with fail
  refine hf.out.mono ?_
  rintro e w' ⟨rfl, rfl⟩
  go_wp2_with fail
  refine hl.out.mono ?_
  rintro e w' ⟨v', rfl, hr, hb⟩
  have HR := hid hr
  clear hr
  go_wp2_with fail
  go_ret
  exact ⟨_, rfl, HR.out, hb⟩

theorem below_any (n : Int) (w : World) : Calls Try.prog 30 #[.int .i64 n] w fun e w' => e = .returned (.bool (decide (n < 0))) ∧ w = w' := by
  go_enter Try.func30, Try.ntmps30
  go_wp2
  go_ret
  exact ⟨rfl, rfl⟩
end Go.Proofs.Ytpipgbehpppjbaa
