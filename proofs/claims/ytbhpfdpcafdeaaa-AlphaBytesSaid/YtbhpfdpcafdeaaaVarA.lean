/- CONTRACTS: a number's bytes laid behind others (the program's, the document's), signed numbers folded and unfolded. -/
import Derived.Test.YtbhpfdpcafdeaaaSame
import Derived.Test.YtbhpfdpcafdeaaaClone
import Derived.Test.YtbhpfdpcafdeaaaVarMath
import Derived.Lib.Zigzag
import Derived.IntWalk
namespace Go.Proofs.Ytbhpfdpcafdeaaa
open Go.RowKit Go.Inc

theorem u8_or128 (x : Nat) (h : x < 256) : bits .or .u8 (x : Int) 128 = ((x % 128 + 128 : Nat) : Int) := by
  have key : ∀ n : Fin 256, bits .or .u8 (n.val : Int) 128 = ((n.val % 128 + 128 : Nat) : Int) := by decide +kernel
  exact key ⟨x, h⟩

theorem row_one {w : World} {E B : Nat} {v : Value} {bs : List Nat} {x n m : Nat} (h : w.ownsRow B E 1 v (n + m) (u8s bs ++ [.int .u8 (x : Int)])) (hn : n = bs.length) (hm : m = 1) : Row E B w v (bs ++ [x]) := by
  subst hn hm
  have : u8s (bs ++ [x]) = u8s bs ++ [.int .u8 (x : Int)] := by simp [u8s]
  unfold Row
  rw [this, List.length_append]
  exact h

set_option maxHeartbeats 1000000 in
theorem lay_any (B : Nat) (v : Value) (bs : List Nat) (n : Nat) (w : World) (hv : Row 5 B w v bs) (hB : B ≤ w.heap.size) (hn : n < 18446744073709551616) (hl : bs.length ≤ 70368744177664) :
    Calls Try.prog 62 #[v, .int .u64 (n : Int)] w fun e w' => ∃ v', e = .returned v' ∧ Row 5 B w' v' (bs ++ Var.put n) ∧ Below B w w' := by
  have HV := hid hv
  have hpl := Var.put_ten hn
  clear hv
  go_enter Try.func62, Try.ntmps62
  go_wp2_with fail
  go_loopw [0, 1] (fun v1 n1 wr => ∃ (m : Nat) (xs : List Nat), m ≤ n ∧ n1 = .int .u64 (m : Int) ∧ Row 5 B wr v1 xs ∧ bs ++ Var.put n = xs ++ Var.put m ∧ Below B w wr) (fun _ n1 _ => (intOf n1).toNat)
  case atStart => exact ⟨n, bs, Nat.le_refl _, rfl, HV.out, rfl, Below.refl _ _⟩
  case round =>
    obtain ⟨m, xs, hm, rfl, hr, hs, hb⟩ := hrel
    have hx : xs.length ≤ bs.length + 10 := by
      have := congrArg List.length hs
      simp only [List.length_append] at this
      omega
    have HR := hid hr
    have HS := hid hs
    have HB : Hid (B ≤ wr.heap.size) := hid (Nat.le_trans hB hb.size)
    clear hr hs
    have hm2 : (m : Int) < 18446744073709551616 := by omega
    by_cases h : (128 : Int) ≤ m
    · have hp := hid (Var.put_more (n := m) (by omega))
      have ho : Hid (bits .or .u8 ((m : Int) % 256) 128 = ((m % 128 + 128 : Nat) : Int)) := by
        have h := u8_or128 (m % 256) (by omega)
        rw [show m % 256 % 128 = m % 128 from by omega] at h
        exact h
      have hi : (128 : Int) ≤ (m : Int) := h
      go_wp2_with (refine wpList_append_any rfl (.tmp 9) (.tmp 13) 49 rfl B 5 (.int .u8 0) 1 Try.underlying49 infoU8 rfl _ _ _ rfl (HR.out.alloc _) (some ⟨wr.heap.size, 0, none⟩) 1 1 _ rfl rfl (by intro h; cases h) (one_new wr _ _) (by simp [Value.oneCell']) (by unfold maxLen; omega) (by omega) (by have := HB.out; simp; omega) ?_)
      intro v2 w2 hv2 hg2 _
      have hb2 := (hb.alloc HB.out _).grown hg2 (by have := HB.out; simp; omega) fun k hk => (HR.out.lt k hk).1
      rw [ho.out] at hv2
      have hv3 := hid (row_one hv2 rfl rfl)
      clear hv2 hg2 hb
      go_wp2_with fail
      go_roundw
      case rel =>
        refine ⟨m / 128, xs ++ [m % 128 + 128], by omega, by go_num, hv3.out, ?_, hb2⟩
        rw [HS.out, hp.out]; simp
      case measure => simp [intOf]; omega
    · have hp := hid (Var.put_low (n := m) (by omega))
      have hi : (m : Int) < 128 := by omega
      have hc : Hid ((m : Int) % 256 = m) := hid (by omega)
      go_wp2_with (refine wpList_append_any rfl (.tmp 15) (.tmp 18) 49 rfl B 5 (.int .u8 0) 1 Try.underlying49 infoU8 rfl _ _ _ rfl (HR.out.alloc _) (some ⟨wr.heap.size, 0, none⟩) 1 1 _ rfl rfl (by intro h; cases h) (one_new wr _ _) (by simp [Value.oneCell']) (by unfold maxLen; omega) (by omega) (by have := HB.out; simp; omega) ?_)
      intro v2 w2 hv2 hg2 _
      have hb2 := (hb.alloc HB.out _).grown hg2 (by have := HB.out; simp; omega) fun k hk => (HR.out.lt k hk).1
      have hv3 := hid (row_one hv2 rfl rfl)
      clear hv2 hg2 hb
      go_wp2_with fail
      go_ret
      refine ⟨_, rfl, ?_, hb2⟩
      rw [HS.out, hp.out]; exact hv3.out

set_option maxHeartbeats 1000000 in
/-- The document's bytes of a number. -/
theorem refPut_any (n : Nat) (w : World) (hn : n < 18446744073709551616) :
    Calls Try.prog 47 #[.int .u64 (n : Int)] w fun e w' => ∃ v', e = .returned v' ∧ Row 5 w.heap.size w' v' (Var.put n) ∧ Below w.heap.size w w' := by
  have hpl := Var.put_ten hn
  go_enter Try.func47, Try.ntmps47
  go_wp2_with fail
  go_loopw [0, 3] (fun n1 v1 wr => ∃ (m : Nat) (xs : List Nat), m ≤ n ∧ n1 = .int .u64 (m : Int) ∧ Row 5 w.heap.size wr v1 xs ∧ Var.put n = xs ++ Var.put m ∧ Below w.heap.size w wr) (fun n1 _ _ => (intOf n1).toNat)
  case atStart => exact ⟨n, [], Nat.le_refl _, rfl, Row.nil _ _ _, rfl, Below.refl _ _⟩
  case round =>
    obtain ⟨m, xs, hm, rfl, hr, hs, hb⟩ := hrel
    have hx : xs.length ≤ 10 := by
      have := congrArg List.length hs
      simp only [List.length_append] at this
      omega
    have HR := hid hr
    have HS := hid hs
    have HB : Hid (w.heap.size ≤ wr.heap.size) := hid hb.size
    clear hr hs
    have hm2 : (m : Int) < 18446744073709551616 := by omega
    by_cases h : (128 : Int) ≤ m
    · have hp := hid (Var.put_more (n := m) (by omega))
      have hd : ((m : Int) / 128 == 0) = false := by rw [beq_eq_false_iff_ne]; omega
      have hc : Hid ((m : Int) % 128 % 256 = (m : Int) % 128) := hid (by omega)
      go_wp2_with (refine wpList_append_any rfl (.tmp 16) (.tmp 19) 49 rfl w.heap.size 5 (.int .u8 0) 1 Try.underlying49 infoU8 rfl _ _ _ rfl (HR.out.alloc _) (some ⟨wr.heap.size, 0, none⟩) 1 1 _ rfl rfl (by intro h; cases h) (one_new wr _ _) (by simp [Value.oneCell']) (by unfold maxLen; omega) (by omega) (by have := HB.out; simp; omega) ?_)
      intro v2 w2 hv2 hg2 _
      have hb2 := (hb.alloc HB.out _).grown hg2 (by have := HB.out; simp; omega) fun k hk => (HR.out.lt k hk).1
      have hv3 := hid (row_one (x := m % 128 + 128) hv2 rfl rfl)
      clear hv2 hg2 hb
      go_wp2_with fail
      go_roundw
      case rel =>
        refine ⟨m / 128, xs ++ [m % 128 + 128], by omega, by go_num, hv3.out, ?_, hb2⟩
        rw [HS.out, hp.out]; simp
      case measure => simp [intOf]; omega
    · have hp := hid (Var.put_low (n := m) (by omega))
      have hi : (m : Int) < 128 := by omega
      have hd : ((m : Int) / 128 == 0) = true := by rw [beq_iff_eq]; omega
      have hc : Hid ((m : Int) % 128 = m) := hid (by omega)
      go_wp2_with (refine wpList_append_any rfl (.tmp 12) (.tmp 14) 49 rfl w.heap.size 5 (.int .u8 0) 1 Try.underlying49 infoU8 rfl _ _ _ rfl (HR.out.alloc _) (some ⟨wr.heap.size, 0, none⟩) 1 1 _ rfl rfl (by intro h; cases h) (one_new wr _ _) (by simp [Value.oneCell']) (by unfold maxLen; omega) (by omega) (by have := HB.out; simp; omega) ?_)
      intro v2 w2 hv2 hg2 _
      have hb2 := (hb.alloc HB.out _).grown hg2 (by have := HB.out; simp; omega) fun k hk => (HR.out.lt k hk).1
      have hv3 := hid (row_one (x := m % 128) hv2 rfl rfl)
      clear hv2 hg2 hb
      go_wp2_with fail
      go_ret
      refine ⟨_, rfl, ?_, hb2⟩
      rw [HS.out, hp.out]
      have := hv3.out
      rw [show m % 128 = m from by omega] at this
      exact this
theorem ret_u64 {a b : Int} (h : a = b) : Ending.returned (.int .u64 a) = .returned (.int .u64 b) := by rw [h]
theorem below_any (n : Int) (w : World) : Calls Try.prog 58 #[.int .i64 n] w fun e w' => e = .returned (.bool (decide (n < 0))) ∧ w = w' := by
  go_enter Try.func58, Try.ntmps58
  go_wp2
  go_ret
  exact ⟨rfl, rfl⟩
end Go.Proofs.Ytbhpfdpcafdeaaa

