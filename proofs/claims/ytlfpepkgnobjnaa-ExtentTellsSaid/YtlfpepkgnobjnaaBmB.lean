/- CONTRACTS: is a number in it? -/
import Derived.Test.YtlfpepkgnobjnaaBmA
namespace Go.Proofs.Ytlfpepkgnobjnaa
open Go.RowKit Go.Inc

theorem below_drewN (w : World) (n : Nat) : Below w.heap.size w (w.drewN n) := ⟨rfl, rfl, rfl, Nat.le_refl _, fun _ _ => rfl⟩
/-- Is a number in it? -/
def hasB (m : List Bool) (no : Int) : Bool := decide (0 ≤ no) && inB m no.toNat
theorem hasB_nat (m : List Bool) (i : Nat) : hasB m (i : Int) = inB m i := by simp [hasB]
theorem hasB_out {m : List Bool} {no : Int} (h : ¬ (0 ≤ no ∧ no < m.length)) : hasB m no = false := by
  unfold hasB
  by_cases h0 : 0 ≤ no
  · rw [inB_far (by omega)]; simp
  · simp [h0]
set_option maxRecDepth 20000 in
theorem has_any (ok : Nat → Prop) (v : Value) (m : List Bool) (no : Int) (w : World) (h : Bm ok w v m) :
    Calls Try.prog 56 #[v, .int .i64 no] w fun e w' => e = .returned (.bool (hasB m no)) ∧ Below w.heap.size w w' := by
  have HB := hid h
  by_cases hin : 0 ≤ no ∧ no < m.length
  · obtain ⟨i, rfl⟩ := Int.eq_ofNat_of_zero_le hin.1
    have l1 : ∀ n, Calls Try.prog 55 #[v, .int .i64 (i : Int)] (w.drewN n) fun e w' => e = .returned (.bool true) ∧ ∃ m, w' = w.drewN m := fun n => Calls.quiet_of_same ((mayHave_any ok v m i (w.drewN n) (h.below (below_drewN w n))).mono fun _ _ h => ⟨by rw [h.1]; simp [hin.1, hin.2], h.2.symm⟩)
    rcases h with ⟨rfl, rfl⟩ | ⟨b, g, c, W, rfl, hb, hg, hat, hbits⟩
    · simp at hin; omega
    have hlen := hat.len
    have hs2 := hat.s2
    obtain ⟨q, hq⟩ : ∃ q, q = i / 64 := ⟨_, rfl⟩
    have hqn : q < W.length := by rw [hq, hlen]; omega
    have hc1 := hat.hw
    have hc2 := hat.cell hqn
    have hx := wget_lt hat.fits q
    have l2 : ∀ n, Calls Try.prog 57 #[.int .i64 (i : Int)] (w.drewN n) fun e w' => e = .returned (.int .u64 ((2 ^ (i % 64) : Nat) : Int)) ∧ ∃ m, w' = w.drewN m := fun n => Calls.quiet_of_same ((bit_any i (w.drewN n) (by omega)).mono fun _ _ h => ⟨h.1, h.2.symm⟩)
    have hbit : inB m i = (W.getD q 0).testBit (i % 64) := by rw [← hbits i, hq]; rfl
    obtain ⟨x, hxe⟩ : ∃ x, x = W.getD q 0 := ⟨_, rfl⟩
    rw [← hxe] at hc2 hx hbit
    obtain ⟨y, hy⟩ : ∃ y, y = x &&& 2 ^ (i % 64) := ⟨_, rfl⟩
    have hand : bits .and .u64 (x : Int) ((2 ^ (i % 64) : Nat) : Int) = (y : Int) := by rw [hy]; exact u64_and_nat x _ hx (pow_lt64 i)
    have hne : (!((y : Int) == 0)) = (hasB m i) := by
      rw [hasB_nat, hbit]
      cases ht : x.testBit (i % 64)
      · have : y = 0 := by rw [hy, and_bit, ht]; rfl
        subst this; rfl
      · have : y ≠ 0 := by rw [hy]; exact and_bit_ne.2 ht
        have h2 : ((y : Int) == 0) = false := by rw [beq_eq_false_iff_ne]; omega
        rw [h2]; rfl
    have HN := hid hne
    have hqi : (i : Int) / 64 = (q : Int) := by omega
    have hqn' : (q : Int) < (W.length : Int) := by omega
    have hq32 : (q : Int) < 32 := by omega
    generalize hp : (2 ^ (i % 64) : Nat) = p at *
    obtain ⟨n, hn⟩ : ∃ n, n = W.length := ⟨_, rfl⟩
    rw [← hn] at hc1 hqn hqn'
    clear hin hlen hbits hbit hxe hy hq hat hne hp hn hs2 hb hg
    go_enter Try.func56, Try.ntmps56
    go_wp2_with fail
    go_quiet (first | with_reducible exact l1 _ | with_reducible exact l2 _)
    go_wp2_with fail
    go_ret
    exact ⟨by rw [← HN.out]; rfl, below_drewN _ _⟩
  · have l1 : ∀ n, Calls Try.prog 55 #[v, .int .i64 no] (w.drewN n) fun e w' => e = .returned (.bool false) ∧ ∃ m, w' = w.drewN m := fun n => Calls.quiet_of_same ((mayHave_any ok v m no (w.drewN n) (h.below (below_drewN w n))).mono fun _ _ h => ⟨by rw [h.1]; congr 2; rw [← Bool.not_eq_true]; simpa using hin, h.2.symm⟩)
    have HN : Hid (hasB m no = false) := hid (hasB_out hin)
    clear hin h
    go_enter Try.func56, Try.ntmps56
    go_wp2_with fail
    go_quiet (with_reducible exact l1 _)
    go_wp2_with fail
    go_ret
    exact ⟨by rw [HN.out]; rfl, below_drewN _ _⟩
end Go.Proofs.Ytlfpepkgnobjnaa

