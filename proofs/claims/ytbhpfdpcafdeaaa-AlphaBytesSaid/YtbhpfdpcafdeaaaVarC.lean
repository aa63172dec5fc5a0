/- CONTRACTS: a number or a signed one at the beginning of any bytes, and the rest. -/
import Derived.Test.YtbhpfdpcafdeaaaVarB
namespace Go.Proofs.Ytbhpfdpcafdeaaa
open Go.RowKit Go.Inc

theorem plain_any (ok : Nat → Prop) (g f : Nat) (bs : List Nat) (w : World) (hr : Rd ok w g bs f) (hg : ∀ b, ok b → b ≠ g) (hby : Bytes bs) :
    Calls Try.prog 61 #[.pointer (some ⟨g, 0, none⟩)] w fun e w' => e = .returned (.int .i64 (Var.val 9223372036854775807 bs : Nat)) ∧ Read ok 9223372036854775807 g f bs w w' := by
  have H := hid (number_any ok 9223372036854775807 g f bs w hr hg hby (by decide))
  have hv : ((Var.val 9223372036854775807 bs : Nat) : Int) ≤ 9223372036854775807 := by have := Var.val_le 9223372036854775807 bs; omega
  generalize Var.val 9223372036854775807 bs = v at *
  clear hr hg hby
  go_enter Try.func61, Try.ntmps61
  go_wp2_with fail
  refine H.out.mono ?_
  rintro e w' ⟨rfl, hr⟩
  have HR := hid hr
  clear hr
  go_wp2_with fail
  go_ret
  exact ⟨rfl, HR.out⟩

/-- What of the bytes is the rest. -/
def restOf (f : Nat) (bs : List Nat) : List Nat := if f = 0 then bs else []
/-- What is left of bytes behind a number, if one is there. -/
def tailOf (G : Nat) (bs : List Nat) : List Nat := if Var.err G bs = 0 then bs.drop (Var.pos G bs) else []
theorem tail_is (G : Nat) (bs : List Nat) : restOf (faultOf G 0 bs) (leftOf G bs) = tailOf G bs ∧ faultOf G 0 bs = Var.err G bs := by
  unfold restOf faultOf leftOf tailOf
  by_cases h : Var.err G bs = 0 <;> simp [h]
theorem left_len (G : Nat) (bs : List Nat) : (leftOf G bs).length ≤ bs.length := by
  unfold leftOf; split <;> simp

end Go.Proofs.Ytbhpfdpcafdeaaa

