/- CONTRACTS: a number or a signed one at the beginning of any bytes, and the rest. -/
import Derived.Test.YtjcapiibeekfkaaVarB
namespace Go.Proofs.Ytjcapiibeekfkaa
open Go.RowKit Go.Inc

theorem plain_any (ok : Nat → Prop) (g f : Nat) (bs : List Nat) (w : World) (hr : Rd ok w g bs f) (hg : ∀ b, ok b → b ≠ g) (hby : Bytes bs) :
    Calls Try.prog 48 #[.pointer (some ⟨g, 0, none⟩)] w fun e w' => e = .returned (.int .i64 (Var.val 9223372036854775807 bs : Nat)) ∧ Read ok 9223372036854775807 g f bs w w' := by
  have H := hid (number_any ok 9223372036854775807 g f bs w hr hg hby (by decide))
  have hv : ((Var.val 9223372036854775807 bs : Nat) : Int) ≤ 9223372036854775807 := by have := Var.val_le 9223372036854775807 bs; omega
  generalize Var.val 9223372036854775807 bs = v at *
  clear hr hg hby
  go_enter Try.func48, Try.ntmps48
  go_wp2_with fail
  refine H.out.mono ?_
  rintro e w' ⟨rfl, hr⟩
  have HR := hid hr
  clear hr
  go_wp2_with fail
  go_ret
  exact ⟨rfl, HR.out⟩

/-- What of the bytes is the rest. -/
def restOf (f : Nat) (bs : List Nat) : List Nat := if f = 0 then bs else []
/-- Three results: the value where nothing is wrong, the rest, the fault. -/
def Ans (u : Value) (f : Nat) (rest : List Nat) (B : Nat) (e : Ending) (w' : World) : Prop :=
  ∃ v, e = .returned (.tuple #[u, v, .int .i64 (f : Int)]) ∧ Row 5 B w' v rest

theorem answer_good (ok : Nat → Prop) (g : Nat) (v : Int) (bs : List Nat) (w : World) (hr : Rd ok w g bs 0) (hl : bs.length ≤ 70368744177664) :
    Calls Try.prog 47 #[.pointer (some ⟨g, 0, none⟩), .int .i64 v] w fun e w' => Ans (.int .i64 v) 0 bs w.heap.size e w' ∧ Below w.heap.size w w' := by
  have H := hid (apart_any ok g 0 bs w hr hl)
  obtain ⟨a, c, hrow, hs, hc, hm, hn⟩ := hr
  have c1 : w.cell? ⟨g, 1, none⟩ = some (.int .i64 0) := cell_of_row w g 1 _ _ _ hrow
  clear hn hs hrow
  go_enter Try.func47, Try.ntmps47
  go_wp2_with fail
  refine H.out.mono ?_
  rintro e w' ⟨u, rfl, hr, hb⟩
  have HR := hid hr
  clear hr
  go_wp2_with fail
  go_ret3
  exact ⟨⟨_, rfl, HR.out⟩, hb⟩
theorem answer_bad (ok : Nat → Prop) (g f : Nat) (v : Int) (bs : List Nat) (w : World) (hr : Rd ok w g bs f) (hf : f ≠ 0) :
    Calls Try.prog 47 #[.pointer (some ⟨g, 0, none⟩), .int .i64 v] w fun e w' => Ans (.int .i64 0) f [] w.heap.size e w' ∧ Below w.heap.size w w' := by
  obtain ⟨a, c, hrow, hs, hc, hm, hn⟩ := hr
  have c1 : w.cell? ⟨g, 1, none⟩ = some (.int .i64 (f : Int)) := cell_of_row w g 1 _ _ _ hrow
  have hf1 : ((f : Int) != 0) = true := by rw [bne_iff_ne]; omega
  clear hn hs hrow hf
  go_enter Try.func47, Try.ntmps47
  go_wp2_with fail
  go_quiet (fail)
  go_wp2_with fail
  go_ret3
  exact ⟨⟨_, rfl, Row.nil _ _ _⟩, ⟨rfl, rfl, rfl, Nat.le_refl _, fun _ _ => rfl⟩⟩
/-- A number where nothing is wrong. -/
def okInt (f : Nat) (v : Int) : Int := if f = 0 then v else 0
theorem answer_any (ok : Nat → Prop) (g f : Nat) (v : Int) (bs : List Nat) (w : World) (hr : Rd ok w g bs f) (hl : bs.length ≤ 70368744177664) :
    Calls Try.prog 47 #[.pointer (some ⟨g, 0, none⟩), .int .i64 v] w fun e w' => Ans (.int .i64 (okInt f v)) f (restOf f bs) w.heap.size e w' ∧ Below w.heap.size w w' := by
  by_cases h : f = 0
  · subst h
    exact answer_good ok g v bs w hr hl
  · unfold okInt restOf
    rw [if_neg h, if_neg h]
    exact answer_bad ok g f v bs w hr h

/-- What is left of bytes behind a number, if one is there. -/
def tailOf (G : Nat) (bs : List Nat) : List Nat := if Var.err G bs = 0 then bs.drop (Var.pos G bs) else []
theorem tail_is (G : Nat) (bs : List Nat) : restOf (faultOf G 0 bs) (leftOf G bs) = tailOf G bs ∧ faultOf G 0 bs = Var.err G bs := by
  unfold restOf faultOf leftOf tailOf
  by_cases h : Var.err G bs = 0 <;> simp [h]
theorem left_len (G : Nat) (bs : List Nat) : (leftOf G bs).length ≤ bs.length := by
  unfold leftOf; split <;> simp

theorem get_any (ok : Nat → Prop) (a : Option Addr) (c : Nat) (bs : List Nat) (w : World) (hs : Sl ok w a bs) (hc : bs.length ≤ c ∧ c ≤ maxLen) (hn : a = none → c = 0) (hby : Bytes bs) (hl : bs.length ≤ 70368744177664) :
    Calls Try.prog 37 #[.slice a bs.length c] w fun e w' => Ans (.int .i64 (Var.val 9223372036854775807 bs : Nat)) (Var.err 9223372036854775807 bs) (tailOf 9223372036854775807 bs) w.heap.size e w' ∧ Below w.heap.size w w' := by
  have H := hid (over_any (fun b => b < w.heap.size) a c bs w (hs.mono fun b _ h => h) hc hn)
  have HBY := hid hby
  have HL := hid hl
  clear hs hn hby hl hc
  go_enter Try.func37, Try.ntmps37
  go_wp2_with fail
  refine H.out.mono ?_
  rintro e w1 ⟨rfl, hr, hb1⟩
  have H1 := hid (plain_any _ w.heap.size 0 bs w1 hr (fun b h e => by omega) HBY.out)
  have HB1 := hid hb1
  clear hr hb1
  go_wp2_with fail
  refine H1.out.mono ?_
  rintro e w2 ⟨rfl, hr⟩
  have H2 := hid (answer_any _ w.heap.size _ (Var.val 9223372036854775807 bs : Nat) _ w2 hr.1 (Nat.le_trans (left_len _ _) HL.out))
  have HB2 := hid (below_grown HB1.out hr.2 (Nat.le_refl _) HB1.out.size)
  clear hr
  have HV : Hid (okInt (faultOf 9223372036854775807 0 bs) (Var.val 9223372036854775807 bs : Nat) = (Var.val 9223372036854775807 bs : Nat)) := hid (by
    unfold okInt
    rw [(tail_is _ _).2]
    split
    · rfl
    · rename_i h; rw [Var.val_bad h]; rfl)
  generalize hvv : ((Var.val 9223372036854775807 bs : Nat) : Int) = v at *
  have HVV := hid hvv
  clear hvv
  go_wp2_with fail
  refine H2.out.mono ?_
  rintro e w3 ⟨⟨u, rfl, hu⟩, hb3⟩
  rw [(tail_is _ _).1] at hu
  rw [HV.out, (tail_is _ _).2]
  have HU := hid hu
  have HB3 := hid (HB2.out.trans (hb3.mono HB2.out.size))
  clear hu hb3
  go_wp2_with fail
  go_ret3
  exact ⟨⟨_, by rw [HVV.out]; rfl, HU.out.weaken HB2.out.size⟩, HB3.out⟩
end Go.Proofs.Ytjcapiibeekfkaa

