/- CONTRACTS: a number or a signed one at the beginning of any bytes, and the rest. -/
import Derived.Test.YtmdimhijbmeioaaVarB
namespace Go.Proofs.Ytmdimhijbmeioaa
open Go.RowKit Go.Inc

/-- What of the bytes is the rest. -/
def restOf (f : Nat) (bs : List Nat) : List Nat := if f = 0 then bs else []
/-- Three results: the value where nothing is wrong, the rest, the fault. -/
def Ans (u : Value) (f : Nat) (rest : List Nat) (B : Nat) (e : Ending) (w' : World) : Prop :=
  ∃ v, e = .returned (.tuple #[u, v, .int .i64 (f : Int)]) ∧ Row 5 B w' v rest

theorem answer_good (ok : Nat → Prop) (g : Nat) (v : Int) (bs : List Nat) (w : World) (hr : Rd ok w g bs 0) (hl : bs.length ≤ 70368744177664) :
    Calls Try.prog 63 #[.pointer (some ⟨g, 0, none⟩), .int .i64 v] w fun e w' => Ans (.int .i64 v) 0 bs w.heap.size e w' ∧ Below w.heap.size w w' := by
  have H := hid (apart_any ok g 0 bs w hr hl)
  obtain ⟨a, c, hrow, hs, hc, hm, hn⟩ := hr
  have c1 : w.cell? ⟨g, 1, none⟩ = some (.int .i64 0) := cell_of_row w g 1 _ _ _ hrow
  clear hn hs hrow
  go_enter Try.func63, Try.ntmps63
  go_wp2_with fail
  refine H.out.mono ?_
  rintro e w' ⟨u, rfl, hr, hb⟩
  have HR := hid hr
  clear hr
  go_wp2_with fail
  go_ret3
  exact ⟨⟨_, rfl, HR.out⟩, hb⟩
theorem answer_bad (ok : Nat → Prop) (g f : Nat) (v : Int) (bs : List Nat) (w : World) (hr : Rd ok w g bs f) (hf : f ≠ 0) :
    Calls Try.prog 63 #[.pointer (some ⟨g, 0, none⟩), .int .i64 v] w fun e w' => Ans (.int .i64 0) f [] w.heap.size e w' ∧ Below w.heap.size w w' := by
  obtain ⟨a, c, hrow, hs, hc, hm, hn⟩ := hr
  have c1 : w.cell? ⟨g, 1, none⟩ = some (.int .i64 (f : Int)) := cell_of_row w g 1 _ _ _ hrow
  have hf1 : ((f : Int) != 0) = true := by rw [bne_iff_ne]; omega
  clear hn hs hrow hf
  go_enter Try.func63, Try.ntmps63
  go_wp2_with fail
  go_quiet (fail)
  go_wp2_with fail
  go_ret3
  exact ⟨⟨_, rfl, Row.nil _ _ _⟩, ⟨rfl, rfl, rfl, Nat.le_refl _, fun _ _ => rfl⟩⟩
/-- A number where nothing is wrong. -/
def okInt (f : Nat) (v : Int) : Int := if f = 0 then v else 0
theorem answer_any (ok : Nat → Prop) (g f : Nat) (v : Int) (bs : List Nat) (w : World) (hr : Rd ok w g bs f) (hl : bs.length ≤ 70368744177664) :
    Calls Try.prog 63 #[.pointer (some ⟨g, 0, none⟩), .int .i64 v] w fun e w' => Ans (.int .i64 (okInt f v)) f (restOf f bs) w.heap.size e w' ∧ Below w.heap.size w w' := by
  by_cases h : f = 0
  · subst h
    exact answer_good ok g v bs w hr hl
  · unfold okInt restOf
    rw [if_neg h, if_neg h]
    exact answer_bad ok g f v bs w hr h

end Go.Proofs.Ytmdimhijbmeioaa

