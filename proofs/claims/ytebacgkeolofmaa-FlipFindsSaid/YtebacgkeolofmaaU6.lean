/- CONTRACTS OF THE READER: made over bytes; a number read; what is left, copied. CONTRACTS: a number or a signed one at the beginning of any bytes, and the rest. -/
import Derived.Test.YtebacgkeolofmaaU3
import Derived.Test.YtebacgkeolofmaaU0
import Derived.Lib.Zigzag
import Derived.IntWalk
import Derived.WalkMore
import Derived.Deep.LoopGhost
namespace Go.Proofs.Ytebacgkeolofmaa
open Go.RowKit Go.Inc

/-- A reader in a row of its own: what is left, and its fault. -/
def Rd (ok : Nat → Prop) (w : World) (g : Nat) (bs : List Nat) (f : Nat) : Prop :=
  ∃ a c, w.heap[g]? = some (.cells #[.slice a bs.length c, .int .i64 (f : Int)] 149 (0, 0)) ∧ Sl ok w a bs ∧ bs.length ≤ c ∧ c ≤ maxLen ∧ (a = none → c = 0)

theorem over_any (ok : Nat → Prop) (a : Option Addr) (c : Nat) (bs : List Nat) (w : World) (hs : Sl ok w a bs) (hc : bs.length ≤ c ∧ c ≤ maxLen) (hn : a = none → c = 0) :
    Calls Try.prog 81 #[.slice a bs.length c] w fun e w' => e = .returned (.pointer (some ⟨w.heap.size, 0, none⟩)) ∧ Rd ok w' w.heap.size bs 0 ∧ Below w.heap.size w w' := by
  have HS := hid hs
  clear hs
  have hn := hid hn
  go_enter Try.func81, Try.ntmps81
  go_wp2
  go_ret
  have hb : Below w.heap.size w (w.alloc (.cells #[.slice a bs.length c, .int .i64 0] 149)) := (Below.refl _ _).alloc (Nat.le_refl _) _
  exact ⟨rfl, ⟨a, c, heap_alloc_new w _, HS.out.below hb, hc.1, hc.2, hn.out⟩, hb⟩

set_option maxHeartbeats 1000000 in
theorem take_yes (ok : Nat → Prop) (g k f : Nat) (bs : List Nat) (w : World) (hr : Rd ok w g bs f) (hg : ∀ b, ok b → b ≠ g) (hk : k ≤ bs.length) (z : Int) (hz : z = k) :
    Calls Try.prog 92 #[.pointer (some ⟨g, 0, none⟩), .int .i64 z] w fun e w' => ∃ a' c', e = .returned (.tuple #[.slice a' k c', .bool true]) ∧ Sl ok w' a' (bs.take k) ∧ (a' = none → c' = 0) ∧ k ≤ c' ∧ c' ≤ maxLen ∧ Rd ok w' g (bs.drop k) f ∧ w.grownBy w' (some g) := by
  subst hz
  obtain ⟨a, c, hrow, hs, hc, hm, hn⟩ := hr
  have HN := hid hn
  have HS := hid hs
  have c0 : w.cell? ⟨g, 0, none⟩ = some (.slice a bs.length c) := cell_of_row w g 0 _ _ _ hrow
  have fz := frozen_of_row w g 0 _ _ hrow
  have HR := hid hrow
  clear hn hs hrow
  generalize hL : bs.length = L at *
  have HL := hid hL
  clear hL
  have hm' := hm
  unfold maxLen at hm'
  go_enter Try.func92, Try.ntmps92
  go_wp2
  all_goals
    go_ret2
    have hrow := HR.out
    have hL := HL.out
    subst hL
  · have hg1 : w.grownBy (w.setCell ⟨g, 0, none⟩ (.slice a (bs.length - k) 0)) (some g) := grown_setCell (grown_refl _ _) (.inl rfl) _
    have hS := HS.out.grown hg1 hg
    refine ⟨a, k, rfl, hS.front k, fun h => by have := HN.out h; omega, Nat.le_refl _, by unfold maxLen; omega, ⟨a, 0, ?_, hS.behind k a (fun h => by omega), by rw [List.length_drop]; omega, by omega, fun _ => rfl⟩, hg1⟩
    rw [List.length_drop]
    exact heap_setCell_same w g 0 _ _ _ hrow
  · have hg1 : w.grownBy (w.setCell ⟨g, 0, none⟩ (.slice (a.map (·.add k)) (bs.length - k) (c - k))) (some g) := grown_setCell (grown_refl _ _) (.inl rfl) _
    have hS := HS.out.grown hg1 hg
    refine ⟨a, c, rfl, hS.front k, HN.out, by omega, by unfold maxLen; omega, ⟨_, c - k, ?_, hS.behind k _ (fun _ => rfl), by rw [List.length_drop]; omega, by omega, fun h => by have := HN.out (by simpa using h); omega⟩, hg1⟩
    rw [List.length_drop]
    exact heap_setCell_same w g 0 _ _ _ hrow

theorem take_no (ok : Nat → Prop) (g f : Nat) (k : Int) (bs : List Nat) (w : World) (hr : Rd ok w g bs f) (hk : (bs.length : Int) < k) :
    Calls Try.prog 92 #[.pointer (some ⟨g, 0, none⟩), .int .i64 k] w fun e w' => e = .returned (.tuple #[.slice none 0 0, .bool false]) ∧ w = w' := by
  obtain ⟨a, c, hrow, hs, hc, hm, hn⟩ := hr
  have c0 : w.cell? ⟨g, 0, none⟩ = some (.slice a bs.length c) := cell_of_row w g 0 _ _ _ hrow
  clear hn hs hrow
  go_enter Try.func92, Try.ntmps92
  go_wp2
  go_ret2
  exact ⟨rfl, rfl⟩

theorem apart_any (ok : Nat → Prop) (g f : Nat) (bs : List Nat) (w : World) (hr : Rd ok w g bs f) (hl : bs.length ≤ 70368744177664) :
    Calls Try.prog 89 #[.pointer (some ⟨g, 0, none⟩)] w fun e w' => ∃ v, e = .returned v ∧ Row 5 w.heap.size w' v bs ∧ Below w.heap.size w w' := by
  obtain ⟨a, c, hrow, hs, hc, hm, hn⟩ := hr
  have c0 : w.cell? ⟨g, 0, none⟩ = some (.slice a bs.length c) := cell_of_row w g 0 _ _ _ hrow
  have H := hid (clone_any ok a c bs w hs (by omega) hn)
  clear hn hs hrow
  go_enter Try.func89, Try.ntmps89
  go_wp2_with fail
  refine H.out.mono ?_
  rintro e w' ⟨v, rfl, hr, hb⟩
  have HR : Hid (Row 5 w.heap.size w' v bs) := hid hr
  clear hr
  go_wp2_with fail
  go_ret
  exact ⟨_, rfl, HR.out, hb⟩

/-- What reading a number leaves, and the fault behind it. -/
def leftOf (G : Nat) (bs : List Nat) : List Nat := if Var.err G bs = 0 then bs.drop (Var.pos G bs) else bs
def faultOf (G f : Nat) (bs : List Nat) : Nat := if Var.err G bs = 0 then f else Var.err G bs
def Read (ok : Nat → Prop) (G g f : Nat) (bs : List Nat) (w w' : World) : Prop := Rd ok w' g (leftOf G bs) (faultOf G f bs) ∧ w.grownBy w' (some g)

end Go.Proofs.Ytebacgkeolofmaa
namespace Go.Proofs.Ytebacgkeolofmaa
open Go.RowKit Go.Inc

/-- What of the bytes is the rest. -/
def restOf (f : Nat) (bs : List Nat) : List Nat := if f = 0 then bs else []
/-- Three results: the value where nothing is wrong, the rest, the fault. -/
def Ans (u : Value) (f : Nat) (rest : List Nat) (B : Nat) (e : Ending) (w' : World) : Prop :=
  ∃ v, e = .returned (.tuple #[u, v, .int .i64 (f : Int)]) ∧ Row 5 B w' v rest

theorem answer_good (ok : Nat → Prop) (g : Nat) (v : Int) (bs : List Nat) (w : World) (hr : Rd ok w g bs 0) (hl : bs.length ≤ 70368744177664) :
    Calls Try.prog 82 #[.pointer (some ⟨g, 0, none⟩), .int .i64 v] w fun e w' => Ans (.int .i64 v) 0 bs w.heap.size e w' ∧ Below w.heap.size w w' := by
  have H := hid (apart_any ok g 0 bs w hr hl)
  obtain ⟨a, c, hrow, hs, hc, hm, hn⟩ := hr
  have c1 : w.cell? ⟨g, 1, none⟩ = some (.int .i64 0) := cell_of_row w g 1 _ _ _ hrow
  clear hn hs hrow
  go_enter Try.func82, Try.ntmps82
  go_wp2_with fail
  refine H.out.mono ?_
  rintro e w' ⟨u, rfl, hr, hb⟩
  have HR := hid hr
  clear hr
  go_wp2_with fail
  go_ret3
  exact ⟨⟨_, rfl, HR.out⟩, hb⟩
theorem answer_bad (ok : Nat → Prop) (g f : Nat) (v : Int) (bs : List Nat) (w : World) (hr : Rd ok w g bs f) (hf : f ≠ 0) :
    Calls Try.prog 82 #[.pointer (some ⟨g, 0, none⟩), .int .i64 v] w fun e w' => Ans (.int .i64 0) f [] w.heap.size e w' ∧ Below w.heap.size w w' := by
  obtain ⟨a, c, hrow, hs, hc, hm, hn⟩ := hr
  have c1 : w.cell? ⟨g, 1, none⟩ = some (.int .i64 (f : Int)) := cell_of_row w g 1 _ _ _ hrow
  have hf1 : ((f : Int) != 0) = true := by rw [bne_iff_ne]; omega
  clear hn hs hrow hf
  go_enter Try.func82, Try.ntmps82
  go_wp2_with fail
  go_quiet (fail)
  go_wp2_with fail
  go_ret3
  exact ⟨⟨_, rfl, Row.nil _ _ _⟩, ⟨rfl, rfl, rfl, Nat.le_refl _, fun _ _ => rfl⟩⟩
/-- A number where nothing is wrong. -/
def okInt (f : Nat) (v : Int) : Int := if f = 0 then v else 0
theorem answer_any (ok : Nat → Prop) (g f : Nat) (v : Int) (bs : List Nat) (w : World) (hr : Rd ok w g bs f) (hl : bs.length ≤ 70368744177664) :
    Calls Try.prog 82 #[.pointer (some ⟨g, 0, none⟩), .int .i64 v] w fun e w' => Ans (.int .i64 (okInt f v)) f (restOf f bs) w.heap.size e w' ∧ Below w.heap.size w w' := by
  by_cases h : f = 0
  · subst h
    exact answer_good ok g v bs w hr hl
  · unfold okInt restOf
    rw [if_neg h, if_neg h]
    exact answer_bad ok g f v bs w hr h

end Go.Proofs.Ytebacgkeolofmaa
