/- CONTRACTS OVER VALUES (layer 15): the document's calls, told of a slice's value; the numbers cut short. -/
import Derived.Test.YtdobjlaggdnphaaSfK
namespace Go.Proofs.Ytdobjlaggdnphaa
open Go.RowKit Go.Inc
theorem same_so (ok ok' : Nat → Prop) (x : World) (v v' : Value) (xs ys : List Int) (h : So ok x v xs) (h' : So ok' x v' ys) (hl : (xs.length : Int) ≤ 65536) :
    Calls Try.prog 17 #[v, v'] x fun e w' => e = .returned (.bool (decide (xs = ys))) ∧ Below x.heap.size x w' := by
  obtain ⟨a, c, rfl, hs, -⟩ := h
  obtain ⟨b, d, rfl, hs', -⟩ := h'
  exact refSame_any ok ok' a b c d xs ys x hs hs' (by omega)
theorem refCheck_so (ok : Nat → Prop) (x : World) (v : Value) (zs : List Int) (h : So ok x v zs) (hl : zs.length ≤ 65536) :
    Calls Try.prog 25 #[v] x fun e w' => e = .returned (.int .i64 ((ckT zs : Nat) : Int)) ∧ x = w' := by
  obtain ⟨a, c, rfl, hs, -⟩ := h
  exact refCheck_any ok x a c zs hs (by omega)
theorem refTurned_so (ok : Nat → Prop) (x : World) (v : Value) (zs : List Int) (h : So ok x v zs) (hl : zs.length ≤ 65536) :
    Calls Try.prog 28 #[v] x fun e w' => ∃ u, e = .returned (.tuple #[u, .bool (decide (okT zs))]) ∧ (okT zs → So (fun g => x.heap.size ≤ g) w' u (zsN (tnT zs))) ∧ Below x.heap.size x w' := by
  obtain ⟨a, c, rfl, hs, -⟩ := h
  refine (refTurned_any ok x a c zs hs (by omega)).mono ?_
  rintro e w' ⟨u, rfl, h1, h2⟩
  exact ⟨u, rfl, fun hok => So.ownedN (h1 hok), h2⟩
theorem refSort_so (ok : Nat → Prop) (x : World) (v : Value) (zs : List Int) (h : So ok x v zs) (hl : zs.length ≤ 65536) (hr : RtL zs) :
    Calls Try.prog 24 #[v] x fun e w' => ∃ u, e = .returned u ∧ So (fun g => x.heap.size ≤ g) w' u (zsN (srT zs zs.length)) ∧ Below x.heap.size x w' := by
  obtain ⟨a, c, rfl, hs, -⟩ := h
  refine (refSort_any ok x a c zs hs hr (by omega)).mono ?_
  rintro e w' ⟨u, rfl, h1, h2⟩
  exact ⟨u, rfl, So.ownedN h1, h2⟩
theorem refFirsts_so (ok : Nat → Prop) (x : World) (v : Value) (zs : List Int) (h : So ok x v zs) (hl : zs.length ≤ 65536) (hr : RtL zs) :
    Calls Try.prog 14 #[v] x fun e w' => ∃ u, e = .returned u ∧ So (fun g => x.heap.size ≤ g) w' u (zsN (fsT zs zs.length)) ∧ Below x.heap.size x w' := by
  obtain ⟨a, c, rfl, hs, -⟩ := h
  refine (refFirsts_any ok x a c zs hs hr (by omega)).mono ?_
  rintro e w' ⟨u, rfl, h1, h2⟩
  exact ⟨u, rfl, So.ownedN h1, h2⟩
theorem refKinds_so (ok : Nat → Prop) (x : World) (v : Value) (zs : List Int) (h : So ok x v zs) (hl : zs.length ≤ 65536) (hr : RtL zs) :
    Calls Try.prog 32 #[v] x fun e w' => ∃ a c, e = .returned (.slice a zs.length c) ∧ Bl (fun g => x.heap.size ≤ g) w' a (kdTo zs zs.length) ∧ Below x.heap.size x w' := by
  obtain ⟨a, c, rfl, hs, -⟩ := h
  refine (refKinds_any ok x a c zs hs hr (by omega)).mono ?_
  rintro e w' ⟨u, rfl, h1, h2⟩
  obtain ⟨a, c, rfl, -, -, -, -, h3⟩ := Bl.owned h1
  exact ⟨a, c, by rw [kdTo_len], h3, h2⟩
theorem refLess_so (ok : Nat → Prop) (x : World) (v : Value) (zs : List Int) (a b : Nat) (h : So ok x v zs) (hl : zs.length ≤ 65536) (hr : RtL zs) (ha : a < zs.length) (hb : b < zs.length) :
    Calls Try.prog 27 #[v, .int .i64 (a : Int), .int .i64 (b : Int)] x fun e w' => e = .returned (.bool (lsT zs a b)) ∧ Below x.heap.size x w' := by
  obtain ⟨p, c, rfl, hs, -⟩ := h
  exact refLess_any ok x p c zs a b hs hr (by omega) ha hb
end Go.Proofs.Ytdobjlaggdnphaa

