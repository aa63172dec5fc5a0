/- SLICES OF BOOLS, OWN ROWS OF NUMBERS. No program is named here. -/
import Derived.Test.YtdobjlaggdnphaaBmMath
import Derived.Test.YtdobjlaggdnphaaRow
namespace Go.Inc
open Go.RowKit

def bvals (m : List Bool) : List Value := m.map Value.bool
theorem bvals_len (m : List Bool) : (bvals m).length = m.length := by simp [bvals]
theorem bvals_one (m : List Bool) : ∀ u ∈ bvals m, u.oneCell' = true := by
  intro u hu
  obtain ⟨_, _, rfl⟩ := List.mem_map.1 hu
  rfl
theorem bvals_set (m : List Bool) (i : Nat) (b : Bool) : (bvals m).set i (.bool b) = bvals (m.set i b) := by simp [bvals, List.map_set]
theorem bvals_get {m : List Bool} {i : Nat} (h : i < m.length) : (bvals m)[i]? = some (.bool (inB m i)) := by
  unfold inB
  rw [List.getD_eq_getElem?_getD, List.getElem?_eq_getElem h]
  simp [bvals, h]
theorem bvals_zeros (n : Nat) : (madeCells #[Value.bool false] n).toList = bvals (List.replicate n false) := by
  apply List.ext_getElem?
  intro i
  by_cases h : i < n
  · simp [madeCells, bvals, h, Nat.mod_one]
  · simp [madeCells, bvals, h]
theorem inB_zeros (n i : Nat) : inB (List.replicate n false) i = false := by
  unfold inB
  rw [List.getD_eq_getElem?_getD, List.getElem?_replicate]
  split <;> rfl

/-- A slice's address leads to these bools, in a block that is 'ok'. -/
def Bl (ok : Nat → Prop) (w : World) (a : Option Addr) (m : List Bool) : Prop := m = [] ∨ ∃ b o, a = some ⟨b, o, none⟩ ∧ ok b ∧ ∀ i, i < m.length → w.cell? ⟨b, o + i, none⟩ = some (.bool (inB m i))
section
variable {ok ok' : Nat → Prop} {w w' : World} {a : Option Addr} {m : List Bool} {B n : Nat} {v : Value} {e : TypeId}
theorem Bl.nil (ok : Nat → Prop) (w : World) (a : Option Addr) : Bl ok w a [] := .inl rfl
theorem Bl.mono (h : Bl ok w a m) (hk : ∀ b, ok b → b < w.heap.size → ok' b) : Bl ok' w a m := by
  rcases h with h | ⟨b, o, h1, h2, h3⟩
  · exact .inl h
  · by_cases hm : m = []
    · exact .inl hm
    · exact .inr ⟨b, o, h1, hk b h2 (cell_lt (h3 0 (List.length_pos_iff.2 hm))), h3⟩
theorem Bl.kept (h : Bl ok w a m) (hb : ∀ b, ok b → b < w.heap.size → w'.heap[b]? = w.heap[b]?) : Bl ok w' a m := by
  rcases h with h | ⟨b, o, h1, h2, h3⟩
  · exact .inl h
  · by_cases hm : m = []
    · exact .inl hm
    · have hbb := hb b h2 (cell_lt (h3 0 (List.length_pos_iff.2 hm)))
      exact .inr ⟨b, o, h1, h2, fun i hi => by
        have := h3 i hi
        simp only [World.cell?, hbb] at this ⊢
        exact this⟩
theorem Bl.below (h : Bl ok w a m) (hb : Below w.heap.size w w') : Bl ok w' a m := h.kept fun b _ hlt => hb.block b hlt
theorem Bl.owned (h : w.ownsRow B e 1 v n (bvals m)) : ∃ a c, v = .slice a m.length c ∧ n = m.length ∧ (a = none → c = 0) ∧ m.length ≤ c ∧ c ≤ maxLen ∧ Bl (fun b => B ≤ b) w a m := by
  have hn : n = m.length := by have := h.1; rw [bvals_len] at this; omega
  subst hn
  rcases h.2 with ⟨rfl, h0⟩ | ⟨g, cap, cur, rfl, hb, hg, hnc, hm, hcs, ht⟩
  · exact ⟨none, 0, by rw [h0], rfl, fun _ => rfl, by omega, Nat.zero_le _, .inl (List.eq_nil_of_length_eq_zero h0)⟩
  · refine ⟨_, cap, rfl, rfl, (fun h => by cases h), hnc, hm, .inr ⟨g, 0, rfl, hb, fun i hi => ?_⟩⟩
    have hc := h.cells (g := g) rfl i (.bool (inB m i)) (bvals_get hi)
    rwa [Addr.add_lit] at hc
end

/-- Numbers as cells. -/
def nvals (l : List Nat) : List Value := l.map fun x : Nat => Value.int .i64 (x : Int)
theorem nvals_len (l : List Nat) : (nvals l).length = l.length := by simp [nvals]
theorem nvals_snoc (l : List Nat) (x : Nat) : nvals (l ++ [x]) = nvals l ++ [.int .i64 (x : Int)] := by simp [nvals]
theorem nvals_get {l : List Nat} {i : Nat} (h : i < l.length) : (nvals l)[i]? = some (.int .i64 ((l.getD i 0 : Nat) : Int)) := by
  rw [List.getD_eq_getElem?_getD, List.getElem?_eq_getElem h]
  simp [nvals, h]
theorem Si.ownedN {w : World} {B n : Nat} {v : Value} {l : List Nat} {e : TypeId} (h : w.ownsRow B e 1 v n (nvals l)) : ∃ a c, v = .slice a l.length c ∧ n = l.length ∧ (a = none → c = 0) ∧ l.length ≤ c ∧ c ≤ maxLen ∧ Si (fun b => B ≤ b) w a (l.map fun x : Nat => (x : Int)) := by
  have hn : n = l.length := by have := h.1; rw [nvals_len] at this; omega
  subst hn
  rcases h.2 with ⟨rfl, h0⟩ | ⟨g, cap, cur, rfl, hb, hg, hnc, hm, hcs, ht⟩
  · refine ⟨none, 0, by rw [h0], rfl, fun _ => rfl, by omega, Nat.zero_le _, .inl ?_⟩
    rw [List.eq_nil_of_length_eq_zero h0]; rfl
  · refine ⟨_, cap, rfl, rfl, (fun h => by cases h), hnc, hm, .inr ⟨g, 0, rfl, hb, fun i hi => ?_⟩⟩
    rw [List.length_map] at hi
    have hc := h.cells (g := g) rfl i _ (nvals_get hi)
    rw [Addr.add_lit] at hc
    rw [hc]
    congr 2
    simp only [List.getD_eq_getElem?_getD, List.getElem?_map]
    cases l[i]? <;> rfl
end Go.Inc

