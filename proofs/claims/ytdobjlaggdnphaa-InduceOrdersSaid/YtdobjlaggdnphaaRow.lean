/- ROWS OF BYTES OF THE CALL'S OWN; SLICES OF NUMBERS. No program is named here. -/
import Derived.Test.YtdobjlaggdnphaaLib
namespace Go.Inc
open Go.RowKit

theorem own_weaken {w : World} {b b' e s n : Nat} {v : Value} {x : List Value} (h : w.ownsRow b e s v n x) (hb : b' ≤ b) : w.ownsRow b' e s v n x :=
  ⟨h.1, h.2.imp id fun ⟨g, cap, cur, h1, h2, r⟩ => ⟨g, cap, cur, h1, Nat.le_trans hb h2, r⟩⟩
theorem own_cap {w : World} {B e n c m : Nat} {a : Option Addr} {x : List Value} (h : w.ownsRow B e 1 (.slice a n c) m x) : n ≤ c ∧ c ≤ maxLen := by
  rcases h.2 with ⟨h, _⟩ | ⟨g, cap', cur, h, _, _, h1, h2, _⟩
  · simp only [Value.slice.injEq] at h
    unfold maxLen
    omega
  · simp only [Value.slice.injEq] at h
    omega
theorem u8s_get {bs : List Nat} {k : Nat} (h : k < bs.length) : (u8s bs)[k]? = some (.int .u8 ((bs.getD k 0 : Nat) : Int)) := by
  rw [List.getD_eq_getElem?_getD, List.getElem?_eq_getElem h]
  simp [u8s, h]
theorem u8s_set (bs : List Nat) (k x : Nat) : (u8s bs).set k (.int .u8 (x : Int)) = u8s (bs.set k x) := by
  simp [u8s, List.map_set]

/-- A slice of bytes in a row of the call's own, above B. -/
def Row (E B : Nat) (w : World) (v : Value) (bs : List Nat) : Prop := w.ownsRow B E 1 v bs.length (u8s bs)
section
variable {E B B' : Nat} {w w' : World} {v : Value} {bs : List Nat}
theorem Row.nil (E B : Nat) (w : World) : Row E B w (.slice none 0 0) [] := World.ownsRow_nil _ _ _ _
theorem Row.weaken (h : Row E B w v bs) (hb : B' ≤ B) : Row E B' w v bs := own_weaken h hb
/-- What it looks like. -/
theorem Row.sl (h : Row E B w v bs) : ∃ a c, v = .slice a bs.length c ∧ (a = none → c = 0) ∧ bs.length ≤ c ∧ c ≤ maxLen ∧ Sl (fun b => B ≤ b) w a bs := by
  obtain ⟨a, c, rfl, _, hn, hs⟩ := Sl.owned h
  have hc := own_cap h
  exact ⟨a, c, rfl, hn, hc.1, hc.2, hs.mono fun _ h _ => h.1⟩
theorem Row.kept (h : Row E B w v bs) (hg : Below w.heap.size w w') : Row E B w' v bs := by
  have h' : w.grownBy w' none := ⟨hg.os, hg.tape, hg.output, hg.size, fun i hi _ => hg.block i hi⟩
  refine World.ownsRow.kept h h' ?_
  cases hv : v.ownBlock with
  | none => exact .inl rfl
  | some _ => exact .inr (by simp)
end

/-- A slice's address leads to these integers, in a block that is 'ok'. -/
def Si (ok : Nat → Prop) (w : World) (a : Option Addr) (zs : List Int) : Prop :=
  zs = [] ∨ ∃ b off, a = some ⟨b, off, none⟩ ∧ ok b ∧ ∀ i, i < zs.length → w.cell? ⟨b, off + i, none⟩ = some (.int .i64 (zs.getD i 0))
section
variable {ok ok' : Nat → Prop} {w w' : World} {a : Option Addr} {zs : List Int}
theorem Si.nil (ok : Nat → Prop) (w : World) (a : Option Addr) : Si ok w a [] := .inl rfl
theorem Si.mono (h : Si ok w a zs) (hk : ∀ b, ok b → b < w.heap.size → ok' b) : Si ok' w a zs := by
  rcases h with h | ⟨b, off, ha, hb, hc⟩
  · exact .inl h
  · by_cases h0 : zs = []
    · exact .inl h0
    · exact .inr ⟨b, off, ha, hk b hb (cell_lt (hc 0 (by cases zs <;> simp_all))), hc⟩
theorem Si.kept (h : Si ok w a zs) (hb : ∀ b, ok b → b < w.heap.size → w'.heap[b]? = w.heap[b]?) : Si ok w' a zs := by
  rcases h with h | ⟨b, off, rfl, hk, hc⟩
  · exact .inl h
  · by_cases h0 : zs = []
    · exact .inl h0
    · refine .inr ⟨b, off, rfl, hk, fun i hi => ?_⟩
      have h0 := hc 0 (by cases zs <;> simp_all)
      rw [← hc i hi]
      exact World.cell?_of_block (hb b hk (cell_lt h0))
theorem Si.below (h : Si ok w a zs) (hb : Below w.heap.size w w') : Si ok w' a zs := h.kept fun b _ hlt => hb.block b hlt
theorem Si.grown {r : Nat} (h : Si ok w a zs) (hg : w.grownBy w' (some r)) (hr : ∀ b, ok b → b ≠ r) : Si ok w' a zs :=
  h.kept fun b hk hlt => hg.block b hlt (by intro e; cases e; exact hr _ hk rfl)
theorem Si.front (h : Si ok w a zs) (k : Nat) : Si ok w a (zs.take k) := by
  rcases h with rfl | ⟨b, off, rfl, hk, hc⟩
  · left; simp
  · refine .inr ⟨b, off, rfl, hk, fun i hi => ?_⟩
    simp only [List.length_take] at hi
    rw [hc i (by omega), List.getD_eq_getElem?_getD, List.getD_eq_getElem?_getD, List.getElem?_take, if_pos (by omega)]
end
/-- What stands behind the first k bytes; at the end the address may be the old one. -/
theorem Sl.behind {ok : Nat → Prop} {w : World} {a : Option Addr} {bs : List Nat} (h : Sl ok w a bs) (k : Nat) (a' : Option Addr) (ha : k < bs.length → a' = a.map (·.add k)) : Sl ok w a' (bs.drop k) := by
  by_cases hk : k < bs.length
  · rcases h with rfl | ⟨b, off, rfl, hok, hc⟩
    · simp at hk
    · refine .inr ⟨b, off + k, by rw [ha hk]; simp [Addr.add], hok, fun i hi => ?_⟩
      simp only [List.length_drop] at hi
      rw [Nat.add_assoc, hc (k + i) (by omega), List.getD_eq_getElem?_getD, List.getD_eq_getElem?_getD, List.getElem?_drop]
  · left
    exact List.drop_eq_nil_of_le (by omega)
end Go.Inc

