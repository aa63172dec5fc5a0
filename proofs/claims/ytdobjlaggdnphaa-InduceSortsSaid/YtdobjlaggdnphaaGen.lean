/- SMALL LAWS: lists of numbers; rows and slices of numbers. No program is named here. -/
import Derived.Test.YtdobjlaggdnphaaBmLib
import Derived.Test.YtdobjlaggdnphaaDevLib
namespace Go.Inc
open Go.RowKit

theorem snocMem {α : Type} {l : List α} {z i : α} : i ∈ l ++ [z] ↔ i ∈ l ∨ i = z := by simp
theorem snocNodup {l : List Int} {z : Int} : (l ++ [z]).Nodup ↔ l.Nodup ∧ z ∉ l := by
  rw [List.nodup_append]
  constructor
  · rintro ⟨h1, _, h3⟩
    exact ⟨h1, fun h => h3 z h z (by simp) rfl⟩
  · rintro ⟨h1, h2⟩
    refine ⟨h1, by simp, fun a ha b hb e => ?_⟩
    simp at hb
    subst hb; subst e
    exact h2 ha
theorem nodupTake {zs : List Int} {k : Nat} (h : ¬ (zs.take k).Nodup) : ¬ zs.Nodup := fun hn => h (hn.sublist (List.take_sublist _ _))
theorem memGetD {α : Type} {zs : List α} {d : α} {k : Nat} (h : k < zs.length) : zs.getD k d ∈ zs := by
  rw [List.getD_eq_getElem?_getD, List.getElem?_eq_getElem h]
  exact List.getElem_mem h
theorem takeSnoc {α : Type} {bs : List α} {d : α} {k : Nat} (h : k < bs.length) : bs.take (k + 1) = bs.take k ++ [bs.getD k d] := by
  rw [List.take_succ_eq_append_getElem h, List.getD_eq_getElem?_getD, List.getElem?_eq_getElem h]; rfl
theorem siCell {okz : Nat → Prop} {w : World} {a : Option Addr} {zs : List Int} (h : Si okz w a zs) {k : Nat} (hk : k < zs.length) : ∃ b o, a = some ⟨b, o, none⟩ ∧ w.cell? ⟨b, o + k, none⟩ = some (.int .i64 (zs.getD k 0)) := by
  rcases h with h | ⟨b, o, h, _, hc⟩
  · rw [h] at hk; simp at hk
  · exact ⟨b, o, h, hc k hk⟩
theorem siMv {F : Nat → Prop} {ok : Nat → Prop} {w w' : World} {p : Option Addr} {zs : List Int} (h : Si ok w p zs) (hm : Mv F w w') (hk : ∀ i, ok i → ¬ F i) : Si ok w' p zs :=
  h.kept fun i hi hlt => hm.block i hlt (hk i hi)
theorem ownBase {W : World} {B e s n : Nat} {v : Value} {x : List Value} (h : W.ownsRow B e s v n x) {g : Nat} (hg : v.ownBlock = some g) : B ≤ g := by
  rcases h.2 with ⟨rfl, _⟩ | ⟨g', cap, cur, rfl, hb, _⟩
  · simp [Value.ownBlock] at hg
  · obtain rfl : g' = g := by simpa [Value.ownBlock] using hg
    exact hb
theorem ownSelf {W : World} {B e s n c k : Nat} {g : Nat} {x : List Value} (h : W.ownsRow B e s (.slice (some ⟨g, 0, none⟩) n c) k x) : W.ownsRow g e s (.slice (some ⟨g, 0, none⟩) n c) k x :=
  ⟨h.1, h.2.imp id fun ⟨g', cap, cur, h1, _, r⟩ => ⟨g', cap, cur, h1, (by cases h1; exact Nat.le_refl _), r⟩⟩
theorem allocBelow (w : World) (o : Obj) : Below w.heap.size w (w.alloc o) := (Below.refl _ _).alloc (Nat.le_refl _) _
theorem belowDrew (w : World) (n : Nat) : Below w.heap.size w (w.drewN n) := ⟨rfl, rfl, rfl, Nat.le_refl _, fun _ _ => rfl⟩
theorem mvSet {F : Nat → Prop} {a w : World} (h : Mv F a w) {g q : Nat} (hg : F g) (u : Value) : Mv F a (w.setCell ⟨g, q, none⟩ u) :=
  h.trans' ⟨rfl, rfl, rfl, by simp [World.setCell], fun i _ hn => Below.heap_setCell _ _ _ _ (fun e => hn e)⟩ fun i _ (hf : i = g) => by subst hf; exact hg
theorem siOne (w : World) (z : Int) (T : TypeId) : Si (fun b => b = w.heap.size) (w.alloc (.cells #[.int .i64 z] T)) (some ⟨w.heap.size, 0, none⟩) [z] :=
  .inr ⟨_, _, rfl, rfl, fun i hi => by
    have h0 : i = 0 := by simp at hi; omega
    subst h0
    rw [cell_of_row _ w.heap.size _ _ _ _ (heap_alloc_new w _)]; rfl⟩
theorem newCells (w : World) (l : List Value) (T : TypeId) : ∀ j u, l[j]? = some u → (w.alloc (.cells l.toArray T)).cell? ((⟨w.heap.size, 0, none⟩ : Addr).add j) = some u := by
  intro j u hu
  rw [Addr.add_lit, cell_of_row _ _ _ _ _ _ (heap_alloc_new w _)]
  simpa using hu
/-- Numbers in a row of the call's own: integers. -/
def zvals (l : List Int) : List Value := l.map fun x => Value.int .i64 x
theorem zvals_len (l : List Int) : (zvals l).length = l.length := by simp [zvals]
theorem zvals_app (l l' : List Int) : zvals (l ++ l') = zvals l ++ zvals l' := by simp [zvals]
theorem zvals_one (l : List Int) : ∀ u ∈ zvals l, u.oneCell' = true := by
  intro u hu
  obtain ⟨_, _, rfl⟩ := List.mem_map.1 hu
  rfl
theorem zvals_get {l : List Int} {i : Nat} (h : i < l.length) : (zvals l)[i]? = some (.int .i64 (l.getD i 0)) := by
  rw [List.getD_eq_getElem?_getD, List.getElem?_eq_getElem h]
  simp [zvals, h]
/-- What it looks like. -/
theorem ownedZ {W : World} {B e n : Nat} {v : Value} {l : List Int} (h : W.ownsRow B e 1 v n (zvals l)) : ∃ a c, v = .slice a l.length c ∧ n = l.length ∧ Si (fun b => B ≤ b) W a l ∧ l.length ≤ c ∧ c ≤ maxLen ∧ (a = none → c = 0) := by
  have hn : n = l.length := by have := h.1; rw [zvals_len] at this; omega
  subst hn
  rcases h.2 with ⟨rfl, h0⟩ | ⟨g, cap, cur, rfl, hb, hg, hnc, hm, hcs, ht⟩
  · exact ⟨none, 0, by rw [h0], rfl, .inl (List.eq_nil_of_length_eq_zero h0), by omega, Nat.zero_le _, fun _ => rfl⟩
  · refine ⟨_, cap, rfl, rfl, .inr ⟨g, 0, rfl, hb, fun i hi => ?_⟩, hnc, hm, fun h => by cases h⟩
    have hc := h.cells (g := g) rfl i _ (zvals_get hi)
    rwa [Addr.add_lit] at hc
end Go.Inc

