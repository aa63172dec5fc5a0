/- CONTRACTS: Add, Drop: numbers put in, taken out. CONTRACTS: Add and Drop on none; New. CONTRACTS: bits that are no number's cut off (trim); one word; the three ways to join. -/
import Derived.Test.YtmllpednaibeeaaU4
import Derived.Deep.CutBlock
namespace Go.Proofs.Ytmllpednaibeeaa
open Go.RowKit Go.Inc

theorem mv_setCell {F : Nat → Prop} {a w : World} (h : Mv F a w) {g q : Nat} (hg : F g) (u : Value) : Mv F a (w.setCell ⟨g, q, none⟩ u) :=
  h.trans' ⟨rfl, rfl, rfl, by simp [World.setCell], fun i _ hn => Below.heap_setCell _ _ _ _ (fun e => hn e)⟩ fun i _ (hf : i = g) => by subst hf; exact hg
end Go.Proofs.Ytmllpednaibeeaa
namespace Go.Proofs.Ytmllpednaibeeaa
open Go.RowKit Go.Inc

/-- A set is there, new. -/
def NewSet (W0 : Nat) (w' : World) (v : Value) (m : List Bool) : Prop :=
  ∃ b g c W, v = .pointer (some ⟨b, 0, none⟩) ∧ W0 ≤ b ∧ W0 ≤ g ∧ BmAt w' b g c m.length W ∧ ∀ i, wbit W i = inB m i
theorem NewSet.below {W0 : Nat} {w' w2 : World} {v : Value} {m : List Bool} (h : NewSet W0 w' v m) (hb : Below w'.heap.size w' w2) : NewSet W0 w2 v m := by
  obtain ⟨b, g, c, W, h1, h2, h3, h4, h5⟩ := h
  exact ⟨b, g, c, W, h1, h2, h3, h4.below hb, h5⟩
end Go.Proofs.Ytmllpednaibeeaa
namespace Go.Proofs.Ytmllpednaibeeaa
open Go.RowKit Go.Inc

/-- A set, with its words: none, or one that lies in blocks that are 'ok'. -/
def BmW (ok : Nat → Prop) (w : World) (v : Value) (m : List Bool) (W : List Nat) : Prop :=
  (v = .pointer none ∧ m = [] ∧ W = []) ∨ ∃ b g c, v = .pointer (some ⟨b, 0, none⟩) ∧ ok b ∧ ok g ∧ BmAt w b g c m.length W ∧ ∀ i, wbit W i = inB m i
section
variable {ok : Nat → Prop} {w w' : World} {v : Value} {m : List Bool} {W : List Nat}
theorem BmW.mv {F : Nat → Prop} (h : BmW ok w v m W) (hm : Mv F w w') (hk : ∀ i, ok i → ¬ F i) : BmW ok w' v m W := by
  rcases h with h | ⟨b, g, c, h1, h2, h3, h4, h5⟩
  · exact .inl h
  · exact .inr ⟨b, g, c, h1, h2, h3, h4.mv hm (hk b h2) (hk g h3), h5⟩
theorem BmW.below (h : BmW ok w v m W) (hb : Below w.heap.size w w') : BmW ok w' v m W := h.mv (F := fun _ => False) (Mv.of_below hb) fun _ _ => id
end
end Go.Proofs.Ytmllpednaibeeaa
