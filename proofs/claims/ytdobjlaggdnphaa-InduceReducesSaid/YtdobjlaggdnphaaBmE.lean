/- CONTRACTS: bits that are no number's cut off (trim); one word; the three ways to join. -/
import Derived.Test.YtdobjlaggdnphaaBmD
namespace Go.Proofs.Ytdobjlaggdnphaa
open Go.RowKit Go.Inc

/-- A set, with its words: none, or one that lies in blocks that are 'ok'. -/
def BmW (ok : Nat → Prop) (w : World) (v : Value) (m : List Bool) (W : List Nat) : Prop :=
  (v = .pointer none ∧ m = [] ∧ W = []) ∨ ∃ b g c, v = .pointer (some ⟨b, 0, none⟩) ∧ ok b ∧ ok g ∧ BmAt w b g c m.length W ∧ ∀ i, wbit W i = inB m i
section
variable {ok : Nat → Prop} {w w' : World} {v : Value} {m : List Bool} {W : List Nat}
theorem BmW.mv {F : Nat → Prop} (h : BmW ok w v m W) (hm : Mv F w w') (hk : ∀ i, ok i → ¬ F i) : BmW ok w' v m W := by
  rcases h with h | ⟨b, g, c, h1, h2, h3, h4, h5⟩
  · exact .inl h
  · exact .inr ⟨b, g, c, h1, h2, h3, h4.mv hm (hk b h2) (hk g h3), h5⟩
theorem BmW.below (h : BmW ok w v m W) (hb : Below w.heap.size w w') : BmW ok w' v m W := h.mv (F := fun _ => False) (Mv.of_below hb) fun _ _ => id
end
end Go.Proofs.Ytdobjlaggdnphaa

