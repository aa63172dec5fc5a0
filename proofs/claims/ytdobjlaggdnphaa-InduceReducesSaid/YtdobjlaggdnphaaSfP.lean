/- WHAT IS ASKED OF THE PROGRAM'S CALLS (layer 15): their contracts, in one place, to be proved of what lands. -/
import Derived.Test.YtdobjlaggdnphaaSfC
import Derived.Test.YtdobjlaggdnphaaSfD
namespace Go.Inc
open Go.RowKit
/-- A slice of these integers. -/
def So (ok : Nat → Prop) (w : World) (v : Value) (zs : List Int) : Prop := ∃ a c, v = .slice a zs.length c ∧ Si ok w a zs ∧ zs.length ≤ c ∧ c ≤ maxLen ∧ (a = none → c = 0)
def i64s (z : Int) : Prop := -9223372036854775808 ≤ z ∧ z ≤ 9223372036854775807
theorem So.below {ok : Nat → Prop} {w w' : World} {v : Value} {zs : List Int} (h : So ok w v zs) (hb : Below w.heap.size w w') : So ok w' v zs := by
  obtain ⟨a, c, h1, h2, h3⟩ := h
  exact ⟨a, c, h1, h2.below hb, h3⟩
theorem So.mono {ok ok' : Nat → Prop} {w : World} {v : Value} {zs : List Int} (h : So ok w v zs) (hk : ∀ b, ok b → b < w.heap.size → ok' b) : So ok' w v zs := by
  obtain ⟨a, c, h1, h2, h3⟩ := h
  exact ⟨a, c, h1, h2.mono hk, h3⟩
theorem So.ownedN {w : World} {B n : Nat} {v : Value} {l : List Nat} {e : TypeId} (h : w.ownsRow B e 1 v n (nvals l)) : So (fun b => B ≤ b) w v (zsN l) := by
  obtain ⟨a, c, h1, -, h3, h4, h5, h6⟩ := Si.ownedN h
  exact ⟨a, c, by rw [zsN_len]; exact h1, h6, by rw [zsN_len]; exact h4, h5, h3⟩
end Go.Inc
namespace Go.Proofs.Ytdobjlaggdnphaa
open Go.RowKit Go.Inc
end Go.Proofs.Ytdobjlaggdnphaa

