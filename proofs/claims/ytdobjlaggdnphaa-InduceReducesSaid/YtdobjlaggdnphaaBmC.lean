/- CONTRACTS: Add, Drop: numbers put in, taken out. -/
import Derived.Test.YtdobjlaggdnphaaBmA
import Derived.Deep.CutBlock
namespace Go.Proofs.Ytdobjlaggdnphaa
open Go.RowKit Go.Inc

theorem mv_setCell {F : Nat → Prop} {a w : World} (h : Mv F a w) {g q : Nat} (hg : F g) (u : Value) : Mv F a (w.setCell ⟨g, q, none⟩ u) :=
  h.trans' ⟨rfl, rfl, rfl, by simp [World.setCell], fun i _ hn => Below.heap_setCell _ _ _ _ (fun e => hn e)⟩ fun i _ (hf : i = g) => by subst hf; exact hg
end Go.Proofs.Ytdobjlaggdnphaa

