/- CONTRACTS: Add, Drop: numbers put in, taken out. -/
import Derived.Test.YtclpoconppmapaaBmB
import Derived.Deep.CutBlock
namespace Go.Proofs.Ytclpoconppmapaa
open Go.RowKit Go.Inc

theorem si_mv {F : Nat → Prop} {ok : Nat → Prop} {w w' : World} {p : Option Addr} {zs : List Int} (h : Si ok w p zs) (hm : Mv F w w') (hk : ∀ i, ok i → ¬ F i) : Si ok w' p zs :=
  h.kept fun i hi hlt => hm.block i hlt (hk i hi)
theorem mv_setCell {F : Nat → Prop} {a w : World} (h : Mv F a w) {g q : Nat} (hg : F g) (u : Value) : Mv F a (w.setCell ⟨g, q, none⟩ u) :=
  h.trans' ⟨rfl, rfl, rfl, by simp [World.setCell], fun i _ hn => Below.heap_setCell _ _ _ _ (fun e => hn e)⟩ fun i _ (hf : i = g) => by subst hf; exact hg
end Go.Proofs.Ytclpoconppmapaa

