/- CONTRACTS: how many bits below the lowest one (math/bits.TrailingZeros64), over its table. -/
import Derived.Test.YtdobjlaggdnphaaBmE
import Derived.Laws.CopyOwn
import Derived.Deep.OwnRows
import Derived.Shelf.Spec.TrailingZeros
namespace Go.Proofs.Ytdobjlaggdnphaa
open Go.RowKit Go.Inc

/-- The table lies in its variable. -/
def Tab (w : World) : Prop := TabAt 0 Lib.deBruijn64tab w
theorem Tab.mv {F : Nat → Prop} {w w' : World} (h : Tab w) (hm : Mv F w w') (hf : ¬ F 0) : Tab w' := fun j hj => hm.cell (h j hj) hf
theorem Tab.below {w w' : World} (h : Tab w) (hb : Below w.heap.size w w') : Tab w' := h.mv (F := fun _ => False) (Mv.of_below hb) id
end Go.Proofs.Ytdobjlaggdnphaa

