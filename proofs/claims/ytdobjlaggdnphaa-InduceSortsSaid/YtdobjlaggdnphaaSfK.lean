/- THE CHAPTER'S EXAMPLE (layer 15), over the program's contracts. -/
import Derived.Test.YtdobjlaggdnphaaSfE
namespace Go.Inc
open Go.RowKit
theorem si_lit (w : World) (zs : List Int) (T : TypeId) : Si (fun q => q = w.heap.size) (w.alloc (.cells (zs.map fun z => Value.int .i64 z).toArray T)) (some ⟨w.heap.size, 0, none⟩) zs :=
  .inr ⟨_, _, rfl, rfl, fun i hi => by
    rw [cell_of_row _ w.heap.size _ _ _ _ (heap_alloc_new w _)]
    rw [Nat.zero_add, List.getD_eq_getElem?_getD, List.getElem?_eq_getElem hi]
    simp [hi]⟩
end Go.Inc
namespace Go.Proofs.Ytdobjlaggdnphaa
open Go.RowKit Go.Inc
end Go.Proofs.Ytdobjlaggdnphaa

