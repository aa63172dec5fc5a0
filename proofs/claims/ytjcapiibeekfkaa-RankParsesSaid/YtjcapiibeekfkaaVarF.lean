/- CONTRACTS: List, the document's list, Text, the known examples. -/
import Derived.Test.YtjcapiibeekfkaaVarE
namespace Go.Proofs.Ytjcapiibeekfkaa
open Go.RowKit Go.Inc

theorem Si.one (w : World) (z : Int) (T : TypeId) : Si (fun b => b = w.heap.size) (w.alloc (.cells #[.int .i64 z] T)) (some ⟨w.heap.size, 0, none⟩) [z] :=
  .inr ⟨_, _, rfl, rfl, fun i hi => by
    have h0 : i = 0 := by simp at hi; omega
    subst h0
    rw [cell_of_row _ w.heap.size _ _ _ _ (heap_alloc_new w _)]; rfl⟩
/-- A row, and behind it whatever lies in a slice. -/
theorem row_more {w : World} {E B : Nat} {v : Value} {xs ys : List Nat} {n m : Nat} (h : w.ownsRow B E 1 v (n + m) (u8s xs ++ u8s ys)) (hn : n = xs.length) (hm : m = ys.length) : Row E B w v (xs ++ ys) := by
  subst hn hm
  unfold Row
  rw [u8s_append, List.length_append]
  exact h

end Go.Proofs.Ytjcapiibeekfkaa

