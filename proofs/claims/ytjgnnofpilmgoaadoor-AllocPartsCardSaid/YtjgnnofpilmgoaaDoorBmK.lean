/- CONTRACTS: Parse. -/
import Derived.Test.YtjgnnofpilmgoaaDoorBmI
namespace Go.Proofs.YtjgnnofpilmgoaaDoor
open Go.RowKit Go.Inc

theorem new_empty (S : Nat) (w : World) (h1 : (1 : Int) ≤ S) (h2 : (S : Int) ≤ 2048) : Calls Tryd.prog 53 #[.int .i64 (S : Int), .slice none 0 0] w fun e w' => (∃ v, e = .returned (.tuple #[v, .int .i64 0]) ∧ NewSet w.heap.size w' v (List.replicate S false)) ∧ Below w.heap.size w w' :=
  new_any (fun _ => True) S none 0 [] w (Si.nil _ _ _) h1 h2 (by decide)
end Go.Proofs.YtjgnnofpilmgoaaDoor

