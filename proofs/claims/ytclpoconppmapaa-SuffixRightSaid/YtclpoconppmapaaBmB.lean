/- CONTRACTS: is a number in it? -/
import Derived.Test.YtclpoconppmapaaBmA
namespace Go.Proofs.Ytclpoconppmapaa
open Go.RowKit Go.Inc

theorem below_drewN (w : World) (n : Nat) : Below w.heap.size w (w.drewN n) := ⟨rfl, rfl, rfl, Nat.le_refl _, fun _ _ => rfl⟩
end Go.Proofs.Ytclpoconppmapaa

