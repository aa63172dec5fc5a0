/- CONTRACTS: a list at the beginning of any bytes, and the rest. -/
import Derived.Test.YtmllpednaibeeaaU19
import Derived.OwnWalk
namespace Go.Proofs.Ytmllpednaibeeaa
open Go.RowKit Go.Inc

def i64s (vs : List Nat) : List Value := vs.map fun x : Nat => Value.int .i64 (x : Int)
end Go.Proofs.Ytmllpednaibeeaa
