/- CONTRACTS: small ones of the sets of bits; a set in memory. -/
import Derived.Test.YtcgapplblhbdlaaRows
import Derived.Test.YtcgapplblhbdlaaBmBits
import Derived.Test.YtcgapplblhbdlaaBmLib
import Derived.Test.YtcgapplblhbdlaaDevLib
import Derived.Test.YtcgapplblhbdlaaGrow
import Derived.Lib.MinMax
import Derived.Laws.Bits128
import Derived.Deep.QuietTactic
import Derived.BigQuiet
namespace Go.Proofs.Ytcgapplblhbdlaa
open Go.RowKit Go.Inc

theorem wrap_nat {x : Nat} (h : x < 18446744073709551616) : IntKind.u64.wrap (x : Int) = (x : Int) := by rw [IntKind.wrap_u64]; omega
def wvals (W : List Nat) : List Value := W.map fun x : Nat => Value.int .u64 (x : Int)
theorem wvals_len (W : List Nat) : (wvals W).length = W.length := by simp [wvals]
theorem wvals_set (W : List Nat) (q x : Nat) : (wvals W).set q (.int .u64 (x : Int)) = wvals (W.set q x) := by simp [wvals, List.map_set]
theorem wvals_get {W : List Nat} {q : Nat} (h : q < W.length) : (wvals W)[q]? = some (.int .u64 ((W.getD q 0 : Nat) : Int)) := by
  rw [List.getD_eq_getElem?_getD, List.getElem?_eq_getElem h]
  simp [wvals, h]
theorem wvals_one (W : List Nat) : ∀ u ∈ wvals W, u.oneCell' = true := by
  intro u hu
  obtain ⟨_, _, rfl⟩ := List.mem_map.1 hu
  rfl
section
variable {w w' : World} {b g c size : Nat} {W : List Nat}
end
section
variable {ok ok' : Nat → Prop} {w w' : World} {v : Value} {m : List Bool}
end

end Go.Proofs.Ytcgapplblhbdlaa

