/- CONTRACTS: Add and Drop on none; New. -/
import Derived.Test.YtclpoconppmapaaBmC
namespace Go.Proofs.Ytclpoconppmapaa
open Go.RowKit Go.Inc

theorem infoU64 : (Try.prog.info? 43).map (fun i => (i.zero, i.size, i.bytes)) = some (some (.int .u64 0), 1, 8) := by kernel_rfl
theorem madeU64 (n : Nat) : (madeCells #[Value.int .u64 0] n).toList = wvals (List.replicate n 0) := by
  apply List.ext_getElem?
  intro i
  by_cases h : i < n
  · simp [madeCells, wvals, h, Nat.mod_one]
  · simp [madeCells, wvals, h]
end Go.Proofs.Ytclpoconppmapaa

