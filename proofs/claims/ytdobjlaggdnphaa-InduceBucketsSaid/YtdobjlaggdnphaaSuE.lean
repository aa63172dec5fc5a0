/- CONTRACTS (suffix, as it landed): two lists compared; Less. -/
import Derived.Test.YtdobjlaggdnphaaSuD
import Derived.BigQuiet
namespace Go.Inc
open Go.RowKit
end Go.Inc
namespace Go.Proofs.Ytdobjlaggdnphaa
open Go.RowKit Go.Inc
theorem isNaN_any (a : Int) (w : World) : Calls Try.prog 78 #[.int .i64 a] w fun x w' => x = .returned (.bool false) ∧ w = w' := by
  go_enter Try.func78, Try.ntmps78
  go_wp2_with fail
  go_ret
  exact ⟨by simp, rfl⟩
end Go.Proofs.Ytdobjlaggdnphaa

