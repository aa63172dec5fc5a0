/- CONTRACT: a copy of bytes. -/
import Derived.Test.YtmllpednaibeeaaRows
import Derived.Test.YtmllpednaibeeaaU0
import Derived.Deep.QuietTactic
import Derived.BigQuiet
namespace Go.Proofs.Ytmllpednaibeeaa
open Go.RowKit Go.Inc

theorem infoU8 : (Try.prog.info? 5).map (fun i => (i.zero, i.size, i.bytes)) = some (some (.int .u8 0), 1, 1) := by kernel_rfl

end Go.Proofs.Ytmllpednaibeeaa
