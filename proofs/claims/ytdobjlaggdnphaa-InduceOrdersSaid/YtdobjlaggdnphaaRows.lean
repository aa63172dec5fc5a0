/-
  No cell of these rows narrows 'for every input' (looked for: loops, veiled, ifaces, maps, wideKeys, modest, calm, conditions, laid).
  DERIVED. THE GIVEN ROWS OF THIS SEAT. 5 by the template 'for every input the law returns true; each argument reads behind the call as it read before'; 0 by the template 'total and deterministic' (their statements: YtdobjlaggdnphaaTotals.lean).
  GIVEN WITH THE SEED: the statements are not yours to turn. If you find one false, say at which input.
  Laid BY PROGRAM, IN A SANDBOX (cutbox-rows.mjs): the forced cells as the released guide's own fill.sh prints them over the translation 029728ff99d17a13… (all of the seat's roots in one cut). By AI agents, Wed Nov 11 2026. No macro, syntax, notation, axiom, sorry.
-/
import Derived.Test.YtdobjlaggdnphaaChecked
import GoSem.Claim
import GoSem.ClaimJoined
import GoSem.ClaimMapViews
import Derived.JoinedTies
import Derived.KernelRfl
namespace Go.Proofs.Ytdobjlaggdnphaa
/- THE CELL 'sum', in the pinned program and in every row, IS THE sha256 OF THE DUMP (.gsa) THAT YtdobjlaggdnphaaProg.lean LOADS. Nothing in Lean hashes anything: it is a label: what it is worth is what the hold of that sum in a sandbox is worth. -/
noncomputable def Try.pinned : Pinned := { name := "ytdobjlaggdnphaa", sum := "029728ff99d17a13d8c0dd6e57439b71dd9c1c84806641723cb122ff9f007302", checked := Try.checked }
namespace Rows
def none {H : Type} : Left H := { results := [], args := [] }

/-- 'incipitlaw16.InduceBuckets': WHATEVER THE INPUT: true; the input reads as it did. -/
def induceBucketsSpec : ChangeSpec := { name := "induceBuckets", fn := fun _ => fun
  | [d1, d2] => { results := [.lit (.bool true)], args := [d1, d2] }
  | _ => none }
def induceBucketsRow : OpenClaim := { program := "ytdobjlaggdnphaa", sum := "029728ff99d17a13d8c0dd6e57439b71dd9c1c84806641723cb122ff9f007302", func := "incipit/incipitlaw16.InduceBuckets", spec := "induceBuckets", unfollowed := true, recurses := true, apart := false }
def InduceBucketsSaid : Prop := induceBucketsRow.holds Try.pinned (OpenSpec.ofChange induceBucketsSpec)

/-- ITS FALSE NEIGHBOUR: 'it returns false'. Refute it at one input. -/
def induceBucketsWrong : ChangeSpec := { name := "induceBuckets", fn := fun _ => fun
  | [d1, d2] => { results := [.lit (.bool false)], args := [d1, d2] }
  | _ => none }
def InduceBucketsWrongFalsely : Prop := induceBucketsRow.holds Try.pinned (OpenSpec.ofChange induceBucketsWrong)

/-- 'incipitlaw16.InduceOrders': WHATEVER THE INPUT: true; the input reads as it did. -/
def induceOrdersSpec : ChangeSpec := { name := "induceOrders", fn := fun _ => fun
  | [d1, d2, d3] => { results := [.lit (.bool true)], args := [d1, d2, d3] }
  | _ => none }
def induceOrdersRow : OpenClaim := { program := "ytdobjlaggdnphaa", sum := "029728ff99d17a13d8c0dd6e57439b71dd9c1c84806641723cb122ff9f007302", func := "incipit/incipitlaw16.InduceOrders", spec := "induceOrders", unfollowed := true, recurses := true, apart := false }
def InduceOrdersSaid : Prop := induceOrdersRow.holds Try.pinned (OpenSpec.ofChange induceOrdersSpec)

/-- ITS FALSE NEIGHBOUR: 'it returns false'. Refute it at one input. -/
def induceOrdersWrong : ChangeSpec := { name := "induceOrders", fn := fun _ => fun
  | [d1, d2, d3] => { results := [.lit (.bool false)], args := [d1, d2, d3] }
  | _ => none }
def InduceOrdersWrongFalsely : Prop := induceOrdersRow.holds Try.pinned (OpenSpec.ofChange induceOrdersWrong)

/-- 'incipitlaw16.InduceSorts': WHATEVER THE INPUT: true; the input reads as it did. -/
def induceSortsSpec : ChangeSpec := { name := "induceSorts", fn := fun _ => fun
  | [d1, d2] => { results := [.lit (.bool true)], args := [d1, d2] }
  | _ => none }
def induceSortsRow : OpenClaim := { program := "ytdobjlaggdnphaa", sum := "029728ff99d17a13d8c0dd6e57439b71dd9c1c84806641723cb122ff9f007302", func := "incipit/incipitlaw16.InduceSorts", spec := "induceSorts", unfollowed := true, recurses := true, apart := false }
def InduceSortsSaid : Prop := induceSortsRow.holds Try.pinned (OpenSpec.ofChange induceSortsSpec)

/-- ITS FALSE NEIGHBOUR: 'it returns false'. Refute it at one input. -/
def induceSortsWrong : ChangeSpec := { name := "induceSorts", fn := fun _ => fun
  | [d1, d2] => { results := [.lit (.bool false)], args := [d1, d2] }
  | _ => none }
def InduceSortsWrongFalsely : Prop := induceSortsRow.holds Try.pinned (OpenSpec.ofChange induceSortsWrong)

/-- 'incipitlaw16.InduceReduces': WHATEVER THE INPUT: true; the input reads as it did. -/
def induceReducesSpec : ChangeSpec := { name := "induceReduces", fn := fun _ => fun
  | [d1, d2] => { results := [.lit (.bool true)], args := [d1, d2] }
  | _ => none }
def induceReducesRow : OpenClaim := { program := "ytdobjlaggdnphaa", sum := "029728ff99d17a13d8c0dd6e57439b71dd9c1c84806641723cb122ff9f007302", func := "incipit/incipitlaw16.InduceReduces", spec := "induceReduces", unfollowed := true, recurses := true, apart := false }
def InduceReducesSaid : Prop := induceReducesRow.holds Try.pinned (OpenSpec.ofChange induceReducesSpec)

/-- ITS FALSE NEIGHBOUR: 'it returns false'. Refute it at one input. -/
def induceReducesWrong : ChangeSpec := { name := "induceReduces", fn := fun _ => fun
  | [d1, d2] => { results := [.lit (.bool false)], args := [d1, d2] }
  | _ => none }
def InduceReducesWrongFalsely : Prop := induceReducesRow.holds Try.pinned (OpenSpec.ofChange induceReducesWrong)

/-- 'incipitlaw16.InduceChecks': WHATEVER THE INPUT: true; the input reads as it did. -/
def induceChecksSpec : ChangeSpec := { name := "induceChecks", fn := fun _ => fun
  | [d1, d2] => { results := [.lit (.bool true)], args := [d1, d2] }
  | _ => none }
def induceChecksRow : OpenClaim := { program := "ytdobjlaggdnphaa", sum := "029728ff99d17a13d8c0dd6e57439b71dd9c1c84806641723cb122ff9f007302", func := "incipit/incipitlaw16.InduceChecks", spec := "induceChecks", unfollowed := true, recurses := true, apart := false }
def InduceChecksSaid : Prop := induceChecksRow.holds Try.pinned (OpenSpec.ofChange induceChecksSpec)

/-- ITS FALSE NEIGHBOUR: 'it returns false'. Refute it at one input. -/
def induceChecksWrong : ChangeSpec := { name := "induceChecks", fn := fun _ => fun
  | [d1, d2] => { results := [.lit (.bool false)], args := [d1, d2] }
  | _ => none }
def InduceChecksWrongFalsely : Prop := induceChecksRow.holds Try.pinned (OpenSpec.ofChange induceChecksWrong)

/- THE SECOND FORM. 'bulk': how many values and letters a reading holds, each counted each time it is reached (what is shared counts as often as it is met; a slice's spare places count too). A statement '..UptoSaid' is the law's where the arguments, and the package variables that the reading takes, are together of bulk at most 1048576: NARROWER than '..Said'. Prove '..Said' where nothing that the law and all that it calls make is longer than what came in: it says more and counts as full. Else prove '..UptoSaid'. A law counts once. -/
mutual
def uptoBulk {H : Type} : DataW H → Nat
  | .lit (.string bytes) => bytes.length + 1
  | .lit _ => 1
  | .nil => 1
  | .ptr d => uptoBulk d + 1
  | .slice elems spare => uptoBulkAll elems + uptoBulkAll spare + 1
  | .agg parts => uptoBulkAll parts + 1
  | .iface _ d => uptoBulk d + 1
  | .map entries => uptoBulkEntries entries + 1
  | .held _ => 1
def uptoBulkAll {H : Type} : List (DataW H) → Nat
  | [] => 0
  | d :: r => uptoBulk d + uptoBulkAll r
def uptoBulkEntries {H : Type} : List (Lit × DataW H) → Nat
  | [] => 0
  | x :: r => uptoBulkEntry x + uptoBulkEntries r
def uptoBulkEntry {H : Type} : Lit × DataW H → Nat
  | (.string bytes, d) => bytes.length + uptoBulk d + 1
  | (_, d) => uptoBulk d + 1
 end
def uptoSmall : (H : Type) → List (DataW H) → Bool := fun _ ds => decide (uptoBulkAll ds ≤ 1048576)
def OpenSpec.upto (s : _root_.Go.ChangeSpec) : _root_.Go.OpenSpec := { _root_.Go.OpenSpec.ofChange s with cond := some uptoSmall }

/-- 'incipitlaw16.InduceBuckets', WHERE WHAT IT READS IS OF BULK AT MOST 1048576: true; the input reads as it did. -/
def induceBucketsUptoRow : OpenClaim := { program := "ytdobjlaggdnphaa", sum := "029728ff99d17a13d8c0dd6e57439b71dd9c1c84806641723cb122ff9f007302", func := "incipit/incipitlaw16.InduceBuckets", spec := "induceBuckets", unfollowed := true, recurses := true, apart := false, narrowed := true }
def InduceBucketsUptoSaid : Prop := induceBucketsUptoRow.holds Try.pinned (OpenSpec.upto induceBucketsSpec)

/-- 'incipitlaw16.InduceOrders', WHERE WHAT IT READS IS OF BULK AT MOST 1048576: true; the input reads as it did. -/
def induceOrdersUptoRow : OpenClaim := { program := "ytdobjlaggdnphaa", sum := "029728ff99d17a13d8c0dd6e57439b71dd9c1c84806641723cb122ff9f007302", func := "incipit/incipitlaw16.InduceOrders", spec := "induceOrders", unfollowed := true, recurses := true, apart := false, narrowed := true }
def InduceOrdersUptoSaid : Prop := induceOrdersUptoRow.holds Try.pinned (OpenSpec.upto induceOrdersSpec)

/-- 'incipitlaw16.InduceSorts', WHERE WHAT IT READS IS OF BULK AT MOST 1048576: true; the input reads as it did. -/
def induceSortsUptoRow : OpenClaim := { program := "ytdobjlaggdnphaa", sum := "029728ff99d17a13d8c0dd6e57439b71dd9c1c84806641723cb122ff9f007302", func := "incipit/incipitlaw16.InduceSorts", spec := "induceSorts", unfollowed := true, recurses := true, apart := false, narrowed := true }
def InduceSortsUptoSaid : Prop := induceSortsUptoRow.holds Try.pinned (OpenSpec.upto induceSortsSpec)

/-- 'incipitlaw16.InduceReduces', WHERE WHAT IT READS IS OF BULK AT MOST 1048576: true; the input reads as it did. -/
def induceReducesUptoRow : OpenClaim := { program := "ytdobjlaggdnphaa", sum := "029728ff99d17a13d8c0dd6e57439b71dd9c1c84806641723cb122ff9f007302", func := "incipit/incipitlaw16.InduceReduces", spec := "induceReduces", unfollowed := true, recurses := true, apart := false, narrowed := true }
def InduceReducesUptoSaid : Prop := induceReducesUptoRow.holds Try.pinned (OpenSpec.upto induceReducesSpec)

/-- 'incipitlaw16.InduceChecks', WHERE WHAT IT READS IS OF BULK AT MOST 1048576: true; the input reads as it did. -/
def induceChecksUptoRow : OpenClaim := { program := "ytdobjlaggdnphaa", sum := "029728ff99d17a13d8c0dd6e57439b71dd9c1c84806641723cb122ff9f007302", func := "incipit/incipitlaw16.InduceChecks", spec := "induceChecks", unfollowed := true, recurses := true, apart := false, narrowed := true }
def InduceChecksUptoSaid : Prop := induceChecksUptoRow.holds Try.pinned (OpenSpec.upto induceChecksSpec)

end Rows
end Go.Proofs.Ytdobjlaggdnphaa
