/-
  No cell of these rows narrows 'for every input' (looked for: loops, veiled, ifaces, maps, wideKeys, modest, calm, conditions, laid).
  DERIVED. THE GIVEN ROWS OF THIS SEAT. 5 by the template 'for every input the law returns true; each argument reads behind the call as it read before'; 0 by the template 'total and deterministic' (their statements: YtebacgkeolofmaaTotals.lean).
  GIVEN WITH THE SEED: the statements are not yours to turn. If you find one false, say at which input.
  Laid BY PROGRAM, IN A SANDBOX (cutbox-rows.mjs): the forced cells as the released guide's own fill.sh prints them over the translation bf81755baf1c3381… (all of the seat's roots in one cut). By AI agents, Wed Nov 11 2026. No macro, syntax, notation, axiom, sorry.
-/
import Derived.Test.YtebacgkeolofmaaChecked
import GoSem.Claim
import GoSem.ClaimJoined
import GoSem.ClaimMapViews
import Derived.JoinedTies
import Derived.KernelRfl
namespace Go.Proofs.Ytebacgkeolofmaa
/- THE CELL 'sum', in the pinned program and in every row, IS THE sha256 OF THE DUMP (.gsa) THAT YtebacgkeolofmaaProg.lean LOADS. Nothing in Lean hashes anything: it is a label: what it is worth is what the hold of that sum in a sandbox is worth. -/
noncomputable def Try.pinned : Pinned := { name := "ytebacgkeolofmaa", sum := "bf81755baf1c3381920c09faaa63c13eeadbae42142783b2642d75b3f99a17b9", checked := Try.checked }
namespace Rows
def none {H : Type} : Left H := { results := [], args := [] }

/-- 'incipitlaw05.FlipBytes': WHATEVER THE INPUT: true; the input reads as it did. -/
def flipBytesSpec : ChangeSpec := { name := "flipBytes", fn := fun _ => fun
  | [d] => { results := [.lit (.bool true)], args := [d] }
  | _ => none }
def flipBytesRow : OpenClaim := { program := "ytebacgkeolofmaa", sum := "bf81755baf1c3381920c09faaa63c13eeadbae42142783b2642d75b3f99a17b9", func := "incipit/incipitlaw05.FlipBytes", spec := "flipBytes", inPlace := ["sync/atomic.AddInt64"], unfollowed := true, recurses := true, apart := false }
def FlipBytesSaid : Prop := flipBytesRow.holds Try.pinned (OpenSpec.ofChange flipBytesSpec)

/-- ITS FALSE NEIGHBOUR: 'it returns false'. Refute it at one input. -/
def flipBytesWrong : ChangeSpec := { name := "flipBytes", fn := fun _ => fun
  | [d] => { results := [.lit (.bool false)], args := [d] }
  | _ => none }
def FlipBytesWrongFalsely : Prop := flipBytesRow.holds Try.pinned (OpenSpec.ofChange flipBytesWrong)

/-- 'incipitlaw05.FlipReads': WHATEVER THE INPUT: true; the input reads as it did. -/
def flipReadsSpec : ChangeSpec := { name := "flipReads", fn := fun _ => fun
  | [d1, d2, d3] => { results := [.lit (.bool true)], args := [d1, d2, d3] }
  | _ => none }
def flipReadsRow : OpenClaim := { program := "ytebacgkeolofmaa", sum := "bf81755baf1c3381920c09faaa63c13eeadbae42142783b2642d75b3f99a17b9", func := "incipit/incipitlaw05.FlipReads", spec := "flipReads", inPlace := ["sync/atomic.AddInt64"], unfollowed := true, recurses := true, apart := false }
def FlipReadsSaid : Prop := flipReadsRow.holds Try.pinned (OpenSpec.ofChange flipReadsSpec)

/-- ITS FALSE NEIGHBOUR: 'it returns false'. Refute it at one input. -/
def flipReadsWrong : ChangeSpec := { name := "flipReads", fn := fun _ => fun
  | [d1, d2, d3] => { results := [.lit (.bool false)], args := [d1, d2, d3] }
  | _ => none }
def FlipReadsWrongFalsely : Prop := flipReadsRow.holds Try.pinned (OpenSpec.ofChange flipReadsWrong)

/-- 'incipitlaw05.FlipFinds': WHATEVER THE INPUT: true; the input reads as it did. -/
def flipFindsSpec : ChangeSpec := { name := "flipFinds", fn := fun _ => fun
  | [d1, d2, d3] => { results := [.lit (.bool true)], args := [d1, d2, d3] }
  | _ => none }
def flipFindsRow : OpenClaim := { program := "ytebacgkeolofmaa", sum := "bf81755baf1c3381920c09faaa63c13eeadbae42142783b2642d75b3f99a17b9", func := "incipit/incipitlaw05.FlipFinds", spec := "flipFinds", inPlace := ["sync/atomic.AddInt64"], unfollowed := true, recurses := true, apart := false }
def FlipFindsSaid : Prop := flipFindsRow.holds Try.pinned (OpenSpec.ofChange flipFindsSpec)

/-- ITS FALSE NEIGHBOUR: 'it returns false'. Refute it at one input. -/
def flipFindsWrong : ChangeSpec := { name := "flipFinds", fn := fun _ => fun
  | [d1, d2, d3] => { results := [.lit (.bool false)], args := [d1, d2, d3] }
  | _ => none }
def FlipFindsWrongFalsely : Prop := flipFindsRow.holds Try.pinned (OpenSpec.ofChange flipFindsWrong)

/-- 'incipitlaw05.FlipFlips': WHATEVER THE INPUT: true; the input reads as it did. -/
def flipFlipsSpec : ChangeSpec := { name := "flipFlips", fn := fun _ => fun
  | [d] => { results := [.lit (.bool true)], args := [d] }
  | _ => none }
def flipFlipsRow : OpenClaim := { program := "ytebacgkeolofmaa", sum := "bf81755baf1c3381920c09faaa63c13eeadbae42142783b2642d75b3f99a17b9", func := "incipit/incipitlaw05.FlipFlips", spec := "flipFlips", inPlace := ["sync/atomic.AddInt64"], unfollowed := true, recurses := true, apart := false }
def FlipFlipsSaid : Prop := flipFlipsRow.holds Try.pinned (OpenSpec.ofChange flipFlipsSpec)

/-- ITS FALSE NEIGHBOUR: 'it returns false'. Refute it at one input. -/
def flipFlipsWrong : ChangeSpec := { name := "flipFlips", fn := fun _ => fun
  | [d] => { results := [.lit (.bool false)], args := [d] }
  | _ => none }
def FlipFlipsWrongFalsely : Prop := flipFlipsRow.holds Try.pinned (OpenSpec.ofChange flipFlipsWrong)

/-- 'incipitlaw05.FlipCrashes': WHATEVER THE INPUT: true; the input reads as it did. -/
def flipCrashesSpec : ChangeSpec := { name := "flipCrashes", fn := fun _ => fun
  | [d1, d2, d3, d4] => { results := [.lit (.bool true)], args := [d1, d2, d3, d4] }
  | _ => none }
def flipCrashesRow : OpenClaim := { program := "ytebacgkeolofmaa", sum := "bf81755baf1c3381920c09faaa63c13eeadbae42142783b2642d75b3f99a17b9", func := "incipit/incipitlaw05.FlipCrashes", spec := "flipCrashes", inPlace := ["sync/atomic.AddInt64"], unfollowed := true, recurses := true, apart := false }
def FlipCrashesSaid : Prop := flipCrashesRow.holds Try.pinned (OpenSpec.ofChange flipCrashesSpec)

/-- ITS FALSE NEIGHBOUR: 'it returns false'. Refute it at one input. -/
def flipCrashesWrong : ChangeSpec := { name := "flipCrashes", fn := fun _ => fun
  | [d1, d2, d3, d4] => { results := [.lit (.bool false)], args := [d1, d2, d3, d4] }
  | _ => none }
def FlipCrashesWrongFalsely : Prop := flipCrashesRow.holds Try.pinned (OpenSpec.ofChange flipCrashesWrong)

/- THE SECOND FORM. 'bulk': how many values and letters a reading holds, each counted each time it is reached (what is shared counts as often as it is met; a slice's spare places count too). A statement '..UptoSaid' is the law's where the arguments, and the package variables that the reading takes, are together of bulk at most 1048576: NARROWER than '..Said'. Prove '..Said' where nothing that the law and all that it calls make is longer than what came in: it says more and counts as full. Else prove '..UptoSaid'. A law counts once. -/
mutual
def uptoBulk {H : Type} : DataW H → Nat
  | .lit (.string bytes) => bytes.length + 1
  | .lit _ => 1
  | .nil => 1
  | .ptr d => uptoBulk d + 1
  | .slice elems spare => uptoBulkAll elems + uptoBulkAll spare + 1
  | .agg parts => uptoBulkAll parts + 1
  | .iface _ d => uptoBulk d + 1
  | .map entries => uptoBulkEntries entries + 1
  | .held _ => 1
def uptoBulkAll {H : Type} : List (DataW H) → Nat
  | [] => 0
  | d :: r => uptoBulk d + uptoBulkAll r
def uptoBulkEntries {H : Type} : List (Lit × DataW H) → Nat
  | [] => 0
  | x :: r => uptoBulkEntry x + uptoBulkEntries r
def uptoBulkEntry {H : Type} : Lit × DataW H → Nat
  | (.string bytes, d) => bytes.length + uptoBulk d + 1
  | (_, d) => uptoBulk d + 1
 end
def uptoSmall : (H : Type) → List (DataW H) → Bool := fun _ ds => decide (uptoBulkAll ds ≤ 1048576)
def OpenSpec.upto (s : _root_.Go.ChangeSpec) : _root_.Go.OpenSpec := { _root_.Go.OpenSpec.ofChange s with cond := some uptoSmall }

/-- 'incipitlaw05.FlipBytes', WHERE WHAT IT READS IS OF BULK AT MOST 1048576: true; the input reads as it did. -/
def flipBytesUptoRow : OpenClaim := { program := "ytebacgkeolofmaa", sum := "bf81755baf1c3381920c09faaa63c13eeadbae42142783b2642d75b3f99a17b9", func := "incipit/incipitlaw05.FlipBytes", spec := "flipBytes", inPlace := ["sync/atomic.AddInt64"], unfollowed := true, recurses := true, apart := false, narrowed := true }
def FlipBytesUptoSaid : Prop := flipBytesUptoRow.holds Try.pinned (OpenSpec.upto flipBytesSpec)

/-- 'incipitlaw05.FlipReads', WHERE WHAT IT READS IS OF BULK AT MOST 1048576: true; the input reads as it did. -/
def flipReadsUptoRow : OpenClaim := { program := "ytebacgkeolofmaa", sum := "bf81755baf1c3381920c09faaa63c13eeadbae42142783b2642d75b3f99a17b9", func := "incipit/incipitlaw05.FlipReads", spec := "flipReads", inPlace := ["sync/atomic.AddInt64"], unfollowed := true, recurses := true, apart := false, narrowed := true }
def FlipReadsUptoSaid : Prop := flipReadsUptoRow.holds Try.pinned (OpenSpec.upto flipReadsSpec)

/-- 'incipitlaw05.FlipFinds', WHERE WHAT IT READS IS OF BULK AT MOST 1048576: true; the input reads as it did. -/
def flipFindsUptoRow : OpenClaim := { program := "ytebacgkeolofmaa", sum := "bf81755baf1c3381920c09faaa63c13eeadbae42142783b2642d75b3f99a17b9", func := "incipit/incipitlaw05.FlipFinds", spec := "flipFinds", inPlace := ["sync/atomic.AddInt64"], unfollowed := true, recurses := true, apart := false, narrowed := true }
def FlipFindsUptoSaid : Prop := flipFindsUptoRow.holds Try.pinned (OpenSpec.upto flipFindsSpec)

/-- 'incipitlaw05.FlipFlips', WHERE WHAT IT READS IS OF BULK AT MOST 1048576: true; the input reads as it did. -/
def flipFlipsUptoRow : OpenClaim := { program := "ytebacgkeolofmaa", sum := "bf81755baf1c3381920c09faaa63c13eeadbae42142783b2642d75b3f99a17b9", func := "incipit/incipitlaw05.FlipFlips", spec := "flipFlips", inPlace := ["sync/atomic.AddInt64"], unfollowed := true, recurses := true, apart := false, narrowed := true }
def FlipFlipsUptoSaid : Prop := flipFlipsUptoRow.holds Try.pinned (OpenSpec.upto flipFlipsSpec)

/-- 'incipitlaw05.FlipCrashes', WHERE WHAT IT READS IS OF BULK AT MOST 1048576: true; the input reads as it did. -/
def flipCrashesUptoRow : OpenClaim := { program := "ytebacgkeolofmaa", sum := "bf81755baf1c3381920c09faaa63c13eeadbae42142783b2642d75b3f99a17b9", func := "incipit/incipitlaw05.FlipCrashes", spec := "flipCrashes", inPlace := ["sync/atomic.AddInt64"], unfollowed := true, recurses := true, apart := false, narrowed := true }
def FlipCrashesUptoSaid : Prop := flipCrashesUptoRow.holds Try.pinned (OpenSpec.upto flipCrashesSpec)

end Rows
end Go.Proofs.Ytebacgkeolofmaa
