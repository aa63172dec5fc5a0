/-
  No cell of these rows narrows 'for every input' (looked for: loops, veiled, ifaces, maps, wideKeys, modest, calm, conditions, laid).
  DERIVED. THE GIVEN ROWS OF THIS SEAT. 4 by the template 'for every input the law returns true; each argument reads behind the call as it read before'; 0 by the template 'total and deterministic' (their statements: YtbhpfdpcafdeaaaTotals.lean).
  GIVEN WITH THE SEED: the statements are not yours to turn. If you find one false, say at which input.
  Laid BY PROGRAM, IN A SANDBOX (cutbox-rows.mjs): the forced cells as the released guide's own fill.sh prints them over the translation 1a8dd54d34cd1ae6… (all of the seat's roots in one cut). By AI agents, Wed Nov 11 2026. No macro, syntax, notation, axiom, sorry.
-/
import Derived.Test.YtbhpfdpcafdeaaaChecked
import GoSem.Claim
import GoSem.ClaimJoined
import GoSem.ClaimMapViews
import Derived.JoinedTies
import Derived.KernelRfl
namespace Go.Proofs.Ytbhpfdpcafdeaaa
/- THE CELL 'sum', in the pinned program and in every row, IS THE sha256 OF THE DUMP (.gsa) THAT YtbhpfdpcafdeaaaProg.lean LOADS. Nothing in Lean hashes anything: it is a label: what it is worth is what the hold of that sum in a sandbox is worth. -/
noncomputable def Try.pinned : Pinned := { name := "ytbhpfdpcafdeaaa", sum := "1a8dd54d34cd1ae63f402cb07717df6af6c860c4fd49b03fbed9f9c0809e2a8b", checked := Try.checked }
namespace Rows
def none {H : Type} : Left H := { results := [], args := [] }

/-- 'incipitlaw14.AlphaTexts': WHATEVER THE INPUT: true; the input reads as it did. -/
def alphaTextsSpec : ChangeSpec := { name := "alphaTexts", fn := fun _ => fun
  | [d1, d2] => { results := [.lit (.bool true)], args := [d1, d2] }
  | _ => none }
def alphaTextsRow : OpenClaim := { program := "ytbhpfdpcafdeaaa", sum := "1a8dd54d34cd1ae63f402cb07717df6af6c860c4fd49b03fbed9f9c0809e2a8b", func := "incipit/incipitlaw14.AlphaTexts", spec := "alphaTexts", unfollowed := true, recurses := true, apart := false }
def AlphaTextsSaid : Prop := alphaTextsRow.holds Try.pinned (OpenSpec.ofChange alphaTextsSpec)

/-- ITS FALSE NEIGHBOUR: 'it returns false'. Refute it at one input. -/
def alphaTextsWrong : ChangeSpec := { name := "alphaTexts", fn := fun _ => fun
  | [d1, d2] => { results := [.lit (.bool false)], args := [d1, d2] }
  | _ => none }
def AlphaTextsWrongFalsely : Prop := alphaTextsRow.holds Try.pinned (OpenSpec.ofChange alphaTextsWrong)

/-- 'incipitlaw14.AlphaTables': WHATEVER THE INPUT: true; the input reads as it did. -/
def alphaTablesSpec : ChangeSpec := { name := "alphaTables", fn := fun _ => fun
  | [d1, d2, d3] => { results := [.lit (.bool true)], args := [d1, d2, d3] }
  | _ => none }
def alphaTablesRow : OpenClaim := { program := "ytbhpfdpcafdeaaa", sum := "1a8dd54d34cd1ae63f402cb07717df6af6c860c4fd49b03fbed9f9c0809e2a8b", func := "incipit/incipitlaw14.AlphaTables", spec := "alphaTables", unfollowed := true, recurses := true, apart := false }
def AlphaTablesSaid : Prop := alphaTablesRow.holds Try.pinned (OpenSpec.ofChange alphaTablesSpec)

/-- ITS FALSE NEIGHBOUR: 'it returns false'. Refute it at one input. -/
def alphaTablesWrong : ChangeSpec := { name := "alphaTables", fn := fun _ => fun
  | [d1, d2, d3] => { results := [.lit (.bool false)], args := [d1, d2, d3] }
  | _ => none }
def AlphaTablesWrongFalsely : Prop := alphaTablesRow.holds Try.pinned (OpenSpec.ofChange alphaTablesWrong)

/-- 'incipitlaw14.AlphaBytes': WHATEVER THE INPUT: true; the input reads as it did. -/
def alphaBytesSpec : ChangeSpec := { name := "alphaBytes", fn := fun _ => fun
  | [d1, d2] => { results := [.lit (.bool true)], args := [d1, d2] }
  | _ => none }
def alphaBytesRow : OpenClaim := { program := "ytbhpfdpcafdeaaa", sum := "1a8dd54d34cd1ae63f402cb07717df6af6c860c4fd49b03fbed9f9c0809e2a8b", func := "incipit/incipitlaw14.AlphaBytes", spec := "alphaBytes", unfollowed := true, recurses := true, apart := false }
def AlphaBytesSaid : Prop := alphaBytesRow.holds Try.pinned (OpenSpec.ofChange alphaBytesSpec)

/-- ITS FALSE NEIGHBOUR: 'it returns false'. Refute it at one input. -/
def alphaBytesWrong : ChangeSpec := { name := "alphaBytes", fn := fun _ => fun
  | [d1, d2] => { results := [.lit (.bool false)], args := [d1, d2] }
  | _ => none }
def AlphaBytesWrongFalsely : Prop := alphaBytesRow.holds Try.pinned (OpenSpec.ofChange alphaBytesWrong)

/-- 'incipitlaw14.AlphaNil': WHATEVER THE INPUT: true; the input reads as it did. -/
def alphaNilSpec : ChangeSpec := { name := "alphaNil", fn := fun _ => fun
  | [d1, d2] => { results := [.lit (.bool true)], args := [d1, d2] }
  | _ => none }
def alphaNilRow : OpenClaim := { program := "ytbhpfdpcafdeaaa", sum := "1a8dd54d34cd1ae63f402cb07717df6af6c860c4fd49b03fbed9f9c0809e2a8b", func := "incipit/incipitlaw14.AlphaNil", spec := "alphaNil", unfollowed := true, recurses := true, apart := false }
def AlphaNilSaid : Prop := alphaNilRow.holds Try.pinned (OpenSpec.ofChange alphaNilSpec)

/-- ITS FALSE NEIGHBOUR: 'it returns false'. Refute it at one input. -/
def alphaNilWrong : ChangeSpec := { name := "alphaNil", fn := fun _ => fun
  | [d1, d2] => { results := [.lit (.bool false)], args := [d1, d2] }
  | _ => none }
def AlphaNilWrongFalsely : Prop := alphaNilRow.holds Try.pinned (OpenSpec.ofChange alphaNilWrong)

/- THE SECOND FORM. 'bulk': how many values and letters a reading holds, each counted each time it is reached (what is shared counts as often as it is met; a slice's spare places count too). A statement '..UptoSaid' is the law's where the arguments, and the package variables that the reading takes, are together of bulk at most 1048576: NARROWER than '..Said'. Prove '..Said' where nothing that the law and all that it calls make is longer than what came in: it says more and counts as full. Else prove '..UptoSaid'. A law counts once. -/
mutual
def uptoBulk {H : Type} : DataW H → Nat
  | .lit (.string bytes) => bytes.length + 1
  | .lit _ => 1
  | .nil => 1
  | .ptr d => uptoBulk d + 1
  | .slice elems spare => uptoBulkAll elems + uptoBulkAll spare + 1
  | .agg parts => uptoBulkAll parts + 1
  | .iface _ d => uptoBulk d + 1
  | .map entries => uptoBulkEntries entries + 1
  | .held _ => 1
def uptoBulkAll {H : Type} : List (DataW H) → Nat
  | [] => 0
  | d :: r => uptoBulk d + uptoBulkAll r
def uptoBulkEntries {H : Type} : List (Lit × DataW H) → Nat
  | [] => 0
  | x :: r => uptoBulkEntry x + uptoBulkEntries r
def uptoBulkEntry {H : Type} : Lit × DataW H → Nat
  | (.string bytes, d) => bytes.length + uptoBulk d + 1
  | (_, d) => uptoBulk d + 1
 end
def uptoSmall : (H : Type) → List (DataW H) → Bool := fun _ ds => decide (uptoBulkAll ds ≤ 1048576)
def OpenSpec.upto (s : _root_.Go.ChangeSpec) : _root_.Go.OpenSpec := { _root_.Go.OpenSpec.ofChange s with cond := some uptoSmall }

/-- 'incipitlaw14.AlphaTexts', WHERE WHAT IT READS IS OF BULK AT MOST 1048576: true; the input reads as it did. -/
def alphaTextsUptoRow : OpenClaim := { program := "ytbhpfdpcafdeaaa", sum := "1a8dd54d34cd1ae63f402cb07717df6af6c860c4fd49b03fbed9f9c0809e2a8b", func := "incipit/incipitlaw14.AlphaTexts", spec := "alphaTexts", unfollowed := true, recurses := true, apart := false, narrowed := true }
def AlphaTextsUptoSaid : Prop := alphaTextsUptoRow.holds Try.pinned (OpenSpec.upto alphaTextsSpec)

/-- 'incipitlaw14.AlphaTables', WHERE WHAT IT READS IS OF BULK AT MOST 1048576: true; the input reads as it did. -/
def alphaTablesUptoRow : OpenClaim := { program := "ytbhpfdpcafdeaaa", sum := "1a8dd54d34cd1ae63f402cb07717df6af6c860c4fd49b03fbed9f9c0809e2a8b", func := "incipit/incipitlaw14.AlphaTables", spec := "alphaTables", unfollowed := true, recurses := true, apart := false, narrowed := true }
def AlphaTablesUptoSaid : Prop := alphaTablesUptoRow.holds Try.pinned (OpenSpec.upto alphaTablesSpec)

/-- 'incipitlaw14.AlphaBytes', WHERE WHAT IT READS IS OF BULK AT MOST 1048576: true; the input reads as it did. -/
def alphaBytesUptoRow : OpenClaim := { program := "ytbhpfdpcafdeaaa", sum := "1a8dd54d34cd1ae63f402cb07717df6af6c860c4fd49b03fbed9f9c0809e2a8b", func := "incipit/incipitlaw14.AlphaBytes", spec := "alphaBytes", unfollowed := true, recurses := true, apart := false, narrowed := true }
def AlphaBytesUptoSaid : Prop := alphaBytesUptoRow.holds Try.pinned (OpenSpec.upto alphaBytesSpec)

/-- 'incipitlaw14.AlphaNil', WHERE WHAT IT READS IS OF BULK AT MOST 1048576: true; the input reads as it did. -/
def alphaNilUptoRow : OpenClaim := { program := "ytbhpfdpcafdeaaa", sum := "1a8dd54d34cd1ae63f402cb07717df6af6c860c4fd49b03fbed9f9c0809e2a8b", func := "incipit/incipitlaw14.AlphaNil", spec := "alphaNil", unfollowed := true, recurses := true, apart := false, narrowed := true }
def AlphaNilUptoSaid : Prop := alphaNilUptoRow.holds Try.pinned (OpenSpec.upto alphaNilSpec)

end Rows
end Go.Proofs.Ytbhpfdpcafdeaaa
