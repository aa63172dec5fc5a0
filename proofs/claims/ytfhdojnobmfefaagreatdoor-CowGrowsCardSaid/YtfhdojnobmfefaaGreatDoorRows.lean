/-
  NARROWER THAN 'FOR EVERY INPUT', by the rows' own cells (each row's printed sentence says how): CowPlays: laid · CowKeeps: laid · CowGrows: laid · CowNil: laid · StreamPlays: laid · StreamKeeps: laid · StreamNil: laid · StreamApart: laid.
  DERIVED. THE GIVEN ROWS OF THIS SEAT. 8 by the template 'for every input the law returns true; each argument reads behind the call as it read before'; 0 by the template 'total and deterministic' (their statements: YtfhdojnobmfefaaGreatDoorTotals.lean).
  GIVEN WITH THE SEED: the statements are not yours to turn. If you find one false, say at which input.
  Laid BY PROGRAM, IN A SANDBOX (cutbox-rows.mjs): the forced cells as the released guide's own fill.sh prints them over the translation 501462444467fb37… (all of the seat's roots in one cut). By AI agents, Wed Nov 11 2026. No macro, syntax, notation, axiom, sorry.
-/
import Derived.Test.YtfhdojnobmfefaaGreatDoorChecked
import GoSem.Claim
import GoSem.ClaimJoined
import GoSem.ClaimMapViews
import Derived.JoinedTies
import Derived.KernelRfl
namespace Go.Proofs.YtfhdojnobmfefaaGreatDoor
/- THE CELL 'sum', in the pinned program and in every row, IS THE sha256 OF THE DUMP (.gsa) THAT YtfhdojnobmfefaaGreatDoorProg.lean LOADS. Nothing in Lean hashes anything: it is a label: what it is worth is what the hold of that sum in a sandbox is worth. -/
noncomputable def Tryz.pinned : Pinned := { name := "ytfhdojnobmfefaagreatdoor", sum := "501462444467fb37e06363bd72ba117c778d42b1561f38bbf0677eef46fb43e6", checked := Tryz.checked }
namespace Rows
def none {H : Type} : Left H := { results := [], args := [] }

/- WHAT THE LISTED PACKAGE-LEVEL VARIABLES READ AS WHEN THE CALL BEGINS. Each datum BY PROGRAM (the guide's laid-datum.mjs) off the statement by which the dump's own 'gosem.cut.vars' lays the variable. In a bare row this is a premise. The card (YtfhdojnobmfefaaGreatDoorCards.lean) ties it to the program's text. -/
def laid_math_bits_deBruijn64tab {H : Type} : DataW H := .agg [.lit (.int .u8 0), .lit (.int .u8 1), .lit (.int .u8 56), .lit (.int .u8 2), .lit (.int .u8 57), .lit (.int .u8 49), .lit (.int .u8 28), .lit (.int .u8 3), .lit (.int .u8 61), .lit (.int .u8 58), .lit (.int .u8 42), .lit (.int .u8 50), .lit (.int .u8 38), .lit (.int .u8 29), .lit (.int .u8 17), .lit (.int .u8 4), .lit (.int .u8 62), .lit (.int .u8 47), .lit (.int .u8 59), .lit (.int .u8 36), .lit (.int .u8 45), .lit (.int .u8 43), .lit (.int .u8 51), .lit (.int .u8 22), .lit (.int .u8 53), .lit (.int .u8 39), .lit (.int .u8 33), .lit (.int .u8 30), .lit (.int .u8 24), .lit (.int .u8 18), .lit (.int .u8 12), .lit (.int .u8 5), .lit (.int .u8 63), .lit (.int .u8 55), .lit (.int .u8 48), .lit (.int .u8 27), .lit (.int .u8 60), .lit (.int .u8 41), .lit (.int .u8 37), .lit (.int .u8 16), .lit (.int .u8 46), .lit (.int .u8 35), .lit (.int .u8 44), .lit (.int .u8 21), .lit (.int .u8 52), .lit (.int .u8 32), .lit (.int .u8 23), .lit (.int .u8 11), .lit (.int .u8 54), .lit (.int .u8 26), .lit (.int .u8 40), .lit (.int .u8 15), .lit (.int .u8 34), .lit (.int .u8 20), .lit (.int .u8 31), .lit (.int .u8 10), .lit (.int .u8 25), .lit (.int .u8 14), .lit (.int .u8 19), .lit (.int .u8 9), .lit (.int .u8 13), .lit (.int .u8 8), .lit (.int .u8 7), .lit (.int .u8 6)]

/-- 'incipitlaw10.CowPlays': WHATEVER THE INPUT: true; the input reads as it did. -/
def cowPlaysSpec : ChangeSpec := { name := "cowPlays", fn := fun _ => fun
  | [d1, d2, d3] => { results := [.lit (.bool true)], args := [d1, d2, d3] }
  | _ => none }
def cowPlaysRow : OpenClaim := { program := "ytfhdojnobmfefaagreatdoor", sum := "501462444467fb37e06363bd72ba117c778d42b1561f38bbf0677eef46fb43e6", func := "incipit/incipitlaw10.CowPlays", spec := "cowPlays", inPlace := ["sync/atomic.AddInt64"], unfollowed := true, recurses := true, named := ["math/bits.deBruijn64tab"], plainKeys := false, apart := false, laid := [("math/bits.deBruijn64tab", laid_math_bits_deBruijn64tab)] }
def CowPlaysSaid : Prop := cowPlaysRow.holds Tryz.pinned (OpenSpec.ofChange cowPlaysSpec)

/-- ITS FALSE NEIGHBOUR: 'it returns false'. Refute it at one input. -/
def cowPlaysWrong : ChangeSpec := { name := "cowPlays", fn := fun _ => fun
  | [d1, d2, d3] => { results := [.lit (.bool false)], args := [d1, d2, d3] }
  | _ => none }
def CowPlaysWrongFalsely : Prop := cowPlaysRow.holds Tryz.pinned (OpenSpec.ofChange cowPlaysWrong)

/-- 'incipitlaw10.CowKeeps': WHATEVER THE INPUT: true; the input reads as it did. -/
def cowKeepsSpec : ChangeSpec := { name := "cowKeeps", fn := fun _ => fun
  | [d1, d2] => { results := [.lit (.bool true)], args := [d1, d2] }
  | _ => none }
def cowKeepsRow : OpenClaim := { program := "ytfhdojnobmfefaagreatdoor", sum := "501462444467fb37e06363bd72ba117c778d42b1561f38bbf0677eef46fb43e6", func := "incipit/incipitlaw10.CowKeeps", spec := "cowKeeps", inPlace := ["sync/atomic.AddInt64"], unfollowed := true, recurses := true, named := ["math/bits.deBruijn64tab"], plainKeys := false, apart := false, laid := [("math/bits.deBruijn64tab", laid_math_bits_deBruijn64tab)] }
def CowKeepsSaid : Prop := cowKeepsRow.holds Tryz.pinned (OpenSpec.ofChange cowKeepsSpec)

/-- ITS FALSE NEIGHBOUR: 'it returns false'. Refute it at one input. -/
def cowKeepsWrong : ChangeSpec := { name := "cowKeeps", fn := fun _ => fun
  | [d1, d2] => { results := [.lit (.bool false)], args := [d1, d2] }
  | _ => none }
def CowKeepsWrongFalsely : Prop := cowKeepsRow.holds Tryz.pinned (OpenSpec.ofChange cowKeepsWrong)

/-- 'incipitlaw10.CowGrows': WHATEVER THE INPUT: true; the input reads as it did. -/
def cowGrowsSpec : ChangeSpec := { name := "cowGrows", fn := fun _ => fun
  | [d1, d2, d3] => { results := [.lit (.bool true)], args := [d1, d2, d3] }
  | _ => none }
def cowGrowsRow : OpenClaim := { program := "ytfhdojnobmfefaagreatdoor", sum := "501462444467fb37e06363bd72ba117c778d42b1561f38bbf0677eef46fb43e6", func := "incipit/incipitlaw10.CowGrows", spec := "cowGrows", inPlace := ["sync/atomic.AddInt64"], unfollowed := true, recurses := true, named := ["math/bits.deBruijn64tab"], plainKeys := false, apart := false, laid := [("math/bits.deBruijn64tab", laid_math_bits_deBruijn64tab)] }
def CowGrowsSaid : Prop := cowGrowsRow.holds Tryz.pinned (OpenSpec.ofChange cowGrowsSpec)

/-- ITS FALSE NEIGHBOUR: 'it returns false'. Refute it at one input. -/
def cowGrowsWrong : ChangeSpec := { name := "cowGrows", fn := fun _ => fun
  | [d1, d2, d3] => { results := [.lit (.bool false)], args := [d1, d2, d3] }
  | _ => none }
def CowGrowsWrongFalsely : Prop := cowGrowsRow.holds Tryz.pinned (OpenSpec.ofChange cowGrowsWrong)

/-- 'incipitlaw10.CowNil': WHATEVER THE INPUT: true; the input reads as it did. -/
def cowNilSpec : ChangeSpec := { name := "cowNil", fn := fun _ => fun
  | [d1, d2] => { results := [.lit (.bool true)], args := [d1, d2] }
  | _ => none }
def cowNilRow : OpenClaim := { program := "ytfhdojnobmfefaagreatdoor", sum := "501462444467fb37e06363bd72ba117c778d42b1561f38bbf0677eef46fb43e6", func := "incipit/incipitlaw10.CowNil", spec := "cowNil", inPlace := ["sync/atomic.AddInt64"], unfollowed := true, recurses := true, named := ["math/bits.deBruijn64tab"], plainKeys := false, apart := false, laid := [("math/bits.deBruijn64tab", laid_math_bits_deBruijn64tab)] }
def CowNilSaid : Prop := cowNilRow.holds Tryz.pinned (OpenSpec.ofChange cowNilSpec)

/-- ITS FALSE NEIGHBOUR: 'it returns false'. Refute it at one input. -/
def cowNilWrong : ChangeSpec := { name := "cowNil", fn := fun _ => fun
  | [d1, d2] => { results := [.lit (.bool false)], args := [d1, d2] }
  | _ => none }
def CowNilWrongFalsely : Prop := cowNilRow.holds Tryz.pinned (OpenSpec.ofChange cowNilWrong)

/-- 'incipitlaw11.StreamPlays': WHATEVER THE INPUT: true; the input reads as it did. -/
def streamPlaysSpec : ChangeSpec := { name := "streamPlays", fn := fun _ => fun
  | [d1, d2, d3, d4, d5] => { results := [.lit (.bool true)], args := [d1, d2, d3, d4, d5] }
  | _ => none }
def streamPlaysRow : OpenClaim := { program := "ytfhdojnobmfefaagreatdoor", sum := "501462444467fb37e06363bd72ba117c778d42b1561f38bbf0677eef46fb43e6", func := "incipit/incipitlaw11.StreamPlays", spec := "streamPlays", inPlace := ["sync/atomic.AddInt64"], unfollowed := true, recurses := true, named := ["math/bits.deBruijn64tab"], plainKeys := false, apart := false, laid := [("math/bits.deBruijn64tab", laid_math_bits_deBruijn64tab)] }
def StreamPlaysSaid : Prop := streamPlaysRow.holds Tryz.pinned (OpenSpec.ofChange streamPlaysSpec)

/-- ITS FALSE NEIGHBOUR: 'it returns false'. Refute it at one input. -/
def streamPlaysWrong : ChangeSpec := { name := "streamPlays", fn := fun _ => fun
  | [d1, d2, d3, d4, d5] => { results := [.lit (.bool false)], args := [d1, d2, d3, d4, d5] }
  | _ => none }
def StreamPlaysWrongFalsely : Prop := streamPlaysRow.holds Tryz.pinned (OpenSpec.ofChange streamPlaysWrong)

/-- 'incipitlaw11.StreamKeeps': WHATEVER THE INPUT: true; the input reads as it did. -/
def streamKeepsSpec : ChangeSpec := { name := "streamKeeps", fn := fun _ => fun
  | [d1, d2] => { results := [.lit (.bool true)], args := [d1, d2] }
  | _ => none }
def streamKeepsRow : OpenClaim := { program := "ytfhdojnobmfefaagreatdoor", sum := "501462444467fb37e06363bd72ba117c778d42b1561f38bbf0677eef46fb43e6", func := "incipit/incipitlaw11.StreamKeeps", spec := "streamKeeps", inPlace := ["sync/atomic.AddInt64"], unfollowed := true, recurses := true, named := ["math/bits.deBruijn64tab"], plainKeys := false, apart := false, laid := [("math/bits.deBruijn64tab", laid_math_bits_deBruijn64tab)] }
def StreamKeepsSaid : Prop := streamKeepsRow.holds Tryz.pinned (OpenSpec.ofChange streamKeepsSpec)

/-- ITS FALSE NEIGHBOUR: 'it returns false'. Refute it at one input. -/
def streamKeepsWrong : ChangeSpec := { name := "streamKeeps", fn := fun _ => fun
  | [d1, d2] => { results := [.lit (.bool false)], args := [d1, d2] }
  | _ => none }
def StreamKeepsWrongFalsely : Prop := streamKeepsRow.holds Tryz.pinned (OpenSpec.ofChange streamKeepsWrong)

/-- 'incipitlaw11.StreamNil': WHATEVER THE INPUT: true; the input reads as it did. -/
def streamNilSpec : ChangeSpec := { name := "streamNil", fn := fun _ => fun
  | [d1, d2] => { results := [.lit (.bool true)], args := [d1, d2] }
  | _ => none }
def streamNilRow : OpenClaim := { program := "ytfhdojnobmfefaagreatdoor", sum := "501462444467fb37e06363bd72ba117c778d42b1561f38bbf0677eef46fb43e6", func := "incipit/incipitlaw11.StreamNil", spec := "streamNil", inPlace := ["sync/atomic.AddInt64"], unfollowed := true, recurses := true, named := ["math/bits.deBruijn64tab"], plainKeys := false, apart := false, laid := [("math/bits.deBruijn64tab", laid_math_bits_deBruijn64tab)] }
def StreamNilSaid : Prop := streamNilRow.holds Tryz.pinned (OpenSpec.ofChange streamNilSpec)

/-- ITS FALSE NEIGHBOUR: 'it returns false'. Refute it at one input. -/
def streamNilWrong : ChangeSpec := { name := "streamNil", fn := fun _ => fun
  | [d1, d2] => { results := [.lit (.bool false)], args := [d1, d2] }
  | _ => none }
def StreamNilWrongFalsely : Prop := streamNilRow.holds Tryz.pinned (OpenSpec.ofChange streamNilWrong)

/-- 'incipitlaw11.StreamApart': WHATEVER THE INPUT: true; the input reads as it did. -/
def streamApartSpec : ChangeSpec := { name := "streamApart", fn := fun _ => fun
  | [d] => { results := [.lit (.bool true)], args := [d] }
  | _ => none }
def streamApartRow : OpenClaim := { program := "ytfhdojnobmfefaagreatdoor", sum := "501462444467fb37e06363bd72ba117c778d42b1561f38bbf0677eef46fb43e6", func := "incipit/incipitlaw11.StreamApart", spec := "streamApart", inPlace := ["sync/atomic.AddInt64"], unfollowed := true, recurses := true, named := ["math/bits.deBruijn64tab"], plainKeys := false, apart := false, laid := [("math/bits.deBruijn64tab", laid_math_bits_deBruijn64tab)] }
def StreamApartSaid : Prop := streamApartRow.holds Tryz.pinned (OpenSpec.ofChange streamApartSpec)

/-- ITS FALSE NEIGHBOUR: 'it returns false'. Refute it at one input. -/
def streamApartWrong : ChangeSpec := { name := "streamApart", fn := fun _ => fun
  | [d] => { results := [.lit (.bool false)], args := [d] }
  | _ => none }
def StreamApartWrongFalsely : Prop := streamApartRow.holds Tryz.pinned (OpenSpec.ofChange streamApartWrong)

/- THE SECOND FORM. 'bulk': how many values and letters a reading holds, each counted each time it is reached (what is shared counts as often as it is met; a slice's spare places count too). A statement '..UptoSaid' is the law's where the arguments, and the package variables that the reading takes, are together of bulk at most 1048576: NARROWER than '..Said'. Prove '..Said' where nothing that the law and all that it calls make is longer than what came in: it says more and counts as full. Else prove '..UptoSaid'. A law counts once. -/
mutual
def uptoBulk {H : Type} : DataW H → Nat
  | .lit (.string bytes) => bytes.length + 1
  | .lit _ => 1
  | .nil => 1
  | .ptr d => uptoBulk d + 1
  | .slice elems spare => uptoBulkAll elems + uptoBulkAll spare + 1
  | .agg parts => uptoBulkAll parts + 1
  | .iface _ d => uptoBulk d + 1
  | .map entries => uptoBulkEntries entries + 1
  | .held _ => 1
def uptoBulkAll {H : Type} : List (DataW H) → Nat
  | [] => 0
  | d :: r => uptoBulk d + uptoBulkAll r
def uptoBulkEntries {H : Type} : List (Lit × DataW H) → Nat
  | [] => 0
  | x :: r => uptoBulkEntry x + uptoBulkEntries r
def uptoBulkEntry {H : Type} : Lit × DataW H → Nat
  | (.string bytes, d) => bytes.length + uptoBulk d + 1
  | (_, d) => uptoBulk d + 1
 end
def uptoSmall : (H : Type) → List (DataW H) → Bool := fun _ ds => decide (uptoBulkAll ds ≤ 1048576)
def OpenSpec.upto (s : _root_.Go.ChangeSpec) : _root_.Go.OpenSpec := { _root_.Go.OpenSpec.ofChange s with cond := some uptoSmall }

/-- 'incipitlaw10.CowPlays', WHERE WHAT IT READS IS OF BULK AT MOST 1048576: true; the input reads as it did. -/
def cowPlaysUptoRow : OpenClaim := { program := "ytfhdojnobmfefaagreatdoor", sum := "501462444467fb37e06363bd72ba117c778d42b1561f38bbf0677eef46fb43e6", func := "incipit/incipitlaw10.CowPlays", spec := "cowPlays", inPlace := ["sync/atomic.AddInt64"], unfollowed := true, recurses := true, named := ["math/bits.deBruijn64tab"], plainKeys := false, apart := false, laid := [("math/bits.deBruijn64tab", laid_math_bits_deBruijn64tab)], narrowed := true }
def CowPlaysUptoSaid : Prop := cowPlaysUptoRow.holds Tryz.pinned (OpenSpec.upto cowPlaysSpec)

/-- 'incipitlaw10.CowKeeps', WHERE WHAT IT READS IS OF BULK AT MOST 1048576: true; the input reads as it did. -/
def cowKeepsUptoRow : OpenClaim := { program := "ytfhdojnobmfefaagreatdoor", sum := "501462444467fb37e06363bd72ba117c778d42b1561f38bbf0677eef46fb43e6", func := "incipit/incipitlaw10.CowKeeps", spec := "cowKeeps", inPlace := ["sync/atomic.AddInt64"], unfollowed := true, recurses := true, named := ["math/bits.deBruijn64tab"], plainKeys := false, apart := false, laid := [("math/bits.deBruijn64tab", laid_math_bits_deBruijn64tab)], narrowed := true }
def CowKeepsUptoSaid : Prop := cowKeepsUptoRow.holds Tryz.pinned (OpenSpec.upto cowKeepsSpec)

/-- 'incipitlaw10.CowGrows', WHERE WHAT IT READS IS OF BULK AT MOST 1048576: true; the input reads as it did. -/
def cowGrowsUptoRow : OpenClaim := { program := "ytfhdojnobmfefaagreatdoor", sum := "501462444467fb37e06363bd72ba117c778d42b1561f38bbf0677eef46fb43e6", func := "incipit/incipitlaw10.CowGrows", spec := "cowGrows", inPlace := ["sync/atomic.AddInt64"], unfollowed := true, recurses := true, named := ["math/bits.deBruijn64tab"], plainKeys := false, apart := false, laid := [("math/bits.deBruijn64tab", laid_math_bits_deBruijn64tab)], narrowed := true }
def CowGrowsUptoSaid : Prop := cowGrowsUptoRow.holds Tryz.pinned (OpenSpec.upto cowGrowsSpec)

/-- 'incipitlaw10.CowNil', WHERE WHAT IT READS IS OF BULK AT MOST 1048576: true; the input reads as it did. -/
def cowNilUptoRow : OpenClaim := { program := "ytfhdojnobmfefaagreatdoor", sum := "501462444467fb37e06363bd72ba117c778d42b1561f38bbf0677eef46fb43e6", func := "incipit/incipitlaw10.CowNil", spec := "cowNil", inPlace := ["sync/atomic.AddInt64"], unfollowed := true, recurses := true, named := ["math/bits.deBruijn64tab"], plainKeys := false, apart := false, laid := [("math/bits.deBruijn64tab", laid_math_bits_deBruijn64tab)], narrowed := true }
def CowNilUptoSaid : Prop := cowNilUptoRow.holds Tryz.pinned (OpenSpec.upto cowNilSpec)

/-- 'incipitlaw11.StreamPlays', WHERE WHAT IT READS IS OF BULK AT MOST 1048576: true; the input reads as it did. -/
def streamPlaysUptoRow : OpenClaim := { program := "ytfhdojnobmfefaagreatdoor", sum := "501462444467fb37e06363bd72ba117c778d42b1561f38bbf0677eef46fb43e6", func := "incipit/incipitlaw11.StreamPlays", spec := "streamPlays", inPlace := ["sync/atomic.AddInt64"], unfollowed := true, recurses := true, named := ["math/bits.deBruijn64tab"], plainKeys := false, apart := false, laid := [("math/bits.deBruijn64tab", laid_math_bits_deBruijn64tab)], narrowed := true }
def StreamPlaysUptoSaid : Prop := streamPlaysUptoRow.holds Tryz.pinned (OpenSpec.upto streamPlaysSpec)

/-- 'incipitlaw11.StreamKeeps', WHERE WHAT IT READS IS OF BULK AT MOST 1048576: true; the input reads as it did. -/
def streamKeepsUptoRow : OpenClaim := { program := "ytfhdojnobmfefaagreatdoor", sum := "501462444467fb37e06363bd72ba117c778d42b1561f38bbf0677eef46fb43e6", func := "incipit/incipitlaw11.StreamKeeps", spec := "streamKeeps", inPlace := ["sync/atomic.AddInt64"], unfollowed := true, recurses := true, named := ["math/bits.deBruijn64tab"], plainKeys := false, apart := false, laid := [("math/bits.deBruijn64tab", laid_math_bits_deBruijn64tab)], narrowed := true }
def StreamKeepsUptoSaid : Prop := streamKeepsUptoRow.holds Tryz.pinned (OpenSpec.upto streamKeepsSpec)

/-- 'incipitlaw11.StreamNil', WHERE WHAT IT READS IS OF BULK AT MOST 1048576: true; the input reads as it did. -/
def streamNilUptoRow : OpenClaim := { program := "ytfhdojnobmfefaagreatdoor", sum := "501462444467fb37e06363bd72ba117c778d42b1561f38bbf0677eef46fb43e6", func := "incipit/incipitlaw11.StreamNil", spec := "streamNil", inPlace := ["sync/atomic.AddInt64"], unfollowed := true, recurses := true, named := ["math/bits.deBruijn64tab"], plainKeys := false, apart := false, laid := [("math/bits.deBruijn64tab", laid_math_bits_deBruijn64tab)], narrowed := true }
def StreamNilUptoSaid : Prop := streamNilUptoRow.holds Tryz.pinned (OpenSpec.upto streamNilSpec)

/-- 'incipitlaw11.StreamApart', WHERE WHAT IT READS IS OF BULK AT MOST 1048576: true; the input reads as it did. -/
def streamApartUptoRow : OpenClaim := { program := "ytfhdojnobmfefaagreatdoor", sum := "501462444467fb37e06363bd72ba117c778d42b1561f38bbf0677eef46fb43e6", func := "incipit/incipitlaw11.StreamApart", spec := "streamApart", inPlace := ["sync/atomic.AddInt64"], unfollowed := true, recurses := true, named := ["math/bits.deBruijn64tab"], plainKeys := false, apart := false, laid := [("math/bits.deBruijn64tab", laid_math_bits_deBruijn64tab)], narrowed := true }
def StreamApartUptoSaid : Prop := streamApartUptoRow.holds Tryz.pinned (OpenSpec.upto streamApartSpec)

end Rows
end Go.Proofs.YtfhdojnobmfefaaGreatDoor
