/-
  DERIVED. GIVEN WITH THE SEED: THE CARDS: each row of YtpdkfmanehgabaaDoorRows.lean that lists a variable, with what it lists TIED to the program's text (the seventh form; the later family's looks); each row that meets fmt, with fmt's text TOLD by the authors' own Lean function (tested against real Go, not proved from fmt's source: count such statements apart). THE CARD IS WHAT COUNTS. Prove the row's statement (the work); the ties are given (YtpdkfmanehgabaaDoorTie.lean); close each card by the builder's one call (the guide's Derived/Test/ToyasCard.lean, 'card_holds'). Laid BY PROGRAM, IN A SANDBOX (cutbox-door.mjs). By AI agents, Wed Nov 11 2026. No macro, syntax, notation, axiom, sorry.
-/
import Derived.Test.YtpdkfmanehgabaaDoorRows
import GoSem.ClaimSeven
namespace Go.Proofs.YtpdkfmanehgabaaDoor
namespace Rows

/-- THE TIED CARD OF 'incipitlaw06.BitmapPlays'. -/
def bitmapPlaysCard : Claim7 := { stood := { row := bitmapPlaysRow, standIns := [], harness := (true, "dd055ff16d19b6ae953d57d2bdf3cfbb823e8864da608063a29ec9d043d8bdfb"), looks := false }, kinds := [], alts := [], laidByText := true, laidKinds := [.data], laidTests := true, laidLooks := .later }
def BitmapPlaysCardSaid : Prop := Claim7.holds Tryd.pinned (.plain (OpenSpec.ofChange bitmapPlaysSpec)) bitmapPlaysCard

/-- THE TIED CARD OF 'incipitlaw06.BitmapParses'. -/
def bitmapParsesCard : Claim7 := { stood := { row := bitmapParsesRow, standIns := [], harness := (true, "dd055ff16d19b6ae953d57d2bdf3cfbb823e8864da608063a29ec9d043d8bdfb"), looks := false }, kinds := [], alts := [], laidByText := true, laidKinds := [.data], laidTests := true, laidLooks := .later }
def BitmapParsesCardSaid : Prop := Claim7.holds Tryd.pinned (.plain (OpenSpec.ofChange bitmapParsesSpec)) bitmapParsesCard

/-- THE TIED CARD OF 'incipitlaw06.BitmapSets'. -/
def bitmapSetsCard : Claim7 := { stood := { row := bitmapSetsRow, standIns := [], harness := (true, "dd055ff16d19b6ae953d57d2bdf3cfbb823e8864da608063a29ec9d043d8bdfb"), looks := false }, kinds := [], alts := [], laidByText := true, laidKinds := [.data], laidTests := true, laidLooks := .later }
def BitmapSetsCardSaid : Prop := Claim7.holds Tryd.pinned (.plain (OpenSpec.ofChange bitmapSetsSpec)) bitmapSetsCard

/-- THE TIED CARD OF 'incipitlaw06.BitmapNil'. -/
def bitmapNilCard : Claim7 := { stood := { row := bitmapNilRow, standIns := [], harness := (true, "dd055ff16d19b6ae953d57d2bdf3cfbb823e8864da608063a29ec9d043d8bdfb"), looks := false }, kinds := [], alts := [], laidByText := true, laidKinds := [.data], laidTests := true, laidLooks := .later }
def BitmapNilCardSaid : Prop := Claim7.holds Tryd.pinned (.plain (OpenSpec.ofChange bitmapNilSpec)) bitmapNilCard

/-- THE SECOND FORM's CARD OF 'incipitlaw06.BitmapPlays'. -/
def bitmapPlaysUptoCard : Claim7 := { stood := { row := bitmapPlaysUptoRow, standIns := [], harness := (true, "dd055ff16d19b6ae953d57d2bdf3cfbb823e8864da608063a29ec9d043d8bdfb"), looks := false }, kinds := [], alts := [], laidByText := true, laidKinds := [.data], laidTests := true, laidLooks := .later }
def BitmapPlaysUptoCardSaid : Prop := Claim7.holds Tryd.pinned (.plain (OpenSpec.upto bitmapPlaysSpec)) bitmapPlaysUptoCard

/-- THE SECOND FORM's CARD OF 'incipitlaw06.BitmapParses'. -/
def bitmapParsesUptoCard : Claim7 := { stood := { row := bitmapParsesUptoRow, standIns := [], harness := (true, "dd055ff16d19b6ae953d57d2bdf3cfbb823e8864da608063a29ec9d043d8bdfb"), looks := false }, kinds := [], alts := [], laidByText := true, laidKinds := [.data], laidTests := true, laidLooks := .later }
def BitmapParsesUptoCardSaid : Prop := Claim7.holds Tryd.pinned (.plain (OpenSpec.upto bitmapParsesSpec)) bitmapParsesUptoCard

/-- THE SECOND FORM's CARD OF 'incipitlaw06.BitmapSets'. -/
def bitmapSetsUptoCard : Claim7 := { stood := { row := bitmapSetsUptoRow, standIns := [], harness := (true, "dd055ff16d19b6ae953d57d2bdf3cfbb823e8864da608063a29ec9d043d8bdfb"), looks := false }, kinds := [], alts := [], laidByText := true, laidKinds := [.data], laidTests := true, laidLooks := .later }
def BitmapSetsUptoCardSaid : Prop := Claim7.holds Tryd.pinned (.plain (OpenSpec.upto bitmapSetsSpec)) bitmapSetsUptoCard

/-- THE SECOND FORM's CARD OF 'incipitlaw06.BitmapNil'. -/
def bitmapNilUptoCard : Claim7 := { stood := { row := bitmapNilUptoRow, standIns := [], harness := (true, "dd055ff16d19b6ae953d57d2bdf3cfbb823e8864da608063a29ec9d043d8bdfb"), looks := false }, kinds := [], alts := [], laidByText := true, laidKinds := [.data], laidTests := true, laidLooks := .later }
def BitmapNilUptoCardSaid : Prop := Claim7.holds Tryd.pinned (.plain (OpenSpec.upto bitmapNilSpec)) bitmapNilUptoCard
end Rows
end Go.Proofs.YtpdkfmanehgabaaDoor
