/-
  DERIVED. GIVEN WITH THE SEED: THE CARDS: each row of YtfhdojnobmfefaaGreatDoorRows.lean that lists a variable, with what it lists TIED to the program's text (the seventh form; the later family's looks); each row that meets fmt, with fmt's text TOLD by the authors' own Lean function (tested against real Go, not proved from fmt's source: count such statements apart). THE CARD IS WHAT COUNTS. Prove the row's statement (the work); the ties are given (YtfhdojnobmfefaaGreatDoorTie.lean); close each card by the builder's one call (the guide's Derived/Test/ToyasCard.lean, 'card_holds'). Laid BY PROGRAM, IN A SANDBOX (cutbox-door.mjs). By AI agents, Wed Nov 11 2026. No macro, syntax, notation, axiom, sorry.
-/
import Derived.Test.YtfhdojnobmfefaaGreatDoorRows
import GoSem.ClaimSeven
namespace Go.Proofs.YtfhdojnobmfefaaGreatDoor
namespace Rows

/-- THE TIED CARD OF 'incipitlaw10.CowPlays'. -/
def cowPlaysCard : Claim7 := { stood := { row := cowPlaysRow, standIns := [], harness := (true, "423cd44cd5ecef7a7869b3191eb527facffe801d270441dc700dbac39d9079c6"), looks := false }, kinds := [], alts := [], laidByText := true, laidKinds := [.data], laidTests := true, laidLooks := .later }
def CowPlaysCardSaid : Prop := Claim7.holds Tryz.pinned (.plain (OpenSpec.ofChange cowPlaysSpec)) cowPlaysCard

/-- THE TIED CARD OF 'incipitlaw10.CowKeeps'. -/
def cowKeepsCard : Claim7 := { stood := { row := cowKeepsRow, standIns := [], harness := (true, "423cd44cd5ecef7a7869b3191eb527facffe801d270441dc700dbac39d9079c6"), looks := false }, kinds := [], alts := [], laidByText := true, laidKinds := [.data], laidTests := true, laidLooks := .later }
def CowKeepsCardSaid : Prop := Claim7.holds Tryz.pinned (.plain (OpenSpec.ofChange cowKeepsSpec)) cowKeepsCard

/-- THE TIED CARD OF 'incipitlaw10.CowGrows'. -/
def cowGrowsCard : Claim7 := { stood := { row := cowGrowsRow, standIns := [], harness := (true, "423cd44cd5ecef7a7869b3191eb527facffe801d270441dc700dbac39d9079c6"), looks := false }, kinds := [], alts := [], laidByText := true, laidKinds := [.data], laidTests := true, laidLooks := .later }
def CowGrowsCardSaid : Prop := Claim7.holds Tryz.pinned (.plain (OpenSpec.ofChange cowGrowsSpec)) cowGrowsCard

/-- THE TIED CARD OF 'incipitlaw10.CowNil'. -/
def cowNilCard : Claim7 := { stood := { row := cowNilRow, standIns := [], harness := (true, "423cd44cd5ecef7a7869b3191eb527facffe801d270441dc700dbac39d9079c6"), looks := false }, kinds := [], alts := [], laidByText := true, laidKinds := [.data], laidTests := true, laidLooks := .later }
def CowNilCardSaid : Prop := Claim7.holds Tryz.pinned (.plain (OpenSpec.ofChange cowNilSpec)) cowNilCard

/-- THE TIED CARD OF 'incipitlaw11.StreamPlays'. -/
def streamPlaysCard : Claim7 := { stood := { row := streamPlaysRow, standIns := [], harness := (true, "423cd44cd5ecef7a7869b3191eb527facffe801d270441dc700dbac39d9079c6"), looks := false }, kinds := [], alts := [], laidByText := true, laidKinds := [.data], laidTests := true, laidLooks := .later }
def StreamPlaysCardSaid : Prop := Claim7.holds Tryz.pinned (.plain (OpenSpec.ofChange streamPlaysSpec)) streamPlaysCard

/-- THE TIED CARD OF 'incipitlaw11.StreamKeeps'. -/
def streamKeepsCard : Claim7 := { stood := { row := streamKeepsRow, standIns := [], harness := (true, "423cd44cd5ecef7a7869b3191eb527facffe801d270441dc700dbac39d9079c6"), looks := false }, kinds := [], alts := [], laidByText := true, laidKinds := [.data], laidTests := true, laidLooks := .later }
def StreamKeepsCardSaid : Prop := Claim7.holds Tryz.pinned (.plain (OpenSpec.ofChange streamKeepsSpec)) streamKeepsCard

/-- THE TIED CARD OF 'incipitlaw11.StreamNil'. -/
def streamNilCard : Claim7 := { stood := { row := streamNilRow, standIns := [], harness := (true, "423cd44cd5ecef7a7869b3191eb527facffe801d270441dc700dbac39d9079c6"), looks := false }, kinds := [], alts := [], laidByText := true, laidKinds := [.data], laidTests := true, laidLooks := .later }
def StreamNilCardSaid : Prop := Claim7.holds Tryz.pinned (.plain (OpenSpec.ofChange streamNilSpec)) streamNilCard

/-- THE TIED CARD OF 'incipitlaw11.StreamApart'. -/
def streamApartCard : Claim7 := { stood := { row := streamApartRow, standIns := [], harness := (true, "423cd44cd5ecef7a7869b3191eb527facffe801d270441dc700dbac39d9079c6"), looks := false }, kinds := [], alts := [], laidByText := true, laidKinds := [.data], laidTests := true, laidLooks := .later }
def StreamApartCardSaid : Prop := Claim7.holds Tryz.pinned (.plain (OpenSpec.ofChange streamApartSpec)) streamApartCard

/-- THE SECOND FORM's CARD OF 'incipitlaw10.CowPlays'. -/
def cowPlaysUptoCard : Claim7 := { stood := { row := cowPlaysUptoRow, standIns := [], harness := (true, "423cd44cd5ecef7a7869b3191eb527facffe801d270441dc700dbac39d9079c6"), looks := false }, kinds := [], alts := [], laidByText := true, laidKinds := [.data], laidTests := true, laidLooks := .later }
def CowPlaysUptoCardSaid : Prop := Claim7.holds Tryz.pinned (.plain (OpenSpec.upto cowPlaysSpec)) cowPlaysUptoCard

/-- THE SECOND FORM's CARD OF 'incipitlaw10.CowKeeps'. -/
def cowKeepsUptoCard : Claim7 := { stood := { row := cowKeepsUptoRow, standIns := [], harness := (true, "423cd44cd5ecef7a7869b3191eb527facffe801d270441dc700dbac39d9079c6"), looks := false }, kinds := [], alts := [], laidByText := true, laidKinds := [.data], laidTests := true, laidLooks := .later }
def CowKeepsUptoCardSaid : Prop := Claim7.holds Tryz.pinned (.plain (OpenSpec.upto cowKeepsSpec)) cowKeepsUptoCard

/-- THE SECOND FORM's CARD OF 'incipitlaw10.CowGrows'. -/
def cowGrowsUptoCard : Claim7 := { stood := { row := cowGrowsUptoRow, standIns := [], harness := (true, "423cd44cd5ecef7a7869b3191eb527facffe801d270441dc700dbac39d9079c6"), looks := false }, kinds := [], alts := [], laidByText := true, laidKinds := [.data], laidTests := true, laidLooks := .later }
def CowGrowsUptoCardSaid : Prop := Claim7.holds Tryz.pinned (.plain (OpenSpec.upto cowGrowsSpec)) cowGrowsUptoCard

/-- THE SECOND FORM's CARD OF 'incipitlaw10.CowNil'. -/
def cowNilUptoCard : Claim7 := { stood := { row := cowNilUptoRow, standIns := [], harness := (true, "423cd44cd5ecef7a7869b3191eb527facffe801d270441dc700dbac39d9079c6"), looks := false }, kinds := [], alts := [], laidByText := true, laidKinds := [.data], laidTests := true, laidLooks := .later }
def CowNilUptoCardSaid : Prop := Claim7.holds Tryz.pinned (.plain (OpenSpec.upto cowNilSpec)) cowNilUptoCard

/-- THE SECOND FORM's CARD OF 'incipitlaw11.StreamPlays'. -/
def streamPlaysUptoCard : Claim7 := { stood := { row := streamPlaysUptoRow, standIns := [], harness := (true, "423cd44cd5ecef7a7869b3191eb527facffe801d270441dc700dbac39d9079c6"), looks := false }, kinds := [], alts := [], laidByText := true, laidKinds := [.data], laidTests := true, laidLooks := .later }
def StreamPlaysUptoCardSaid : Prop := Claim7.holds Tryz.pinned (.plain (OpenSpec.upto streamPlaysSpec)) streamPlaysUptoCard

/-- THE SECOND FORM's CARD OF 'incipitlaw11.StreamKeeps'. -/
def streamKeepsUptoCard : Claim7 := { stood := { row := streamKeepsUptoRow, standIns := [], harness := (true, "423cd44cd5ecef7a7869b3191eb527facffe801d270441dc700dbac39d9079c6"), looks := false }, kinds := [], alts := [], laidByText := true, laidKinds := [.data], laidTests := true, laidLooks := .later }
def StreamKeepsUptoCardSaid : Prop := Claim7.holds Tryz.pinned (.plain (OpenSpec.upto streamKeepsSpec)) streamKeepsUptoCard

/-- THE SECOND FORM's CARD OF 'incipitlaw11.StreamNil'. -/
def streamNilUptoCard : Claim7 := { stood := { row := streamNilUptoRow, standIns := [], harness := (true, "423cd44cd5ecef7a7869b3191eb527facffe801d270441dc700dbac39d9079c6"), looks := false }, kinds := [], alts := [], laidByText := true, laidKinds := [.data], laidTests := true, laidLooks := .later }
def StreamNilUptoCardSaid : Prop := Claim7.holds Tryz.pinned (.plain (OpenSpec.upto streamNilSpec)) streamNilUptoCard

/-- THE SECOND FORM's CARD OF 'incipitlaw11.StreamApart'. -/
def streamApartUptoCard : Claim7 := { stood := { row := streamApartUptoRow, standIns := [], harness := (true, "423cd44cd5ecef7a7869b3191eb527facffe801d270441dc700dbac39d9079c6"), looks := false }, kinds := [], alts := [], laidByText := true, laidKinds := [.data], laidTests := true, laidLooks := .later }
def StreamApartUptoCardSaid : Prop := Claim7.holds Tryz.pinned (.plain (OpenSpec.upto streamApartSpec)) streamApartUptoCard
end Rows
end Go.Proofs.YtfhdojnobmfefaaGreatDoor
