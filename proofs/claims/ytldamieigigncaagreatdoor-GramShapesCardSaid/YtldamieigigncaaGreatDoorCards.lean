/-
  DERIVED. GIVEN WITH THE SEED: THE CARDS: each row of YtldamieigigncaaGreatDoorRows.lean that lists a variable, with what it lists TIED to the program's text (the seventh form; the later family's looks); each row that meets fmt, with fmt's text TOLD by the authors' own Lean function (tested against real Go, not proved from fmt's source: count such statements apart). THE CARD IS WHAT COUNTS. Prove the row's statement (the work); the ties are given (YtldamieigigncaaGreatDoorTie.lean); close each card by the builder's one call (the guide's Derived/Test/ToyasCard.lean, 'card_holds'). Laid BY PROGRAM, IN A SANDBOX (cutbox-door.mjs). By AI agents, Wed Nov 11 2026. No macro, syntax, notation, axiom, sorry.
-/
import Derived.Test.YtldamieigigncaaGreatDoorRows
import GoSem.ClaimSeven
namespace Go.Proofs.YtldamieigigncaaGreatDoor
namespace Rows

/-- THE TIED CARD OF 'accidencelaw06.GramLoads'. -/
def gramLoadsCard : Claim7 := { stood := { row := gramLoadsRow, standIns := [], harness := (true, "9594a4ea51a2f52aedec66b8145f5bcfb50c959728cc406273ac2336d80378b6"), looks := true }, kinds := [], alts := [], laidByText := true, laidKinds := [.data, .data, .widerDeep, .widerDeep, .data, .data, .data, .data, .data, .sentinel, .sentinel, .pinned, .pinned], laidTests := true, laidLooks := .later }
def GramLoadsCardSaid : Prop := Claim7.holds Tryz.pinned (.plain (OpenSpec.ofChange gramLoadsSpec)) gramLoadsCard

/-- THE TIED CARD OF 'accidencelaw06.GramWeights'. -/
def gramWeightsCard : Claim7 := { stood := { row := gramWeightsRow, standIns := [], harness := (true, "9594a4ea51a2f52aedec66b8145f5bcfb50c959728cc406273ac2336d80378b6"), looks := true }, kinds := [], alts := [], laidByText := true, laidKinds := [.data, .data, .widerDeep, .widerDeep, .data, .data, .data, .data, .data, .sentinel, .sentinel, .pinned, .pinned], laidTests := true, laidLooks := .later }
def GramWeightsCardSaid : Prop := Claim7.holds Tryz.pinned (.plain (OpenSpec.ofChange gramWeightsSpec)) gramWeightsCard

/-- THE TIED CARD OF 'accidencelaw06.GramShapes'. -/
def gramShapesCard : Claim7 := { stood := { row := gramShapesRow, standIns := [], harness := (true, "9594a4ea51a2f52aedec66b8145f5bcfb50c959728cc406273ac2336d80378b6"), looks := true }, kinds := [], alts := [], laidByText := true, laidKinds := [.data, .data, .widerDeep, .widerDeep, .data, .data, .data, .data, .data, .sentinel, .sentinel, .pinned, .pinned], laidTests := true, laidLooks := .later }
def GramShapesCardSaid : Prop := Claim7.holds Tryz.pinned (.plain (OpenSpec.ofChange gramShapesSpec)) gramShapesCard

/-- THE SECOND FORM's CARD OF 'accidencelaw06.GramLoads'. -/
def gramLoadsUptoCard : Claim7 := { stood := { row := gramLoadsUptoRow, standIns := [], harness := (true, "9594a4ea51a2f52aedec66b8145f5bcfb50c959728cc406273ac2336d80378b6"), looks := true }, kinds := [], alts := [], laidByText := true, laidKinds := [.data, .data, .widerDeep, .widerDeep, .data, .data, .data, .data, .data, .sentinel, .sentinel, .pinned, .pinned], laidTests := true, laidLooks := .later }
def GramLoadsUptoCardSaid : Prop := Claim7.holds Tryz.pinned (.plain (OpenSpec.upto gramLoadsSpec)) gramLoadsUptoCard

/-- THE SECOND FORM's CARD OF 'accidencelaw06.GramWeights'. -/
def gramWeightsUptoCard : Claim7 := { stood := { row := gramWeightsUptoRow, standIns := [], harness := (true, "9594a4ea51a2f52aedec66b8145f5bcfb50c959728cc406273ac2336d80378b6"), looks := true }, kinds := [], alts := [], laidByText := true, laidKinds := [.data, .data, .widerDeep, .widerDeep, .data, .data, .data, .data, .data, .sentinel, .sentinel, .pinned, .pinned], laidTests := true, laidLooks := .later }
def GramWeightsUptoCardSaid : Prop := Claim7.holds Tryz.pinned (.plain (OpenSpec.upto gramWeightsSpec)) gramWeightsUptoCard

/-- THE SECOND FORM's CARD OF 'accidencelaw06.GramShapes'. -/
def gramShapesUptoCard : Claim7 := { stood := { row := gramShapesUptoRow, standIns := [], harness := (true, "9594a4ea51a2f52aedec66b8145f5bcfb50c959728cc406273ac2336d80378b6"), looks := true }, kinds := [], alts := [], laidByText := true, laidKinds := [.data, .data, .widerDeep, .widerDeep, .data, .data, .data, .data, .data, .sentinel, .sentinel, .pinned, .pinned], laidTests := true, laidLooks := .later }
def GramShapesUptoCardSaid : Prop := Claim7.holds Tryz.pinned (.plain (OpenSpec.upto gramShapesSpec)) gramShapesUptoCard
end Rows
end Go.Proofs.YtldamieigigncaaGreatDoor
