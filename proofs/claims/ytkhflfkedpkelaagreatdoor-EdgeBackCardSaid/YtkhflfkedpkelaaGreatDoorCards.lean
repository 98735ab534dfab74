/-
  DERIVED. GIVEN WITH THE SEED: THE CARDS: each row of YtkhflfkedpkelaaGreatDoorRows.lean that lists a variable, with what it lists TIED to the program's text (the seventh form; the later family's looks); each row that meets fmt, with fmt's text TOLD by the authors' own Lean function (tested against real Go, not proved from fmt's source: count such statements apart). THE CARD IS WHAT COUNTS. Prove the row's statement (the work); the ties are given (YtkhflfkedpkelaaGreatDoorTie.lean); close each card by the builder's one call (the guide's Derived/Test/ToyasCard.lean, 'card_holds'). Laid BY PROGRAM, IN A SANDBOX (cutbox-door.mjs). By AI agents, Wed Nov 11 2026. No macro, syntax, notation, axiom, sorry.
-/
import Derived.Test.YtkhflfkedpkelaaGreatDoorRows
import GoSem.ClaimSeven
namespace Go.Proofs.YtkhflfkedpkelaaGreatDoor
namespace Rows

/-- THE TIED CARD OF 'accidencelaw01.EdgeReads'. -/
def edgeReadsCard : Claim7 := { stood := { row := edgeReadsRow, standIns := [], harness := (true, "d3c48b4d5ccfab02184952776060b2a71e9c01bf8f6e45653f3c23406bd6ca0e"), looks := true }, kinds := [], alts := [], laidByText := true, laidKinds := [.data, .data, .widerDeep, .widerDeep, .data, .data, .data, .data, .data, .sentinel, .sentinel, .pinned, .pinned], laidTests := true, laidLooks := .later }
def EdgeReadsCardSaid : Prop := Claim7.holds Tryz.pinned (.plain (OpenSpec.ofChange edgeReadsSpec)) edgeReadsCard

/-- THE TIED CARD OF 'accidencelaw01.EdgeBack'. -/
def edgeBackCard : Claim7 := { stood := { row := edgeBackRow, standIns := [], harness := (true, "d3c48b4d5ccfab02184952776060b2a71e9c01bf8f6e45653f3c23406bd6ca0e"), looks := true }, kinds := [], alts := [], laidByText := true, laidKinds := [.data, .data, .widerDeep, .widerDeep, .data, .data, .data, .data, .data, .sentinel, .sentinel, .pinned, .pinned], laidTests := true, laidLooks := .later }
def EdgeBackCardSaid : Prop := Claim7.holds Tryz.pinned (.plain (OpenSpec.ofChange edgeBackSpec)) edgeBackCard

/-- THE SECOND FORM's CARD OF 'accidencelaw01.EdgeReads'. -/
def edgeReadsUptoCard : Claim7 := { stood := { row := edgeReadsUptoRow, standIns := [], harness := (true, "d3c48b4d5ccfab02184952776060b2a71e9c01bf8f6e45653f3c23406bd6ca0e"), looks := true }, kinds := [], alts := [], laidByText := true, laidKinds := [.data, .data, .widerDeep, .widerDeep, .data, .data, .data, .data, .data, .sentinel, .sentinel, .pinned, .pinned], laidTests := true, laidLooks := .later }
def EdgeReadsUptoCardSaid : Prop := Claim7.holds Tryz.pinned (.plain (OpenSpec.upto edgeReadsSpec)) edgeReadsUptoCard

/-- THE SECOND FORM's CARD OF 'accidencelaw01.EdgeBack'. -/
def edgeBackUptoCard : Claim7 := { stood := { row := edgeBackUptoRow, standIns := [], harness := (true, "d3c48b4d5ccfab02184952776060b2a71e9c01bf8f6e45653f3c23406bd6ca0e"), looks := true }, kinds := [], alts := [], laidByText := true, laidKinds := [.data, .data, .widerDeep, .widerDeep, .data, .data, .data, .data, .data, .sentinel, .sentinel, .pinned, .pinned], laidTests := true, laidLooks := .later }
def EdgeBackUptoCardSaid : Prop := Claim7.holds Tryz.pinned (.plain (OpenSpec.upto edgeBackSpec)) edgeBackUptoCard
end Rows
end Go.Proofs.YtkhflfkedpkelaaGreatDoor
