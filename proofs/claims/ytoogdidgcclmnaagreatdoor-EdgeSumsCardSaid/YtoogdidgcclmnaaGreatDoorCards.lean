/-
  DERIVED. GIVEN WITH THE SEED: THE CARDS: each row of YtoogdidgcclmnaaGreatDoorRows.lean that lists a variable, with what it lists TIED to the program's text (the seventh form; the later family's looks); each row that meets fmt, with fmt's text TOLD by the authors' own Lean function (tested against real Go, not proved from fmt's source: count such statements apart). THE CARD IS WHAT COUNTS. Prove the row's statement (the work); the ties are given (YtoogdidgcclmnaaGreatDoorTie.lean); close each card by the builder's one call (the guide's Derived/Test/ToyasCard.lean, 'card_holds'). Laid BY PROGRAM, IN A SANDBOX (cutbox-door.mjs). By AI agents, Wed Nov 11 2026. No macro, syntax, notation, axiom, sorry.
-/
import Derived.Test.YtoogdidgcclmnaaGreatDoorRows
import GoSem.ClaimSeven
namespace Go.Proofs.YtoogdidgcclmnaaGreatDoor
namespace Rows

/-- THE TIED CARD OF 'accidencelaw01.EdgeOrders'. -/
def edgeOrdersCard : Claim7 := { stood := { row := edgeOrdersRow, standIns := [], harness := (true, "3b1a49c8724489cbc7a65abf99279cc228c0b6b2db76e71d53c9c55f73f04d23"), looks := true }, kinds := [], alts := [], laidByText := true, laidKinds := [.data, .data, .widerDeep, .widerDeep, .data, .data, .data, .data, .data, .sentinel, .sentinel, .pinned, .pinned], laidTests := true, laidLooks := .later }
def EdgeOrdersCardSaid : Prop := Claim7.holds Tryz.pinned (.plain (OpenSpec.ofChange edgeOrdersSpec)) edgeOrdersCard

/-- THE TIED CARD OF 'accidencelaw01.EdgeSums'. -/
def edgeSumsCard : Claim7 := { stood := { row := edgeSumsRow, standIns := [], harness := (true, "3b1a49c8724489cbc7a65abf99279cc228c0b6b2db76e71d53c9c55f73f04d23"), looks := true }, kinds := [], alts := [], laidByText := true, laidKinds := [.data, .data, .widerDeep, .widerDeep, .data, .data, .data, .data, .data, .sentinel, .sentinel, .pinned, .pinned], laidTests := true, laidLooks := .later }
def EdgeSumsCardSaid : Prop := Claim7.holds Tryz.pinned (.plain (OpenSpec.ofChange edgeSumsSpec)) edgeSumsCard

/-- THE TIED CARD OF 'accidencelaw01.EdgeReads'. -/
def edgeReadsCard : Claim7 := { stood := { row := edgeReadsRow, standIns := [], harness := (true, "3b1a49c8724489cbc7a65abf99279cc228c0b6b2db76e71d53c9c55f73f04d23"), looks := true }, kinds := [], alts := [], laidByText := true, laidKinds := [.data, .data, .widerDeep, .widerDeep, .data, .data, .data, .data, .data, .sentinel, .sentinel, .pinned, .pinned], laidTests := true, laidLooks := .later }
def EdgeReadsCardSaid : Prop := Claim7.holds Tryz.pinned (.plain (OpenSpec.ofChange edgeReadsSpec)) edgeReadsCard

/-- THE TIED CARD OF 'accidencelaw01.EdgeLine'. -/
def edgeLineCard : Claim7 := { stood := { row := edgeLineRow, standIns := [], harness := (true, "3b1a49c8724489cbc7a65abf99279cc228c0b6b2db76e71d53c9c55f73f04d23"), looks := true }, kinds := [], alts := [], laidByText := true, laidKinds := [.data, .data, .widerDeep, .widerDeep, .data, .data, .data, .data, .data, .sentinel, .sentinel, .pinned, .pinned], laidTests := true, laidLooks := .later }
def EdgeLineCardSaid : Prop := Claim7.holds Tryz.pinned (.plain (OpenSpec.ofChange edgeLineSpec)) edgeLineCard

/-- THE TIED CARD OF 'accidencelaw01.EdgeBack'. -/
def edgeBackCard : Claim7 := { stood := { row := edgeBackRow, standIns := [], harness := (true, "3b1a49c8724489cbc7a65abf99279cc228c0b6b2db76e71d53c9c55f73f04d23"), looks := true }, kinds := [], alts := [], laidByText := true, laidKinds := [.data, .data, .widerDeep, .widerDeep, .data, .data, .data, .data, .data, .sentinel, .sentinel, .pinned, .pinned], laidTests := true, laidLooks := .later }
def EdgeBackCardSaid : Prop := Claim7.holds Tryz.pinned (.plain (OpenSpec.ofChange edgeBackSpec)) edgeBackCard

/-- THE SECOND FORM's CARD OF 'accidencelaw01.EdgeOrders'. -/
def edgeOrdersUptoCard : Claim7 := { stood := { row := edgeOrdersUptoRow, standIns := [], harness := (true, "3b1a49c8724489cbc7a65abf99279cc228c0b6b2db76e71d53c9c55f73f04d23"), looks := true }, kinds := [], alts := [], laidByText := true, laidKinds := [.data, .data, .widerDeep, .widerDeep, .data, .data, .data, .data, .data, .sentinel, .sentinel, .pinned, .pinned], laidTests := true, laidLooks := .later }
def EdgeOrdersUptoCardSaid : Prop := Claim7.holds Tryz.pinned (.plain (OpenSpec.upto edgeOrdersSpec)) edgeOrdersUptoCard

/-- THE SECOND FORM's CARD OF 'accidencelaw01.EdgeSums'. -/
def edgeSumsUptoCard : Claim7 := { stood := { row := edgeSumsUptoRow, standIns := [], harness := (true, "3b1a49c8724489cbc7a65abf99279cc228c0b6b2db76e71d53c9c55f73f04d23"), looks := true }, kinds := [], alts := [], laidByText := true, laidKinds := [.data, .data, .widerDeep, .widerDeep, .data, .data, .data, .data, .data, .sentinel, .sentinel, .pinned, .pinned], laidTests := true, laidLooks := .later }
def EdgeSumsUptoCardSaid : Prop := Claim7.holds Tryz.pinned (.plain (OpenSpec.upto edgeSumsSpec)) edgeSumsUptoCard

/-- THE SECOND FORM's CARD OF 'accidencelaw01.EdgeReads'. -/
def edgeReadsUptoCard : Claim7 := { stood := { row := edgeReadsUptoRow, standIns := [], harness := (true, "3b1a49c8724489cbc7a65abf99279cc228c0b6b2db76e71d53c9c55f73f04d23"), looks := true }, kinds := [], alts := [], laidByText := true, laidKinds := [.data, .data, .widerDeep, .widerDeep, .data, .data, .data, .data, .data, .sentinel, .sentinel, .pinned, .pinned], laidTests := true, laidLooks := .later }
def EdgeReadsUptoCardSaid : Prop := Claim7.holds Tryz.pinned (.plain (OpenSpec.upto edgeReadsSpec)) edgeReadsUptoCard

/-- THE SECOND FORM's CARD OF 'accidencelaw01.EdgeLine'. -/
def edgeLineUptoCard : Claim7 := { stood := { row := edgeLineUptoRow, standIns := [], harness := (true, "3b1a49c8724489cbc7a65abf99279cc228c0b6b2db76e71d53c9c55f73f04d23"), looks := true }, kinds := [], alts := [], laidByText := true, laidKinds := [.data, .data, .widerDeep, .widerDeep, .data, .data, .data, .data, .data, .sentinel, .sentinel, .pinned, .pinned], laidTests := true, laidLooks := .later }
def EdgeLineUptoCardSaid : Prop := Claim7.holds Tryz.pinned (.plain (OpenSpec.upto edgeLineSpec)) edgeLineUptoCard

/-- THE SECOND FORM's CARD OF 'accidencelaw01.EdgeBack'. -/
def edgeBackUptoCard : Claim7 := { stood := { row := edgeBackUptoRow, standIns := [], harness := (true, "3b1a49c8724489cbc7a65abf99279cc228c0b6b2db76e71d53c9c55f73f04d23"), looks := true }, kinds := [], alts := [], laidByText := true, laidKinds := [.data, .data, .widerDeep, .widerDeep, .data, .data, .data, .data, .data, .sentinel, .sentinel, .pinned, .pinned], laidTests := true, laidLooks := .later }
def EdgeBackUptoCardSaid : Prop := Claim7.holds Tryz.pinned (.plain (OpenSpec.upto edgeBackSpec)) edgeBackUptoCard
end Rows
end Go.Proofs.YtoogdidgcclmnaaGreatDoor
