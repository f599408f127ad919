/-
  DERIVED. GIVEN WITH THE SEED: THE CARDS: each row of YtdndngabddnpmaaGreatDoorRows.lean that lists a variable, with what it lists TIED to the program's text (the seventh form; the later family's looks); each row that meets fmt, with fmt's text TOLD by the authors' own Lean function (tested against real Go, not proved from fmt's source: count such statements apart). THE CARD IS WHAT COUNTS. Prove the row's statement (the work); the ties are given (YtdndngabddnpmaaGreatDoorTie.lean); close each card by the builder's one call (the guide's Derived/Test/ToyasCard.lean, 'card_holds'). Laid BY PROGRAM, IN A SANDBOX (cutbox-door.mjs). By AI agents, Wed Nov 11 2026. No macro, syntax, notation, axiom, sorry.
-/
import Derived.Test.YtdndngabddnpmaaGreatDoorRows
import GoSem.ClaimSeven
namespace Go.Proofs.YtdndngabddnpmaaGreatDoor
namespace Rows

/-- THE TIED CARD OF 'kauditlaw03.RecordParses'. -/
def recordParsesCard : Claim7 := { stood := { row := recordParsesRow, standIns := [], harness := (true, "d163e5259405247fe9f4c8a95af9e97112f6394961a6c2a0b4fdf9c4d4653e0e"), looks := true }, kinds := [], alts := [], laidByText := true, laidKinds := [.data, .data, .data, .data, .sentinel, .sentinel, .data, .data, .pinned], laidTests := true, laidLooks := .later }
def RecordParsesCardSaid : Prop := Claim7.holds Tryz.pinned (.plain (OpenSpec.ofChange recordParsesSpec)) recordParsesCard

/-- THE TIED CARD OF 'kauditlaw03.RecordBuilt'. -/
def recordBuiltCard : Claim7 := { stood := { row := recordBuiltRow, standIns := [], harness := (true, "d163e5259405247fe9f4c8a95af9e97112f6394961a6c2a0b4fdf9c4d4653e0e"), looks := true }, kinds := [], alts := [], laidByText := true, laidKinds := [.data, .data, .data, .data, .sentinel, .sentinel, .data, .data, .pinned], laidTests := true, laidLooks := .later }
def RecordBuiltCardSaid : Prop := Claim7.holds Tryz.pinned (.plain (OpenSpec.ofChange recordBuiltSpec)) recordBuiltCard

/-- THE SECOND FORM's CARD OF 'kauditlaw03.RecordParses'. -/
def recordParsesUptoCard : Claim7 := { stood := { row := recordParsesUptoRow, standIns := [], harness := (true, "d163e5259405247fe9f4c8a95af9e97112f6394961a6c2a0b4fdf9c4d4653e0e"), looks := true }, kinds := [], alts := [], laidByText := true, laidKinds := [.data, .data, .data, .data, .sentinel, .sentinel, .data, .data, .pinned], laidTests := true, laidLooks := .later }
def RecordParsesUptoCardSaid : Prop := Claim7.holds Tryz.pinned (.plain (OpenSpec.upto recordParsesSpec)) recordParsesUptoCard

/-- THE SECOND FORM's CARD OF 'kauditlaw03.RecordBuilt'. -/
def recordBuiltUptoCard : Claim7 := { stood := { row := recordBuiltUptoRow, standIns := [], harness := (true, "d163e5259405247fe9f4c8a95af9e97112f6394961a6c2a0b4fdf9c4d4653e0e"), looks := true }, kinds := [], alts := [], laidByText := true, laidKinds := [.data, .data, .data, .data, .sentinel, .sentinel, .data, .data, .pinned], laidTests := true, laidLooks := .later }
def RecordBuiltUptoCardSaid : Prop := Claim7.holds Tryz.pinned (.plain (OpenSpec.upto recordBuiltSpec)) recordBuiltUptoCard
end Rows
end Go.Proofs.YtdndngabddnpmaaGreatDoor
