/-
  DERIVED. GIVEN WITH THE SEED: THE CARDS: each row of YtiappccnjblcmaaGreatDoorRows.lean that lists a variable, with what it lists TIED to the program's text (the seventh form; the later family's looks); each row that meets fmt, with fmt's text TOLD by the authors' own Lean function (tested against real Go, not proved from fmt's source: count such statements apart). THE CARD IS WHAT COUNTS. Prove the row's statement (the work); the ties are given (YtiappccnjblcmaaGreatDoorTie.lean); close each card by the builder's one call (the guide's Derived/Test/ToyasCard.lean, 'card_holds'). Laid BY PROGRAM, IN A SANDBOX (cutbox-door.mjs). By AI agents, Wed Nov 11 2026. No macro, syntax, notation, axiom, sorry.
-/
import Derived.Test.YtiappccnjblcmaaGreatDoorRows
import GoSem.ClaimSeven
namespace Go.Proofs.YtiappccnjblcmaaGreatDoor
namespace Rows

/-- THE TIED CARD OF 'kauditlaw03.RecordParses'. -/
def recordParsesCard : Claim7 := { stood := { row := recordParsesRow, standIns := [], harness := (true, "d2ccb6e7ce5eaf06537b13e7cd7425b7eb244bcd667d8d0e56b515bad1602a95"), looks := true }, kinds := [], alts := [], laidByText := true, laidKinds := [.data, .data, .data, .data, .sentinel, .sentinel, .data, .data, .pinned], laidTests := true, laidLooks := .later }
def RecordParsesCardSaid : Prop := Claim7.holds Tryz.pinned (.plain (OpenSpec.ofChange recordParsesSpec)) recordParsesCard

/-- THE TIED CARD OF 'kauditlaw03.RecordBuilt'. -/
def recordBuiltCard : Claim7 := { stood := { row := recordBuiltRow, standIns := [], harness := (true, "d2ccb6e7ce5eaf06537b13e7cd7425b7eb244bcd667d8d0e56b515bad1602a95"), looks := true }, kinds := [], alts := [], laidByText := true, laidKinds := [.data, .data, .data, .data, .sentinel, .sentinel, .data, .data, .pinned], laidTests := true, laidLooks := .later }
def RecordBuiltCardSaid : Prop := Claim7.holds Tryz.pinned (.plain (OpenSpec.ofChange recordBuiltSpec)) recordBuiltCard

/-- THE TIED CARD OF 'kauditlaw03.RecordBack'. -/
def recordBackCard : Claim7 := { stood := { row := recordBackRow, standIns := [], harness := (true, "d2ccb6e7ce5eaf06537b13e7cd7425b7eb244bcd667d8d0e56b515bad1602a95"), looks := true }, kinds := [], alts := [], laidByText := true, laidKinds := [.data, .data, .data, .data, .sentinel, .sentinel, .data, .data, .pinned], laidTests := true, laidLooks := .later }
def RecordBackCardSaid : Prop := Claim7.holds Tryz.pinned (.plain (OpenSpec.ofChange recordBackSpec)) recordBackCard

/-- THE SECOND FORM's CARD OF 'kauditlaw03.RecordParses'. -/
def recordParsesUptoCard : Claim7 := { stood := { row := recordParsesUptoRow, standIns := [], harness := (true, "d2ccb6e7ce5eaf06537b13e7cd7425b7eb244bcd667d8d0e56b515bad1602a95"), looks := true }, kinds := [], alts := [], laidByText := true, laidKinds := [.data, .data, .data, .data, .sentinel, .sentinel, .data, .data, .pinned], laidTests := true, laidLooks := .later }
def RecordParsesUptoCardSaid : Prop := Claim7.holds Tryz.pinned (.plain (OpenSpec.upto recordParsesSpec)) recordParsesUptoCard

/-- THE SECOND FORM's CARD OF 'kauditlaw03.RecordBuilt'. -/
def recordBuiltUptoCard : Claim7 := { stood := { row := recordBuiltUptoRow, standIns := [], harness := (true, "d2ccb6e7ce5eaf06537b13e7cd7425b7eb244bcd667d8d0e56b515bad1602a95"), looks := true }, kinds := [], alts := [], laidByText := true, laidKinds := [.data, .data, .data, .data, .sentinel, .sentinel, .data, .data, .pinned], laidTests := true, laidLooks := .later }
def RecordBuiltUptoCardSaid : Prop := Claim7.holds Tryz.pinned (.plain (OpenSpec.upto recordBuiltSpec)) recordBuiltUptoCard

/-- THE SECOND FORM's CARD OF 'kauditlaw03.RecordBack'. -/
def recordBackUptoCard : Claim7 := { stood := { row := recordBackUptoRow, standIns := [], harness := (true, "d2ccb6e7ce5eaf06537b13e7cd7425b7eb244bcd667d8d0e56b515bad1602a95"), looks := true }, kinds := [], alts := [], laidByText := true, laidKinds := [.data, .data, .data, .data, .sentinel, .sentinel, .data, .data, .pinned], laidTests := true, laidLooks := .later }
def RecordBackUptoCardSaid : Prop := Claim7.holds Tryz.pinned (.plain (OpenSpec.upto recordBackSpec)) recordBackUptoCard
end Rows
end Go.Proofs.YtiappccnjblcmaaGreatDoor
