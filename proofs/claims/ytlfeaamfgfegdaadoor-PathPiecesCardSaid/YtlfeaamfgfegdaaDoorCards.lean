/-
  DERIVED. GIVEN WITH THE SEED: THE CARDS: each row of YtlfeaamfgfegdaaDoorRows.lean that lists a variable, with what it lists TIED to the program's text (the seventh form; the later family's looks); each row that meets fmt, with fmt's text TOLD by the authors' own Lean function (tested against real Go, not proved from fmt's source: count such statements apart). THE CARD IS WHAT COUNTS. Prove the row's statement (the work); the ties are given (YtlfeaamfgfegdaaDoorTie.lean); close each card by the builder's one call (the guide's Derived/Test/ToyasCard.lean, 'card_holds'). Laid BY PROGRAM, IN A SANDBOX (cutbox-door.mjs). By AI agents, Wed Nov 11 2026. No macro, syntax, notation, axiom, sorry.
-/
import Derived.Test.YtlfeaamfgfegdaaDoorRows
import GoSem.ClaimSeven
namespace Go.Proofs.YtlfeaamfgfegdaaDoor
namespace Rows

/-- THE TIED CARD OF 'kauditlaw04.PathTexts'. -/
def pathTextsCard : Claim7 := { stood := { row := pathTextsRow, standIns := [], harness := (true, "bbd9228ce28ae8774ca95e6860a1f2a48a1868e7d4f21f3953a2d407cd45d989"), looks := false }, kinds := [], alts := [], laidByText := true, laidKinds := [.data, .pinned], laidTests := true, laidLooks := .later }
def PathTextsCardSaid : Prop := Claim7.holds Tryd.pinned (.plain (OpenSpec.ofChange pathTextsSpec)) pathTextsCard

/-- THE TIED CARD OF 'kauditlaw04.PathPairs'. -/
def pathPairsCard : Claim7 := { stood := { row := pathPairsRow, standIns := [], harness := (true, "bbd9228ce28ae8774ca95e6860a1f2a48a1868e7d4f21f3953a2d407cd45d989"), looks := false }, kinds := [], alts := [], laidByText := true, laidKinds := [.data, .pinned], laidTests := true, laidLooks := .later }
def PathPairsCardSaid : Prop := Claim7.holds Tryd.pinned (.plain (OpenSpec.ofChange pathPairsSpec)) pathPairsCard

/-- THE TIED CARD OF 'kauditlaw04.PathBuilt'. -/
def pathBuiltCard : Claim7 := { stood := { row := pathBuiltRow, standIns := [], harness := (true, "bbd9228ce28ae8774ca95e6860a1f2a48a1868e7d4f21f3953a2d407cd45d989"), looks := false }, kinds := [], alts := [], laidByText := true, laidKinds := [.data, .pinned], laidTests := true, laidLooks := .later }
def PathBuiltCardSaid : Prop := Claim7.holds Tryd.pinned (.plain (OpenSpec.ofChange pathBuiltSpec)) pathBuiltCard

/-- THE TIED CARD OF 'kauditlaw04.PathBack'. -/
def pathBackCard : Claim7 := { stood := { row := pathBackRow, standIns := [], harness := (true, "bbd9228ce28ae8774ca95e6860a1f2a48a1868e7d4f21f3953a2d407cd45d989"), looks := false }, kinds := [], alts := [], laidByText := true, laidKinds := [.data, .pinned], laidTests := true, laidLooks := .later }
def PathBackCardSaid : Prop := Claim7.holds Tryd.pinned (.plain (OpenSpec.ofChange pathBackSpec)) pathBackCard

/-- THE TIED CARD OF 'kauditlaw04.PathOrder'. -/
def pathOrderCard : Claim7 := { stood := { row := pathOrderRow, standIns := [], harness := (true, "bbd9228ce28ae8774ca95e6860a1f2a48a1868e7d4f21f3953a2d407cd45d989"), looks := false }, kinds := [], alts := [], laidByText := true, laidKinds := [.data, .pinned], laidTests := true, laidLooks := .later }
def PathOrderCardSaid : Prop := Claim7.holds Tryd.pinned (.plain (OpenSpec.ofChange pathOrderSpec)) pathOrderCard

/-- THE TIED CARD OF 'kauditlaw04.PathPieces'. -/
def pathPiecesCard : Claim7 := { stood := { row := pathPiecesRow, standIns := [], harness := (true, "bbd9228ce28ae8774ca95e6860a1f2a48a1868e7d4f21f3953a2d407cd45d989"), looks := false }, kinds := [], alts := [], laidByText := true, laidKinds := [.data, .pinned], laidTests := true, laidLooks := .later }
def PathPiecesCardSaid : Prop := Claim7.holds Tryd.pinned (.plain (OpenSpec.ofChange pathPiecesSpec)) pathPiecesCard

/-- THE TIED CARD OF 'kauditlaw04.PathLimits'. -/
def pathLimitsCard : Claim7 := { stood := { row := pathLimitsRow, standIns := [], harness := (true, "bbd9228ce28ae8774ca95e6860a1f2a48a1868e7d4f21f3953a2d407cd45d989"), looks := false }, kinds := [], alts := [], laidByText := true, laidKinds := [.data, .pinned], laidTests := true, laidLooks := .later }
def PathLimitsCardSaid : Prop := Claim7.holds Tryd.pinned (.plain (OpenSpec.ofChange pathLimitsSpec)) pathLimitsCard

/-- THE SECOND FORM's CARD OF 'kauditlaw04.PathTexts'. -/
def pathTextsUptoCard : Claim7 := { stood := { row := pathTextsUptoRow, standIns := [], harness := (true, "bbd9228ce28ae8774ca95e6860a1f2a48a1868e7d4f21f3953a2d407cd45d989"), looks := false }, kinds := [], alts := [], laidByText := true, laidKinds := [.data, .pinned], laidTests := true, laidLooks := .later }
def PathTextsUptoCardSaid : Prop := Claim7.holds Tryd.pinned (.plain (OpenSpec.upto pathTextsSpec)) pathTextsUptoCard

/-- THE SECOND FORM's CARD OF 'kauditlaw04.PathPairs'. -/
def pathPairsUptoCard : Claim7 := { stood := { row := pathPairsUptoRow, standIns := [], harness := (true, "bbd9228ce28ae8774ca95e6860a1f2a48a1868e7d4f21f3953a2d407cd45d989"), looks := false }, kinds := [], alts := [], laidByText := true, laidKinds := [.data, .pinned], laidTests := true, laidLooks := .later }
def PathPairsUptoCardSaid : Prop := Claim7.holds Tryd.pinned (.plain (OpenSpec.upto pathPairsSpec)) pathPairsUptoCard

/-- THE SECOND FORM's CARD OF 'kauditlaw04.PathBuilt'. -/
def pathBuiltUptoCard : Claim7 := { stood := { row := pathBuiltUptoRow, standIns := [], harness := (true, "bbd9228ce28ae8774ca95e6860a1f2a48a1868e7d4f21f3953a2d407cd45d989"), looks := false }, kinds := [], alts := [], laidByText := true, laidKinds := [.data, .pinned], laidTests := true, laidLooks := .later }
def PathBuiltUptoCardSaid : Prop := Claim7.holds Tryd.pinned (.plain (OpenSpec.upto pathBuiltSpec)) pathBuiltUptoCard

/-- THE SECOND FORM's CARD OF 'kauditlaw04.PathBack'. -/
def pathBackUptoCard : Claim7 := { stood := { row := pathBackUptoRow, standIns := [], harness := (true, "bbd9228ce28ae8774ca95e6860a1f2a48a1868e7d4f21f3953a2d407cd45d989"), looks := false }, kinds := [], alts := [], laidByText := true, laidKinds := [.data, .pinned], laidTests := true, laidLooks := .later }
def PathBackUptoCardSaid : Prop := Claim7.holds Tryd.pinned (.plain (OpenSpec.upto pathBackSpec)) pathBackUptoCard

/-- THE SECOND FORM's CARD OF 'kauditlaw04.PathOrder'. -/
def pathOrderUptoCard : Claim7 := { stood := { row := pathOrderUptoRow, standIns := [], harness := (true, "bbd9228ce28ae8774ca95e6860a1f2a48a1868e7d4f21f3953a2d407cd45d989"), looks := false }, kinds := [], alts := [], laidByText := true, laidKinds := [.data, .pinned], laidTests := true, laidLooks := .later }
def PathOrderUptoCardSaid : Prop := Claim7.holds Tryd.pinned (.plain (OpenSpec.upto pathOrderSpec)) pathOrderUptoCard

/-- THE SECOND FORM's CARD OF 'kauditlaw04.PathPieces'. -/
def pathPiecesUptoCard : Claim7 := { stood := { row := pathPiecesUptoRow, standIns := [], harness := (true, "bbd9228ce28ae8774ca95e6860a1f2a48a1868e7d4f21f3953a2d407cd45d989"), looks := false }, kinds := [], alts := [], laidByText := true, laidKinds := [.data, .pinned], laidTests := true, laidLooks := .later }
def PathPiecesUptoCardSaid : Prop := Claim7.holds Tryd.pinned (.plain (OpenSpec.upto pathPiecesSpec)) pathPiecesUptoCard

/-- THE SECOND FORM's CARD OF 'kauditlaw04.PathLimits'. -/
def pathLimitsUptoCard : Claim7 := { stood := { row := pathLimitsUptoRow, standIns := [], harness := (true, "bbd9228ce28ae8774ca95e6860a1f2a48a1868e7d4f21f3953a2d407cd45d989"), looks := false }, kinds := [], alts := [], laidByText := true, laidKinds := [.data, .pinned], laidTests := true, laidLooks := .later }
def PathLimitsUptoCardSaid : Prop := Claim7.holds Tryd.pinned (.plain (OpenSpec.upto pathLimitsSpec)) pathLimitsUptoCard
end Rows
end Go.Proofs.YtlfeaamfgfegdaaDoor
