/-
  DERIVED. GIVEN WITH THE SEED: THE CARDS: each row of YtgiblcieplnncaaGreatDoorRows.lean that lists a variable, with what it lists TIED to the program's text (the seventh form; the later family's looks); each row that meets fmt, with fmt's text TOLD by the authors' own Lean function (tested against real Go, not proved from fmt's source: count such statements apart). THE CARD IS WHAT COUNTS. Prove the row's statement (the work); the ties are given (YtgiblcieplnncaaGreatDoorTie.lean); close each card by the builder's one call (the guide's Derived/Test/ToyasCard.lean, 'card_holds'). Laid BY PROGRAM, IN A SANDBOX (cutbox-door.mjs). By AI agents, Wed Nov 11 2026. No macro, syntax, notation, axiom, sorry.
-/
import Derived.Test.YtgiblcieplnncaaGreatDoorRows
import GoSem.ClaimSeven
namespace Go.Proofs.YtgiblcieplnncaaGreatDoor
namespace Rows

/-- THE TIED CARD OF 'larchlaw28.ShellOps'. -/
def shellOpsCard : Claim7 := { stood := { row := shellOpsRow, standIns := [], harness := (true, "82925bea6686a2c111802aac25dece699e9976a45f3217e40fd304529f8ed640"), looks := true }, kinds := [], alts := [], goes := true, laidByText := true, laidKinds := [.data, .data, .data, .sentinel, .sentinel, .data], laidTests := true, laidLooks := .later }
def ShellOpsCardSaid : Prop := Claim7.holds Tryz.pinned (.plain (OpenSpec.ofChange shellOpsSpec)) shellOpsCard

/-- THE TIED CARD OF 'larchlaw28.ShellTells'. -/
def shellTellsCard : Claim7 := { stood := { row := shellTellsRow, standIns := [], harness := (true, "82925bea6686a2c111802aac25dece699e9976a45f3217e40fd304529f8ed640"), looks := true }, kinds := [], alts := [], goes := true, laidByText := true, laidKinds := [.data, .data, .data, .sentinel, .sentinel, .data], laidTests := true, laidLooks := .later }
def ShellTellsCardSaid : Prop := Claim7.holds Tryz.pinned (.plain (OpenSpec.ofChange shellTellsSpec)) shellTellsCard

/-- THE SECOND FORM's CARD OF 'larchlaw28.ShellOps'. -/
def shellOpsUptoCard : Claim7 := { stood := { row := shellOpsUptoRow, standIns := [], harness := (true, "82925bea6686a2c111802aac25dece699e9976a45f3217e40fd304529f8ed640"), looks := true }, kinds := [], alts := [], goes := true, laidByText := true, laidKinds := [.data, .data, .data, .sentinel, .sentinel, .data], laidTests := true, laidLooks := .later }
def ShellOpsUptoCardSaid : Prop := Claim7.holds Tryz.pinned (.plain (OpenSpec.upto shellOpsSpec)) shellOpsUptoCard

/-- THE SECOND FORM's CARD OF 'larchlaw28.ShellTells'. -/
def shellTellsUptoCard : Claim7 := { stood := { row := shellTellsUptoRow, standIns := [], harness := (true, "82925bea6686a2c111802aac25dece699e9976a45f3217e40fd304529f8ed640"), looks := true }, kinds := [], alts := [], goes := true, laidByText := true, laidKinds := [.data, .data, .data, .sentinel, .sentinel, .data], laidTests := true, laidLooks := .later }
def ShellTellsUptoCardSaid : Prop := Claim7.holds Tryz.pinned (.plain (OpenSpec.upto shellTellsSpec)) shellTellsUptoCard
end Rows
end Go.Proofs.YtgiblcieplnncaaGreatDoor
