/-
  DERIVED. GIVEN WITH THE SEED: THE CARDS: each row of YtjekmkfpakdkeaaDoorRows.lean that lists a variable, with what it lists TIED to the program's text (the seventh form; the later family's looks); each row that meets fmt, with fmt's text TOLD by the authors' own Lean function (tested against real Go, not proved from fmt's source: count such statements apart). THE CARD IS WHAT COUNTS. Prove the row's statement (the work); the ties are given (YtjekmkfpakdkeaaDoorTie.lean); close each card by the builder's one call (the guide's Derived/Test/ToyasCard.lean, 'card_holds'). Laid BY PROGRAM, IN A SANDBOX (cutbox-door.mjs). By AI agents, Wed Nov 11 2026. No macro, syntax, notation, axiom, sorry.
-/
import Derived.Test.YtjekmkfpakdkeaaDoorRows
import GoSem.ClaimSeven
namespace Go.Proofs.YtjekmkfpakdkeaaDoor
namespace Rows

/-- THE TIED CARD OF 'larchlaw16.TableForms'. -/
def tableFormsCard : Claim7 := { stood := { row := tableFormsRow, standIns := [], harness := (true, "2407547b34e842a5b7da0a0132491c043257341700b42c87649fce240118a812"), looks := true }, kinds := [], alts := [], laidByText := true, laidKinds := [.data, .data, .data, .sentinel, .sentinel], laidTests := true, laidLooks := .later }
def TableFormsCardSaid : Prop := Claim7.holds Tryd.pinned (.plain (OpenSpec.ofChange tableFormsSpec)) tableFormsCard

/-- THE TIED CARD OF 'larchlaw16.TableLooks'. -/
def tableLooksCard : Claim7 := { stood := { row := tableLooksRow, standIns := [], harness := (true, "2407547b34e842a5b7da0a0132491c043257341700b42c87649fce240118a812"), looks := true }, kinds := [], alts := [], laidByText := true, laidKinds := [.data, .data, .data, .sentinel, .sentinel], laidTests := true, laidLooks := .later }
def TableLooksCardSaid : Prop := Claim7.holds Tryd.pinned (.plain (OpenSpec.ofChange tableLooksSpec)) tableLooksCard

/-- THE TIED CARD OF 'larchlaw16.TableParts'. -/
def tablePartsCard : Claim7 := { stood := { row := tablePartsRow, standIns := [], harness := (true, "2407547b34e842a5b7da0a0132491c043257341700b42c87649fce240118a812"), looks := true }, kinds := [], alts := [], laidByText := true, laidKinds := [.data, .data, .data, .sentinel, .sentinel], laidTests := true, laidLooks := .later }
def TablePartsCardSaid : Prop := Claim7.holds Tryd.pinned (.plain (OpenSpec.ofChange tablePartsSpec)) tablePartsCard

/-- THE TIED CARD OF 'larchlaw16.TableTexts'. -/
def tableTextsCard : Claim7 := { stood := { row := tableTextsRow, standIns := [], harness := (true, "2407547b34e842a5b7da0a0132491c043257341700b42c87649fce240118a812"), looks := true }, kinds := [], alts := [], laidByText := true, laidKinds := [.data, .data, .data, .sentinel, .sentinel], laidTests := true, laidLooks := .later }
def TableTextsCardSaid : Prop := Claim7.holds Tryd.pinned (.plain (OpenSpec.ofChange tableTextsSpec)) tableTextsCard

/-- THE TIED CARD OF 'larchlaw16.TableApart'. -/
def tableApartCard : Claim7 := { stood := { row := tableApartRow, standIns := [], harness := (true, "2407547b34e842a5b7da0a0132491c043257341700b42c87649fce240118a812"), looks := true }, kinds := [], alts := [], laidByText := true, laidKinds := [.data, .data, .data, .sentinel, .sentinel], laidTests := true, laidLooks := .later }
def TableApartCardSaid : Prop := Claim7.holds Tryd.pinned (.plain (OpenSpec.ofChange tableApartSpec)) tableApartCard

/-- THE TIED CARD OF 'larchlaw16.TableWalks'. -/
def tableWalksCard : Claim7 := { stood := { row := tableWalksRow, standIns := [], harness := (true, "2407547b34e842a5b7da0a0132491c043257341700b42c87649fce240118a812"), looks := true }, kinds := [], alts := [], laidByText := true, laidKinds := [.data, .data, .data, .sentinel, .sentinel], laidTests := true, laidLooks := .later }
def TableWalksCardSaid : Prop := Claim7.holds Tryd.pinned (.plain (OpenSpec.ofChange tableWalksSpec)) tableWalksCard

/-- THE TIED CARD OF 'larchlaw16.TableGrafts'. -/
def tableGraftsCard : Claim7 := { stood := { row := tableGraftsRow, standIns := [], harness := (true, "2407547b34e842a5b7da0a0132491c043257341700b42c87649fce240118a812"), looks := true }, kinds := [], alts := [], laidByText := true, laidKinds := [.data, .data, .data, .sentinel, .sentinel], laidTests := true, laidLooks := .later }
def TableGraftsCardSaid : Prop := Claim7.holds Tryd.pinned (.plain (OpenSpec.ofChange tableGraftsSpec)) tableGraftsCard

/-- THE TIED CARD OF 'larchlaw16.TableSpells'. -/
def tableSpellsCard : Claim7 := { stood := { row := tableSpellsRow, standIns := [], harness := (true, "2407547b34e842a5b7da0a0132491c043257341700b42c87649fce240118a812"), looks := true }, kinds := [], alts := [], laidByText := true, laidKinds := [.data, .data, .data, .sentinel, .sentinel], laidTests := true, laidLooks := .later }
def TableSpellsCardSaid : Prop := Claim7.holds Tryd.pinned (.plain (OpenSpec.ofChange tableSpellsSpec)) tableSpellsCard

/-- THE TIED CARD OF 'larchtop.LarchTables'. -/
def larchTablesCard : Claim7 := { stood := { row := larchTablesRow, standIns := [], harness := (true, "2407547b34e842a5b7da0a0132491c043257341700b42c87649fce240118a812"), looks := true }, kinds := [], alts := [], laidByText := true, laidKinds := [.data, .data, .data, .sentinel, .sentinel], laidTests := true, laidLooks := .later }
def LarchTablesCardSaid : Prop := Claim7.holds Tryd.pinned (.plain (OpenSpec.ofChange larchTablesSpec)) larchTablesCard

/-- THE SECOND FORM's CARD OF 'larchlaw16.TableForms'. -/
def tableFormsUptoCard : Claim7 := { stood := { row := tableFormsUptoRow, standIns := [], harness := (true, "2407547b34e842a5b7da0a0132491c043257341700b42c87649fce240118a812"), looks := true }, kinds := [], alts := [], laidByText := true, laidKinds := [.data, .data, .data, .sentinel, .sentinel], laidTests := true, laidLooks := .later }
def TableFormsUptoCardSaid : Prop := Claim7.holds Tryd.pinned (.plain (OpenSpec.upto tableFormsSpec)) tableFormsUptoCard

/-- THE SECOND FORM's CARD OF 'larchlaw16.TableLooks'. -/
def tableLooksUptoCard : Claim7 := { stood := { row := tableLooksUptoRow, standIns := [], harness := (true, "2407547b34e842a5b7da0a0132491c043257341700b42c87649fce240118a812"), looks := true }, kinds := [], alts := [], laidByText := true, laidKinds := [.data, .data, .data, .sentinel, .sentinel], laidTests := true, laidLooks := .later }
def TableLooksUptoCardSaid : Prop := Claim7.holds Tryd.pinned (.plain (OpenSpec.upto tableLooksSpec)) tableLooksUptoCard

/-- THE SECOND FORM's CARD OF 'larchlaw16.TableParts'. -/
def tablePartsUptoCard : Claim7 := { stood := { row := tablePartsUptoRow, standIns := [], harness := (true, "2407547b34e842a5b7da0a0132491c043257341700b42c87649fce240118a812"), looks := true }, kinds := [], alts := [], laidByText := true, laidKinds := [.data, .data, .data, .sentinel, .sentinel], laidTests := true, laidLooks := .later }
def TablePartsUptoCardSaid : Prop := Claim7.holds Tryd.pinned (.plain (OpenSpec.upto tablePartsSpec)) tablePartsUptoCard

/-- THE SECOND FORM's CARD OF 'larchlaw16.TableTexts'. -/
def tableTextsUptoCard : Claim7 := { stood := { row := tableTextsUptoRow, standIns := [], harness := (true, "2407547b34e842a5b7da0a0132491c043257341700b42c87649fce240118a812"), looks := true }, kinds := [], alts := [], laidByText := true, laidKinds := [.data, .data, .data, .sentinel, .sentinel], laidTests := true, laidLooks := .later }
def TableTextsUptoCardSaid : Prop := Claim7.holds Tryd.pinned (.plain (OpenSpec.upto tableTextsSpec)) tableTextsUptoCard

/-- THE SECOND FORM's CARD OF 'larchlaw16.TableApart'. -/
def tableApartUptoCard : Claim7 := { stood := { row := tableApartUptoRow, standIns := [], harness := (true, "2407547b34e842a5b7da0a0132491c043257341700b42c87649fce240118a812"), looks := true }, kinds := [], alts := [], laidByText := true, laidKinds := [.data, .data, .data, .sentinel, .sentinel], laidTests := true, laidLooks := .later }
def TableApartUptoCardSaid : Prop := Claim7.holds Tryd.pinned (.plain (OpenSpec.upto tableApartSpec)) tableApartUptoCard

/-- THE SECOND FORM's CARD OF 'larchlaw16.TableWalks'. -/
def tableWalksUptoCard : Claim7 := { stood := { row := tableWalksUptoRow, standIns := [], harness := (true, "2407547b34e842a5b7da0a0132491c043257341700b42c87649fce240118a812"), looks := true }, kinds := [], alts := [], laidByText := true, laidKinds := [.data, .data, .data, .sentinel, .sentinel], laidTests := true, laidLooks := .later }
def TableWalksUptoCardSaid : Prop := Claim7.holds Tryd.pinned (.plain (OpenSpec.upto tableWalksSpec)) tableWalksUptoCard

/-- THE SECOND FORM's CARD OF 'larchlaw16.TableGrafts'. -/
def tableGraftsUptoCard : Claim7 := { stood := { row := tableGraftsUptoRow, standIns := [], harness := (true, "2407547b34e842a5b7da0a0132491c043257341700b42c87649fce240118a812"), looks := true }, kinds := [], alts := [], laidByText := true, laidKinds := [.data, .data, .data, .sentinel, .sentinel], laidTests := true, laidLooks := .later }
def TableGraftsUptoCardSaid : Prop := Claim7.holds Tryd.pinned (.plain (OpenSpec.upto tableGraftsSpec)) tableGraftsUptoCard

/-- THE SECOND FORM's CARD OF 'larchlaw16.TableSpells'. -/
def tableSpellsUptoCard : Claim7 := { stood := { row := tableSpellsUptoRow, standIns := [], harness := (true, "2407547b34e842a5b7da0a0132491c043257341700b42c87649fce240118a812"), looks := true }, kinds := [], alts := [], laidByText := true, laidKinds := [.data, .data, .data, .sentinel, .sentinel], laidTests := true, laidLooks := .later }
def TableSpellsUptoCardSaid : Prop := Claim7.holds Tryd.pinned (.plain (OpenSpec.upto tableSpellsSpec)) tableSpellsUptoCard

/-- THE SECOND FORM's CARD OF 'larchtop.LarchTables'. -/
def larchTablesUptoCard : Claim7 := { stood := { row := larchTablesUptoRow, standIns := [], harness := (true, "2407547b34e842a5b7da0a0132491c043257341700b42c87649fce240118a812"), looks := true }, kinds := [], alts := [], laidByText := true, laidKinds := [.data, .data, .data, .sentinel, .sentinel], laidTests := true, laidLooks := .later }
def LarchTablesUptoCardSaid : Prop := Claim7.holds Tryd.pinned (.plain (OpenSpec.upto larchTablesSpec)) larchTablesUptoCard
end Rows
end Go.Proofs.YtjekmkfpakdkeaaDoor
