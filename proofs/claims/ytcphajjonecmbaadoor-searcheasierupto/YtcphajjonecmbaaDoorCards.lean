/-
  DERIVED. GIVEN WITH THE SEED: THE CARDS: each row of YtcphajjonecmbaaDoorRows.lean that lists a variable, with what it lists TIED to the program's text (the seventh form; the later family's looks); each row that meets fmt, with fmt's text TOLD by the authors' own Lean function (tested against real Go, not proved from fmt's source: count such statements apart). THE CARD IS WHAT COUNTS. Prove the row's statement (the work); the ties are given (YtcphajjonecmbaaDoorTie.lean); close each card by the builder's one call (the guide's Derived/Test/ToyasCard.lean, 'card_holds'). Laid BY PROGRAM, IN A SANDBOX (cutbox-door.mjs). By AI agents, Wed Nov 11 2026. No macro, syntax, notation, axiom, sorry.
-/
import Derived.Test.YtcphajjonecmbaaDoorRows
import GoSem.ClaimSeven
namespace Go.Proofs.YtcphajjonecmbaaDoor
namespace Rows

/-- THE TIED CARD OF 'larchlaw07.SearchDoes'. -/
def searchDoesCard : Claim7 := { stood := { row := searchDoesRow, standIns := [], harness := (true, "4e9844a7b1cc5e119318a6b6ead0da5958dd47b795122b3d77fe31aaa7806c5a"), looks := false }, kinds := [], alts := [], laidByText := true, laidKinds := [.data], laidTests := true, laidLooks := .later }
def SearchDoesCardSaid : Prop := Claim7.holds Tryd.pinned (.plain (OpenSpec.ofChange searchDoesSpec)) searchDoesCard

/-- THE TIED CARD OF 'larchlaw07.SearchFinds'. -/
def searchFindsCard : Claim7 := { stood := { row := searchFindsRow, standIns := [], harness := (true, "4e9844a7b1cc5e119318a6b6ead0da5958dd47b795122b3d77fe31aaa7806c5a"), looks := false }, kinds := [], alts := [], laidByText := true, laidKinds := [.data], laidTests := true, laidLooks := .later }
def SearchFindsCardSaid : Prop := Claim7.holds Tryd.pinned (.plain (OpenSpec.ofChange searchFindsSpec)) searchFindsCard

/-- THE TIED CARD OF 'larchlaw07.SearchWitness'. -/
def searchWitnessCard : Claim7 := { stood := { row := searchWitnessRow, standIns := [], harness := (true, "4e9844a7b1cc5e119318a6b6ead0da5958dd47b795122b3d77fe31aaa7806c5a"), looks := false }, kinds := [], alts := [], laidByText := true, laidKinds := [.data], laidTests := true, laidLooks := .later }
def SearchWitnessCardSaid : Prop := Claim7.holds Tryd.pinned (.plain (OpenSpec.ofChange searchWitnessSpec)) searchWitnessCard

/-- THE TIED CARD OF 'larchlaw07.SearchRows'. -/
def searchRowsCard : Claim7 := { stood := { row := searchRowsRow, standIns := [], harness := (true, "4e9844a7b1cc5e119318a6b6ead0da5958dd47b795122b3d77fe31aaa7806c5a"), looks := false }, kinds := [], alts := [], laidByText := true, laidKinds := [.data], laidTests := true, laidLooks := .later }
def SearchRowsCardSaid : Prop := Claim7.holds Tryd.pinned (.plain (OpenSpec.ofChange searchRowsSpec)) searchRowsCard

/-- THE TIED CARD OF 'larchlaw07.SearchEasier'. -/
def searchEasierCard : Claim7 := { stood := { row := searchEasierRow, standIns := [], harness := (true, "4e9844a7b1cc5e119318a6b6ead0da5958dd47b795122b3d77fe31aaa7806c5a"), looks := false }, kinds := [], alts := [], laidByText := true, laidKinds := [.data], laidTests := true, laidLooks := .later }
def SearchEasierCardSaid : Prop := Claim7.holds Tryd.pinned (.plain (OpenSpec.ofChange searchEasierSpec)) searchEasierCard

/-- THE TIED CARD OF 'larchlaw07.SearchKeeps'. -/
def searchKeepsCard : Claim7 := { stood := { row := searchKeepsRow, standIns := [], harness := (true, "4e9844a7b1cc5e119318a6b6ead0da5958dd47b795122b3d77fe31aaa7806c5a"), looks := false }, kinds := [], alts := [], laidByText := true, laidKinds := [.data], laidTests := true, laidLooks := .later }
def SearchKeepsCardSaid : Prop := Claim7.holds Tryd.pinned (.plain (OpenSpec.ofChange searchKeepsSpec)) searchKeepsCard

/-- THE TIED CARD OF 'larchtop.LarchFinds'. -/
def larchFindsCard : Claim7 := { stood := { row := larchFindsRow, standIns := [], harness := (true, "4e9844a7b1cc5e119318a6b6ead0da5958dd47b795122b3d77fe31aaa7806c5a"), looks := false }, kinds := [], alts := [], laidByText := true, laidKinds := [.data], laidTests := true, laidLooks := .later }
def LarchFindsCardSaid : Prop := Claim7.holds Tryd.pinned (.plain (OpenSpec.ofChange larchFindsSpec)) larchFindsCard

/-- THE SECOND FORM's CARD OF 'larchlaw07.SearchDoes'. -/
def searchDoesUptoCard : Claim7 := { stood := { row := searchDoesUptoRow, standIns := [], harness := (true, "4e9844a7b1cc5e119318a6b6ead0da5958dd47b795122b3d77fe31aaa7806c5a"), looks := false }, kinds := [], alts := [], laidByText := true, laidKinds := [.data], laidTests := true, laidLooks := .later }
def SearchDoesUptoCardSaid : Prop := Claim7.holds Tryd.pinned (.plain (OpenSpec.upto searchDoesSpec)) searchDoesUptoCard

/-- THE SECOND FORM's CARD OF 'larchlaw07.SearchFinds'. -/
def searchFindsUptoCard : Claim7 := { stood := { row := searchFindsUptoRow, standIns := [], harness := (true, "4e9844a7b1cc5e119318a6b6ead0da5958dd47b795122b3d77fe31aaa7806c5a"), looks := false }, kinds := [], alts := [], laidByText := true, laidKinds := [.data], laidTests := true, laidLooks := .later }
def SearchFindsUptoCardSaid : Prop := Claim7.holds Tryd.pinned (.plain (OpenSpec.upto searchFindsSpec)) searchFindsUptoCard

/-- THE SECOND FORM's CARD OF 'larchlaw07.SearchWitness'. -/
def searchWitnessUptoCard : Claim7 := { stood := { row := searchWitnessUptoRow, standIns := [], harness := (true, "4e9844a7b1cc5e119318a6b6ead0da5958dd47b795122b3d77fe31aaa7806c5a"), looks := false }, kinds := [], alts := [], laidByText := true, laidKinds := [.data], laidTests := true, laidLooks := .later }
def SearchWitnessUptoCardSaid : Prop := Claim7.holds Tryd.pinned (.plain (OpenSpec.upto searchWitnessSpec)) searchWitnessUptoCard

/-- THE SECOND FORM's CARD OF 'larchlaw07.SearchRows'. -/
def searchRowsUptoCard : Claim7 := { stood := { row := searchRowsUptoRow, standIns := [], harness := (true, "4e9844a7b1cc5e119318a6b6ead0da5958dd47b795122b3d77fe31aaa7806c5a"), looks := false }, kinds := [], alts := [], laidByText := true, laidKinds := [.data], laidTests := true, laidLooks := .later }
def SearchRowsUptoCardSaid : Prop := Claim7.holds Tryd.pinned (.plain (OpenSpec.upto searchRowsSpec)) searchRowsUptoCard

/-- THE SECOND FORM's CARD OF 'larchlaw07.SearchEasier'. -/
def searchEasierUptoCard : Claim7 := { stood := { row := searchEasierUptoRow, standIns := [], harness := (true, "4e9844a7b1cc5e119318a6b6ead0da5958dd47b795122b3d77fe31aaa7806c5a"), looks := false }, kinds := [], alts := [], laidByText := true, laidKinds := [.data], laidTests := true, laidLooks := .later }
def SearchEasierUptoCardSaid : Prop := Claim7.holds Tryd.pinned (.plain (OpenSpec.upto searchEasierSpec)) searchEasierUptoCard

/-- THE SECOND FORM's CARD OF 'larchlaw07.SearchKeeps'. -/
def searchKeepsUptoCard : Claim7 := { stood := { row := searchKeepsUptoRow, standIns := [], harness := (true, "4e9844a7b1cc5e119318a6b6ead0da5958dd47b795122b3d77fe31aaa7806c5a"), looks := false }, kinds := [], alts := [], laidByText := true, laidKinds := [.data], laidTests := true, laidLooks := .later }
def SearchKeepsUptoCardSaid : Prop := Claim7.holds Tryd.pinned (.plain (OpenSpec.upto searchKeepsSpec)) searchKeepsUptoCard

/-- THE SECOND FORM's CARD OF 'larchtop.LarchFinds'. -/
def larchFindsUptoCard : Claim7 := { stood := { row := larchFindsUptoRow, standIns := [], harness := (true, "4e9844a7b1cc5e119318a6b6ead0da5958dd47b795122b3d77fe31aaa7806c5a"), looks := false }, kinds := [], alts := [], laidByText := true, laidKinds := [.data], laidTests := true, laidLooks := .later }
def LarchFindsUptoCardSaid : Prop := Claim7.holds Tryd.pinned (.plain (OpenSpec.upto larchFindsSpec)) larchFindsUptoCard
end Rows
end Go.Proofs.YtcphajjonecmbaaDoor
