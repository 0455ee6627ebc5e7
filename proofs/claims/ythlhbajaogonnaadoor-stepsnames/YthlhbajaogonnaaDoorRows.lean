/-
  NARROWER THAN 'FOR EVERY INPUT', by the rows' own cells (each row's printed sentence says how): StepsNames: laid.
  DERIVED. THE GIVEN ROWS OF THIS SEAT. 1 by the template 'for every input the law returns true; each argument reads behind the call as it read before'; 0 by the template 'total and deterministic' (their statements: YthlhbajaogonnaaDoorTotals.lean).
  GIVEN WITH THE SEED: the statements are not yours to turn. If you find one false, say at which input.
  Laid BY PROGRAM, IN A SANDBOX (cutbox-rows.mjs): the forced cells as the released guide's own fill.sh prints them over the translation 4abc993b2fd4425e… (all of the seat's roots in one cut). By AI agents, Wed Nov 11 2026. No macro, syntax, notation, axiom, sorry.
-/
import Derived.Test.YthlhbajaogonnaaDoorChecked
import GoSem.Claim
import GoSem.ClaimJoined
import GoSem.ClaimMapViews
import Derived.JoinedTies
import Derived.KernelRfl
namespace Go.Proofs.YthlhbajaogonnaaDoor
/- THE CELL 'sum', in the pinned program and in every row, IS THE sha256 OF THE DUMP (.gsa) THAT YthlhbajaogonnaaDoorProg.lean LOADS. Nothing in Lean hashes anything: it is a label: what it is worth is what the hold of that sum in a sandbox is worth. -/
noncomputable def Tryd.pinned : Pinned := { name := "ythlhbajaogonnaadoor", sum := "4abc993b2fd4425e73b9fed39ba1498cea1ef4cbca109fdf21612c913fd55a55", checked := Tryd.checked }
namespace Rows
def none {H : Type} : Left H := { results := [], args := [] }

/- WHAT THE LISTED PACKAGE-LEVEL VARIABLES READ AS WHEN THE CALL BEGINS. Each datum BY PROGRAM (the guide's laid-datum.mjs) off the statement by which the dump's own 'gosem.cut.vars' lays the variable. In a bare row this is a premise. The card (YthlhbajaogonnaaDoorCards.lean) ties it to the program's text. -/
def laid_larch_steps_names {H : Type} : DataW H := .agg [.lit (.string [66, 76, 75]), .lit (.string [82, 66, 49]), .lit (.string [82, 66, 50]), .lit (.string [80, 85, 83, 72]), .lit (.string [87, 49]), .lit (.string [87, 50]), .lit (.string [87, 51]), .lit (.string [87, 52]), .lit (.string [87, 53]), .lit (.string [87, 54]), .lit (.string [87, 55]), .lit (.string [82, 79, 79, 84])]

/-- 'larchlaw18.StepsNames': WHATEVER THE INPUT: true; the input reads as it did. -/
def stepsNamesSpec : ChangeSpec := { name := "stepsNames", fn := fun _ => fun
  | [d1, d2] => { results := [.lit (.bool true)], args := [d1, d2] }
  | _ => none }
def stepsNamesRow : OpenClaim := { program := "ythlhbajaogonnaadoor", sum := "4abc993b2fd4425e73b9fed39ba1498cea1ef4cbca109fdf21612c913fd55a55", func := "larch/larchlaw18.StepsNames", spec := "stepsNames", unfollowed := true, recurses := true, named := ["larch/steps.names"], apart := false, laid := [("larch/steps.names", laid_larch_steps_names)] }
def StepsNamesSaid : Prop := stepsNamesRow.holds Tryd.pinned (OpenSpec.ofChange stepsNamesSpec)

/-- ITS FALSE NEIGHBOUR: 'it returns false'. Refute it at one input. -/
def stepsNamesWrong : ChangeSpec := { name := "stepsNames", fn := fun _ => fun
  | [d1, d2] => { results := [.lit (.bool false)], args := [d1, d2] }
  | _ => none }
def StepsNamesWrongFalsely : Prop := stepsNamesRow.holds Tryd.pinned (OpenSpec.ofChange stepsNamesWrong)

/- THE SECOND FORM. 'bulk': how many values and letters a reading holds, each counted each time it is reached (what is shared counts as often as it is met; a slice's spare places count too). A statement '..UptoSaid' is the law's where the arguments, and the package variables that the reading takes, are together of bulk at most 1048576: NARROWER than '..Said'. Prove '..Said' where nothing that the law and all that it calls make is longer than what came in: it says more and counts as full. Else prove '..UptoSaid'. A law counts once. -/
mutual
def uptoBulk {H : Type} : DataW H → Nat
  | .lit (.string bytes) => bytes.length + 1
  | .lit _ => 1
  | .nil => 1
  | .ptr d => uptoBulk d + 1
  | .slice elems spare => uptoBulkAll elems + uptoBulkAll spare + 1
  | .agg parts => uptoBulkAll parts + 1
  | .iface _ d => uptoBulk d + 1
  | .map entries => uptoBulkEntries entries + 1
  | .held _ => 1
def uptoBulkAll {H : Type} : List (DataW H) → Nat
  | [] => 0
  | d :: r => uptoBulk d + uptoBulkAll r
def uptoBulkEntries {H : Type} : List (Lit × DataW H) → Nat
  | [] => 0
  | x :: r => uptoBulkEntry x + uptoBulkEntries r
def uptoBulkEntry {H : Type} : Lit × DataW H → Nat
  | (.string bytes, d) => bytes.length + uptoBulk d + 1
  | (_, d) => uptoBulk d + 1
 end
def uptoSmall : (H : Type) → List (DataW H) → Bool := fun _ ds => decide (uptoBulkAll ds ≤ 1048576)
def OpenSpec.upto (s : _root_.Go.ChangeSpec) : _root_.Go.OpenSpec := { _root_.Go.OpenSpec.ofChange s with cond := some uptoSmall }

/-- 'larchlaw18.StepsNames', WHERE WHAT IT READS IS OF BULK AT MOST 1048576: true; the input reads as it did. -/
def stepsNamesUptoRow : OpenClaim := { program := "ythlhbajaogonnaadoor", sum := "4abc993b2fd4425e73b9fed39ba1498cea1ef4cbca109fdf21612c913fd55a55", func := "larch/larchlaw18.StepsNames", spec := "stepsNames", unfollowed := true, recurses := true, named := ["larch/steps.names"], apart := false, laid := [("larch/steps.names", laid_larch_steps_names)], narrowed := true }
def StepsNamesUptoSaid : Prop := stepsNamesUptoRow.holds Tryd.pinned (OpenSpec.upto stepsNamesSpec)

end Rows
end Go.Proofs.YthlhbajaogonnaaDoor
