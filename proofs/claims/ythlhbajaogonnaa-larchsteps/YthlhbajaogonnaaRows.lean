/-
  No cell of these rows narrows 'for every input' (looked for: loops, veiled, ifaces, maps, wideKeys, modest, calm, conditions, laid).
  DERIVED. THE GIVEN ROWS OF THIS SEAT. 3 by the template 'for every input the law returns true; each argument reads behind the call as it read before'; 0 by the template 'total and deterministic' (their statements: YthlhbajaogonnaaTotals.lean).
  GIVEN WITH THE SEED: the statements are not yours to turn. If you find one false, say at which input.
  Laid BY PROGRAM, IN A SANDBOX (cutbox-rows.mjs): the forced cells as the released guide's own fill.sh prints them over the translation 1320005fbdee1476… (all of the seat's roots in one cut). By AI agents, Wed Nov 11 2026. No macro, syntax, notation, axiom, sorry.
-/
import Derived.Test.YthlhbajaogonnaaChecked
import GoSem.Claim
import GoSem.ClaimJoined
import GoSem.ClaimMapViews
import Derived.JoinedTies
import Derived.KernelRfl
namespace Go.Proofs.Ythlhbajaogonnaa
/- THE CELL 'sum', in the pinned program and in every row, IS THE sha256 OF THE DUMP (.gsa) THAT YthlhbajaogonnaaProg.lean LOADS. Nothing in Lean hashes anything: it is a label: what it is worth is what the hold of that sum in a sandbox is worth. -/
noncomputable def Try.pinned : Pinned := { name := "ythlhbajaogonnaa", sum := "1320005fbdee1476bb878728cd61113fc6d4273d198aeba77c36ce14d8851589", checked := Try.checked }
namespace Rows
def none {H : Type} : Left H := { results := [], args := [] }

/-- 'larchlaw18.StepsDo': WHATEVER THE INPUT: true; the input reads as it did. -/
def stepsDoSpec : ChangeSpec := { name := "stepsDo", fn := fun _ => fun
  | [d1, d2, d3] => { results := [.lit (.bool true)], args := [d1, d2, d3] }
  | _ => none }
def stepsDoRow : OpenClaim := { program := "ythlhbajaogonnaa", sum := "1320005fbdee1476bb878728cd61113fc6d4273d198aeba77c36ce14d8851589", func := "larch/larchlaw18.StepsDo", spec := "stepsDo", unfollowed := true, recurses := true, apart := false }
def StepsDoSaid : Prop := stepsDoRow.holds Try.pinned (OpenSpec.ofChange stepsDoSpec)

/-- ITS FALSE NEIGHBOUR: 'it returns false'. Refute it at one input. -/
def stepsDoWrong : ChangeSpec := { name := "stepsDo", fn := fun _ => fun
  | [d1, d2, d3] => { results := [.lit (.bool false)], args := [d1, d2, d3] }
  | _ => none }
def StepsDoWrongFalsely : Prop := stepsDoRow.holds Try.pinned (OpenSpec.ofChange stepsDoWrong)

/-- 'larchlaw18.StepsKeeps': WHATEVER THE INPUT: true; the input reads as it did. -/
def stepsKeepsSpec : ChangeSpec := { name := "stepsKeeps", fn := fun _ => fun
  | [d1, d2, d3] => { results := [.lit (.bool true)], args := [d1, d2, d3] }
  | _ => none }
def stepsKeepsRow : OpenClaim := { program := "ythlhbajaogonnaa", sum := "1320005fbdee1476bb878728cd61113fc6d4273d198aeba77c36ce14d8851589", func := "larch/larchlaw18.StepsKeeps", spec := "stepsKeeps", unfollowed := true, recurses := true, apart := false }
def StepsKeepsSaid : Prop := stepsKeepsRow.holds Try.pinned (OpenSpec.ofChange stepsKeepsSpec)

/-- ITS FALSE NEIGHBOUR: 'it returns false'. Refute it at one input. -/
def stepsKeepsWrong : ChangeSpec := { name := "stepsKeeps", fn := fun _ => fun
  | [d1, d2, d3] => { results := [.lit (.bool false)], args := [d1, d2, d3] }
  | _ => none }
def StepsKeepsWrongFalsely : Prop := stepsKeepsRow.holds Try.pinned (OpenSpec.ofChange stepsKeepsWrong)

/-- 'larchtop.LarchSteps': WHATEVER THE INPUT: true; the input reads as it did. -/
def larchStepsSpec : ChangeSpec := { name := "larchSteps", fn := fun _ => fun
  | [d] => { results := [.lit (.bool true)], args := [d] }
  | _ => none }
def larchStepsRow : OpenClaim := { program := "ythlhbajaogonnaa", sum := "1320005fbdee1476bb878728cd61113fc6d4273d198aeba77c36ce14d8851589", func := "larch/larchtop.LarchSteps", spec := "larchSteps", unfollowed := true, recurses := true, apart := false }
def LarchStepsSaid : Prop := larchStepsRow.holds Try.pinned (OpenSpec.ofChange larchStepsSpec)

/-- ITS FALSE NEIGHBOUR: 'it returns false'. Refute it at one input. -/
def larchStepsWrong : ChangeSpec := { name := "larchSteps", fn := fun _ => fun
  | [d] => { results := [.lit (.bool false)], args := [d] }
  | _ => none }
def LarchStepsWrongFalsely : Prop := larchStepsRow.holds Try.pinned (OpenSpec.ofChange larchStepsWrong)

/- THE SECOND FORM. 'bulk': how many values and letters a reading holds, each counted each time it is reached (what is shared counts as often as it is met; a slice's spare places count too). A statement '..UptoSaid' is the law's where the arguments, and the package variables that the reading takes, are together of bulk at most 1048576: NARROWER than '..Said'. Prove '..Said' where nothing that the law and all that it calls make is longer than what came in: it says more and counts as full. Else prove '..UptoSaid'. A law counts once. -/
mutual
def uptoBulk {H : Type} : DataW H → Nat
  | .lit (.string bytes) => bytes.length + 1
  | .lit _ => 1
  | .nil => 1
  | .ptr d => uptoBulk d + 1
  | .slice elems spare => uptoBulkAll elems + uptoBulkAll spare + 1
  | .agg parts => uptoBulkAll parts + 1
  | .iface _ d => uptoBulk d + 1
  | .map entries => uptoBulkEntries entries + 1
  | .held _ => 1
def uptoBulkAll {H : Type} : List (DataW H) → Nat
  | [] => 0
  | d :: r => uptoBulk d + uptoBulkAll r
def uptoBulkEntries {H : Type} : List (Lit × DataW H) → Nat
  | [] => 0
  | x :: r => uptoBulkEntry x + uptoBulkEntries r
def uptoBulkEntry {H : Type} : Lit × DataW H → Nat
  | (.string bytes, d) => bytes.length + uptoBulk d + 1
  | (_, d) => uptoBulk d + 1
 end
def uptoSmall : (H : Type) → List (DataW H) → Bool := fun _ ds => decide (uptoBulkAll ds ≤ 1048576)
def OpenSpec.upto (s : _root_.Go.ChangeSpec) : _root_.Go.OpenSpec := { _root_.Go.OpenSpec.ofChange s with cond := some uptoSmall }

/-- 'larchlaw18.StepsDo', WHERE WHAT IT READS IS OF BULK AT MOST 1048576: true; the input reads as it did. -/
def stepsDoUptoRow : OpenClaim := { program := "ythlhbajaogonnaa", sum := "1320005fbdee1476bb878728cd61113fc6d4273d198aeba77c36ce14d8851589", func := "larch/larchlaw18.StepsDo", spec := "stepsDo", unfollowed := true, recurses := true, apart := false, narrowed := true }
def StepsDoUptoSaid : Prop := stepsDoUptoRow.holds Try.pinned (OpenSpec.upto stepsDoSpec)

/-- 'larchlaw18.StepsKeeps', WHERE WHAT IT READS IS OF BULK AT MOST 1048576: true; the input reads as it did. -/
def stepsKeepsUptoRow : OpenClaim := { program := "ythlhbajaogonnaa", sum := "1320005fbdee1476bb878728cd61113fc6d4273d198aeba77c36ce14d8851589", func := "larch/larchlaw18.StepsKeeps", spec := "stepsKeeps", unfollowed := true, recurses := true, apart := false, narrowed := true }
def StepsKeepsUptoSaid : Prop := stepsKeepsUptoRow.holds Try.pinned (OpenSpec.upto stepsKeepsSpec)

/-- 'larchtop.LarchSteps', WHERE WHAT IT READS IS OF BULK AT MOST 1048576: true; the input reads as it did. -/
def larchStepsUptoRow : OpenClaim := { program := "ythlhbajaogonnaa", sum := "1320005fbdee1476bb878728cd61113fc6d4273d198aeba77c36ce14d8851589", func := "larch/larchtop.LarchSteps", spec := "larchSteps", unfollowed := true, recurses := true, apart := false, narrowed := true }
def LarchStepsUptoSaid : Prop := larchStepsUptoRow.holds Try.pinned (OpenSpec.upto larchStepsSpec)

end Rows
end Go.Proofs.Ythlhbajaogonnaa
