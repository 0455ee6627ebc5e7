/-
  No cell of these rows narrows 'for every input' (looked for: loops, veiled, ifaces, maps, wideKeys, modest, calm, conditions, laid).
  DERIVED. THE GIVEN ROWS OF THIS SEAT. 3 by the template 'for every input the law returns true; each argument reads behind the call as it read before'; 0 by the template 'total and deterministic' (their statements: YtieanmpldcibcaaTotals.lean).
  GIVEN WITH THE SEED: the statements are not yours to turn. If you find one false, say at which input.
  Laid BY PROGRAM, IN A SANDBOX (cutbox-rows.mjs): the forced cells as the released guide's own fill.sh prints them over the translation 51ee3205d353755b… (all of the seat's roots in one cut). By AI agents, Wed Nov 11 2026. No macro, syntax, notation, axiom, sorry.
-/
import Derived.Test.YtieanmpldcibcaaChecked
import GoSem.Claim
import GoSem.ClaimJoined
import GoSem.ClaimMapViews
import Derived.JoinedTies
import Derived.KernelRfl
namespace Go.Proofs.Ytieanmpldcibcaa
/- THE CELL 'sum', in the pinned program and in every row, IS THE sha256 OF THE DUMP (.gsa) THAT YtieanmpldcibcaaProg.lean LOADS. Nothing in Lean hashes anything: it is a label: what it is worth is what the hold of that sum in a sandbox is worth. -/
noncomputable def Try.pinned : Pinned := { name := "ytieanmpldcibcaa", sum := "51ee3205d353755b67f7b8d858a3eb44708d42bc39cf0b3fc8f2fe9d629268ad", checked := Try.checked }
namespace Rows
def none {H : Type} : Left H := { results := [], args := [] }

/-- 'larchlaw01.WordRows': WHATEVER THE INPUT: true; the input reads as it did. -/
def wordRowsSpec : ChangeSpec := { name := "wordRows", fn := fun _ => fun
  | [d1, d2, d3] => { results := [.lit (.bool true)], args := [d1, d2, d3] }
  | _ => none }
def wordRowsRow : OpenClaim := { program := "ytieanmpldcibcaa", sum := "51ee3205d353755b67f7b8d858a3eb44708d42bc39cf0b3fc8f2fe9d629268ad", func := "larch/larchlaw01.WordRows", spec := "wordRows", unfollowed := true, recurses := true, apart := false }
def WordRowsSaid : Prop := wordRowsRow.holds Try.pinned (OpenSpec.ofChange wordRowsSpec)

/-- ITS FALSE NEIGHBOUR: 'it returns false'. Refute it at one input. -/
def wordRowsWrong : ChangeSpec := { name := "wordRows", fn := fun _ => fun
  | [d1, d2, d3] => { results := [.lit (.bool false)], args := [d1, d2, d3] }
  | _ => none }
def WordRowsWrongFalsely : Prop := wordRowsRow.holds Try.pinned (OpenSpec.ofChange wordRowsWrong)

/-- 'larchtop.LarchOneWins': WHATEVER THE INPUT: true; the input reads as it did. -/
def larchOneWinsSpec : ChangeSpec := { name := "larchOneWins", fn := fun _ => fun
  | [d1, d2, d3] => { results := [.lit (.bool true)], args := [d1, d2, d3] }
  | _ => none }
def larchOneWinsRow : OpenClaim := { program := "ytieanmpldcibcaa", sum := "51ee3205d353755b67f7b8d858a3eb44708d42bc39cf0b3fc8f2fe9d629268ad", func := "larch/larchtop.LarchOneWins", spec := "larchOneWins", unfollowed := true, recurses := true, apart := false }
def LarchOneWinsSaid : Prop := larchOneWinsRow.holds Try.pinned (OpenSpec.ofChange larchOneWinsSpec)

/-- ITS FALSE NEIGHBOUR: 'it returns false'. Refute it at one input. -/
def larchOneWinsWrong : ChangeSpec := { name := "larchOneWins", fn := fun _ => fun
  | [d1, d2, d3] => { results := [.lit (.bool false)], args := [d1, d2, d3] }
  | _ => none }
def LarchOneWinsWrongFalsely : Prop := larchOneWinsRow.holds Try.pinned (OpenSpec.ofChange larchOneWinsWrong)

/-- 'larchlaw01.WordUndoes': WHATEVER THE INPUT: true; the input reads as it did. -/
def wordUndoesSpec : ChangeSpec := { name := "wordUndoes", fn := fun _ => fun
  | [d1, d2, d3] => { results := [.lit (.bool true)], args := [d1, d2, d3] }
  | _ => none }
def wordUndoesRow : OpenClaim := { program := "ytieanmpldcibcaa", sum := "51ee3205d353755b67f7b8d858a3eb44708d42bc39cf0b3fc8f2fe9d629268ad", func := "larch/larchlaw01.WordUndoes", spec := "wordUndoes", unfollowed := true, recurses := true, apart := false }
def WordUndoesSaid : Prop := wordUndoesRow.holds Try.pinned (OpenSpec.ofChange wordUndoesSpec)

/-- ITS FALSE NEIGHBOUR: 'it returns false'. Refute it at one input. -/
def wordUndoesWrong : ChangeSpec := { name := "wordUndoes", fn := fun _ => fun
  | [d1, d2, d3] => { results := [.lit (.bool false)], args := [d1, d2, d3] }
  | _ => none }
def WordUndoesWrongFalsely : Prop := wordUndoesRow.holds Try.pinned (OpenSpec.ofChange wordUndoesWrong)

/- THE SECOND FORM. 'bulk': how many values and letters a reading holds, each counted each time it is reached (what is shared counts as often as it is met; a slice's spare places count too). A statement '..UptoSaid' is the law's where the arguments, and the package variables that the reading takes, are together of bulk at most 1048576: NARROWER than '..Said'. Prove '..Said' where nothing that the law and all that it calls make is longer than what came in: it says more and counts as full. Else prove '..UptoSaid'. A law counts once. -/
mutual
def uptoBulk {H : Type} : DataW H → Nat
  | .lit (.string bytes) => bytes.length + 1
  | .lit _ => 1
  | .nil => 1
  | .ptr d => uptoBulk d + 1
  | .slice elems spare => uptoBulkAll elems + uptoBulkAll spare + 1
  | .agg parts => uptoBulkAll parts + 1
  | .iface _ d => uptoBulk d + 1
  | .map entries => uptoBulkEntries entries + 1
  | .held _ => 1
def uptoBulkAll {H : Type} : List (DataW H) → Nat
  | [] => 0
  | d :: r => uptoBulk d + uptoBulkAll r
def uptoBulkEntries {H : Type} : List (Lit × DataW H) → Nat
  | [] => 0
  | x :: r => uptoBulkEntry x + uptoBulkEntries r
def uptoBulkEntry {H : Type} : Lit × DataW H → Nat
  | (.string bytes, d) => bytes.length + uptoBulk d + 1
  | (_, d) => uptoBulk d + 1
 end
def uptoSmall : (H : Type) → List (DataW H) → Bool := fun _ ds => decide (uptoBulkAll ds ≤ 1048576)
def OpenSpec.upto (s : _root_.Go.ChangeSpec) : _root_.Go.OpenSpec := { _root_.Go.OpenSpec.ofChange s with cond := some uptoSmall }

/-- 'larchlaw01.WordRows', WHERE WHAT IT READS IS OF BULK AT MOST 1048576: true; the input reads as it did. -/
def wordRowsUptoRow : OpenClaim := { program := "ytieanmpldcibcaa", sum := "51ee3205d353755b67f7b8d858a3eb44708d42bc39cf0b3fc8f2fe9d629268ad", func := "larch/larchlaw01.WordRows", spec := "wordRows", unfollowed := true, recurses := true, apart := false, narrowed := true }
def WordRowsUptoSaid : Prop := wordRowsUptoRow.holds Try.pinned (OpenSpec.upto wordRowsSpec)

/-- 'larchtop.LarchOneWins', WHERE WHAT IT READS IS OF BULK AT MOST 1048576: true; the input reads as it did. -/
def larchOneWinsUptoRow : OpenClaim := { program := "ytieanmpldcibcaa", sum := "51ee3205d353755b67f7b8d858a3eb44708d42bc39cf0b3fc8f2fe9d629268ad", func := "larch/larchtop.LarchOneWins", spec := "larchOneWins", unfollowed := true, recurses := true, apart := false, narrowed := true }
def LarchOneWinsUptoSaid : Prop := larchOneWinsUptoRow.holds Try.pinned (OpenSpec.upto larchOneWinsSpec)

/-- 'larchlaw01.WordUndoes', WHERE WHAT IT READS IS OF BULK AT MOST 1048576: true; the input reads as it did. -/
def wordUndoesUptoRow : OpenClaim := { program := "ytieanmpldcibcaa", sum := "51ee3205d353755b67f7b8d858a3eb44708d42bc39cf0b3fc8f2fe9d629268ad", func := "larch/larchlaw01.WordUndoes", spec := "wordUndoes", unfollowed := true, recurses := true, apart := false, narrowed := true }
def WordUndoesUptoSaid : Prop := wordUndoesUptoRow.holds Try.pinned (OpenSpec.upto wordUndoesSpec)

end Rows
end Go.Proofs.Ytieanmpldcibcaa
