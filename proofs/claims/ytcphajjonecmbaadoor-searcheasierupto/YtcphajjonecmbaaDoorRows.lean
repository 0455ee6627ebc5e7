/-
  NARROWER THAN 'FOR EVERY INPUT', by the rows' own cells (each row's printed sentence says how): SearchDoes: laid · SearchFinds: laid · SearchWitness: laid · SearchRows: laid · SearchEasier: laid · SearchKeeps: laid · LarchFinds: laid.
  DERIVED. THE GIVEN ROWS OF THIS SEAT. 7 by the template 'for every input the law returns true; each argument reads behind the call as it read before'; 0 by the template 'total and deterministic' (their statements: YtcphajjonecmbaaDoorTotals.lean).
  GIVEN WITH THE SEED: the statements are not yours to turn. If you find one false, say at which input.
  Laid BY PROGRAM, IN A SANDBOX (cutbox-rows.mjs): the forced cells as the released guide's own fill.sh prints them over the translation 3f0e74df8444b988… (all of the seat's roots in one cut). By AI agents, Wed Nov 11 2026. No macro, syntax, notation, axiom, sorry.
-/
import Derived.Test.YtcphajjonecmbaaDoorChecked
import GoSem.Claim
import GoSem.ClaimJoined
import GoSem.ClaimMapViews
import Derived.JoinedTies
import Derived.KernelRfl
namespace Go.Proofs.YtcphajjonecmbaaDoor
/- THE CELL 'sum', in the pinned program and in every row, IS THE sha256 OF THE DUMP (.gsa) THAT YtcphajjonecmbaaDoorProg.lean LOADS. Nothing in Lean hashes anything: it is a label: what it is worth is what the hold of that sum in a sandbox is worth. -/
noncomputable def Tryd.pinned : Pinned := { name := "ytcphajjonecmbaadoor", sum := "3f0e74df8444b988443dcc60f1506fbe8f2151b7463452f35c04c992c7342bbd", checked := Tryd.checked }
namespace Rows
def none {H : Type} : Left H := { results := [], args := [] }

/- WHAT THE LISTED PACKAGE-LEVEL VARIABLES READ AS WHEN THE CALL BEGINS. Each datum BY PROGRAM (the guide's laid-datum.mjs) off the statement by which the dump's own 'gosem.cut.vars' lays the variable. In a bare row this is a premise. The card (YtcphajjonecmbaaDoorCards.lean) ties it to the program's text. -/
def laid_larch_search_kinds {H : Type} : DataW H := .agg [.lit (.int .i64 0), .lit (.int .i64 3), .lit (.int .i64 2), .lit (.int .i64 2), .lit (.int .i64 2), .lit (.int .i64 9)]

/-- 'larchlaw07.SearchDoes': WHATEVER THE INPUT: true; the input reads as it did. -/
def searchDoesSpec : ChangeSpec := { name := "searchDoes", fn := fun _ => fun
  | [d1, d2, d3] => { results := [.lit (.bool true)], args := [d1, d2, d3] }
  | _ => none }
def searchDoesRow : OpenClaim := { program := "ytcphajjonecmbaadoor", sum := "3f0e74df8444b988443dcc60f1506fbe8f2151b7463452f35c04c992c7342bbd", func := "larch/larchlaw07.SearchDoes", spec := "searchDoes", inPlace := ["slices.overlaps[larch/api.Pair]"], unfollowed := true, recurses := true, named := ["larch/search.kinds"], apart := false, laid := [("larch/search.kinds", laid_larch_search_kinds)] }
def SearchDoesSaid : Prop := searchDoesRow.holds Tryd.pinned (OpenSpec.ofChange searchDoesSpec)

/-- ITS FALSE NEIGHBOUR: 'it returns false'. Refute it at one input. -/
def searchDoesWrong : ChangeSpec := { name := "searchDoes", fn := fun _ => fun
  | [d1, d2, d3] => { results := [.lit (.bool false)], args := [d1, d2, d3] }
  | _ => none }
def SearchDoesWrongFalsely : Prop := searchDoesRow.holds Tryd.pinned (OpenSpec.ofChange searchDoesWrong)

/-- 'larchlaw07.SearchFinds': WHATEVER THE INPUT: true; the input reads as it did. -/
def searchFindsSpec : ChangeSpec := { name := "searchFinds", fn := fun _ => fun
  | [d] => { results := [.lit (.bool true)], args := [d] }
  | _ => none }
def searchFindsRow : OpenClaim := { program := "ytcphajjonecmbaadoor", sum := "3f0e74df8444b988443dcc60f1506fbe8f2151b7463452f35c04c992c7342bbd", func := "larch/larchlaw07.SearchFinds", spec := "searchFinds", inPlace := ["slices.overlaps[larch/api.Pair]"], unfollowed := true, recurses := true, named := ["larch/search.kinds"], apart := false, laid := [("larch/search.kinds", laid_larch_search_kinds)] }
def SearchFindsSaid : Prop := searchFindsRow.holds Tryd.pinned (OpenSpec.ofChange searchFindsSpec)

/-- ITS FALSE NEIGHBOUR: 'it returns false'. Refute it at one input. -/
def searchFindsWrong : ChangeSpec := { name := "searchFinds", fn := fun _ => fun
  | [d] => { results := [.lit (.bool false)], args := [d] }
  | _ => none }
def SearchFindsWrongFalsely : Prop := searchFindsRow.holds Tryd.pinned (OpenSpec.ofChange searchFindsWrong)

/-- 'larchlaw07.SearchWitness': WHATEVER THE INPUT: true; the input reads as it did. -/
def searchWitnessSpec : ChangeSpec := { name := "searchWitness", fn := fun _ => fun
  | [d] => { results := [.lit (.bool true)], args := [d] }
  | _ => none }
def searchWitnessRow : OpenClaim := { program := "ytcphajjonecmbaadoor", sum := "3f0e74df8444b988443dcc60f1506fbe8f2151b7463452f35c04c992c7342bbd", func := "larch/larchlaw07.SearchWitness", spec := "searchWitness", inPlace := ["slices.overlaps[larch/api.Pair]"], unfollowed := true, recurses := true, named := ["larch/search.kinds"], apart := false, laid := [("larch/search.kinds", laid_larch_search_kinds)] }
def SearchWitnessSaid : Prop := searchWitnessRow.holds Tryd.pinned (OpenSpec.ofChange searchWitnessSpec)

/-- ITS FALSE NEIGHBOUR: 'it returns false'. Refute it at one input. -/
def searchWitnessWrong : ChangeSpec := { name := "searchWitness", fn := fun _ => fun
  | [d] => { results := [.lit (.bool false)], args := [d] }
  | _ => none }
def SearchWitnessWrongFalsely : Prop := searchWitnessRow.holds Tryd.pinned (OpenSpec.ofChange searchWitnessWrong)

/-- 'larchlaw07.SearchRows': WHATEVER THE INPUT: true; the input reads as it did. -/
def searchRowsSpec : ChangeSpec := { name := "searchRows", fn := fun _ => fun
  | [d1, d2, d3] => { results := [.lit (.bool true)], args := [d1, d2, d3] }
  | _ => none }
def searchRowsRow : OpenClaim := { program := "ytcphajjonecmbaadoor", sum := "3f0e74df8444b988443dcc60f1506fbe8f2151b7463452f35c04c992c7342bbd", func := "larch/larchlaw07.SearchRows", spec := "searchRows", inPlace := ["slices.overlaps[larch/api.Pair]"], unfollowed := true, recurses := true, named := ["larch/search.kinds"], apart := false, laid := [("larch/search.kinds", laid_larch_search_kinds)] }
def SearchRowsSaid : Prop := searchRowsRow.holds Tryd.pinned (OpenSpec.ofChange searchRowsSpec)

/-- ITS FALSE NEIGHBOUR: 'it returns false'. Refute it at one input. -/
def searchRowsWrong : ChangeSpec := { name := "searchRows", fn := fun _ => fun
  | [d1, d2, d3] => { results := [.lit (.bool false)], args := [d1, d2, d3] }
  | _ => none }
def SearchRowsWrongFalsely : Prop := searchRowsRow.holds Tryd.pinned (OpenSpec.ofChange searchRowsWrong)

/-- 'larchlaw07.SearchEasier': WHATEVER THE INPUT: true; the input reads as it did. -/
def searchEasierSpec : ChangeSpec := { name := "searchEasier", fn := fun _ => fun
  | [d1, d2] => { results := [.lit (.bool true)], args := [d1, d2] }
  | _ => none }
def searchEasierRow : OpenClaim := { program := "ytcphajjonecmbaadoor", sum := "3f0e74df8444b988443dcc60f1506fbe8f2151b7463452f35c04c992c7342bbd", func := "larch/larchlaw07.SearchEasier", spec := "searchEasier", inPlace := ["slices.overlaps[larch/api.Pair]"], unfollowed := true, recurses := true, named := ["larch/search.kinds"], apart := false, laid := [("larch/search.kinds", laid_larch_search_kinds)] }
def SearchEasierSaid : Prop := searchEasierRow.holds Tryd.pinned (OpenSpec.ofChange searchEasierSpec)

/-- ITS FALSE NEIGHBOUR: 'it returns false'. Refute it at one input. -/
def searchEasierWrong : ChangeSpec := { name := "searchEasier", fn := fun _ => fun
  | [d1, d2] => { results := [.lit (.bool false)], args := [d1, d2] }
  | _ => none }
def SearchEasierWrongFalsely : Prop := searchEasierRow.holds Tryd.pinned (OpenSpec.ofChange searchEasierWrong)

/-- 'larchlaw07.SearchKeeps': WHATEVER THE INPUT: true; the input reads as it did. -/
def searchKeepsSpec : ChangeSpec := { name := "searchKeeps", fn := fun _ => fun
  | [d1, d2] => { results := [.lit (.bool true)], args := [d1, d2] }
  | _ => none }
def searchKeepsRow : OpenClaim := { program := "ytcphajjonecmbaadoor", sum := "3f0e74df8444b988443dcc60f1506fbe8f2151b7463452f35c04c992c7342bbd", func := "larch/larchlaw07.SearchKeeps", spec := "searchKeeps", inPlace := ["slices.overlaps[larch/api.Pair]"], unfollowed := true, recurses := true, named := ["larch/search.kinds"], apart := false, laid := [("larch/search.kinds", laid_larch_search_kinds)] }
def SearchKeepsSaid : Prop := searchKeepsRow.holds Tryd.pinned (OpenSpec.ofChange searchKeepsSpec)

/-- ITS FALSE NEIGHBOUR: 'it returns false'. Refute it at one input. -/
def searchKeepsWrong : ChangeSpec := { name := "searchKeeps", fn := fun _ => fun
  | [d1, d2] => { results := [.lit (.bool false)], args := [d1, d2] }
  | _ => none }
def SearchKeepsWrongFalsely : Prop := searchKeepsRow.holds Tryd.pinned (OpenSpec.ofChange searchKeepsWrong)

/-- 'larchtop.LarchFinds': WHATEVER THE INPUT: true; the input reads as it did. -/
def larchFindsSpec : ChangeSpec := { name := "larchFinds", fn := fun _ => fun
  | [d1, d2] => { results := [.lit (.bool true)], args := [d1, d2] }
  | _ => none }
def larchFindsRow : OpenClaim := { program := "ytcphajjonecmbaadoor", sum := "3f0e74df8444b988443dcc60f1506fbe8f2151b7463452f35c04c992c7342bbd", func := "larch/larchtop.LarchFinds", spec := "larchFinds", inPlace := ["slices.overlaps[larch/api.Pair]"], unfollowed := true, recurses := true, named := ["larch/search.kinds"], apart := false, laid := [("larch/search.kinds", laid_larch_search_kinds)] }
def LarchFindsSaid : Prop := larchFindsRow.holds Tryd.pinned (OpenSpec.ofChange larchFindsSpec)

/-- ITS FALSE NEIGHBOUR: 'it returns false'. Refute it at one input. -/
def larchFindsWrong : ChangeSpec := { name := "larchFinds", fn := fun _ => fun
  | [d1, d2] => { results := [.lit (.bool false)], args := [d1, d2] }
  | _ => none }
def LarchFindsWrongFalsely : Prop := larchFindsRow.holds Tryd.pinned (OpenSpec.ofChange larchFindsWrong)

/- THE SECOND FORM. 'bulk': how many values and letters a reading holds, each counted each time it is reached (what is shared counts as often as it is met; a slice's spare places count too). A statement '..UptoSaid' is the law's where the arguments, and the package variables that the reading takes, are together of bulk at most 1048576: NARROWER than '..Said'. Prove '..Said' where nothing that the law and all that it calls make is longer than what came in: it says more and counts as full. Else prove '..UptoSaid'. A law counts once. -/
mutual
def uptoBulk {H : Type} : DataW H → Nat
  | .lit (.string bytes) => bytes.length + 1
  | .lit _ => 1
  | .nil => 1
  | .ptr d => uptoBulk d + 1
  | .slice elems spare => uptoBulkAll elems + uptoBulkAll spare + 1
  | .agg parts => uptoBulkAll parts + 1
  | .iface _ d => uptoBulk d + 1
  | .map entries => uptoBulkEntries entries + 1
  | .held _ => 1
def uptoBulkAll {H : Type} : List (DataW H) → Nat
  | [] => 0
  | d :: r => uptoBulk d + uptoBulkAll r
def uptoBulkEntries {H : Type} : List (Lit × DataW H) → Nat
  | [] => 0
  | x :: r => uptoBulkEntry x + uptoBulkEntries r
def uptoBulkEntry {H : Type} : Lit × DataW H → Nat
  | (.string bytes, d) => bytes.length + uptoBulk d + 1
  | (_, d) => uptoBulk d + 1
 end
def uptoSmall : (H : Type) → List (DataW H) → Bool := fun _ ds => decide (uptoBulkAll ds ≤ 1048576)
def OpenSpec.upto (s : _root_.Go.ChangeSpec) : _root_.Go.OpenSpec := { _root_.Go.OpenSpec.ofChange s with cond := some uptoSmall }

/-- 'larchlaw07.SearchDoes', WHERE WHAT IT READS IS OF BULK AT MOST 1048576: true; the input reads as it did. -/
def searchDoesUptoRow : OpenClaim := { program := "ytcphajjonecmbaadoor", sum := "3f0e74df8444b988443dcc60f1506fbe8f2151b7463452f35c04c992c7342bbd", func := "larch/larchlaw07.SearchDoes", spec := "searchDoes", inPlace := ["slices.overlaps[larch/api.Pair]"], unfollowed := true, recurses := true, named := ["larch/search.kinds"], apart := false, laid := [("larch/search.kinds", laid_larch_search_kinds)], narrowed := true }
def SearchDoesUptoSaid : Prop := searchDoesUptoRow.holds Tryd.pinned (OpenSpec.upto searchDoesSpec)

/-- 'larchlaw07.SearchFinds', WHERE WHAT IT READS IS OF BULK AT MOST 1048576: true; the input reads as it did. -/
def searchFindsUptoRow : OpenClaim := { program := "ytcphajjonecmbaadoor", sum := "3f0e74df8444b988443dcc60f1506fbe8f2151b7463452f35c04c992c7342bbd", func := "larch/larchlaw07.SearchFinds", spec := "searchFinds", inPlace := ["slices.overlaps[larch/api.Pair]"], unfollowed := true, recurses := true, named := ["larch/search.kinds"], apart := false, laid := [("larch/search.kinds", laid_larch_search_kinds)], narrowed := true }
def SearchFindsUptoSaid : Prop := searchFindsUptoRow.holds Tryd.pinned (OpenSpec.upto searchFindsSpec)

/-- 'larchlaw07.SearchWitness', WHERE WHAT IT READS IS OF BULK AT MOST 1048576: true; the input reads as it did. -/
def searchWitnessUptoRow : OpenClaim := { program := "ytcphajjonecmbaadoor", sum := "3f0e74df8444b988443dcc60f1506fbe8f2151b7463452f35c04c992c7342bbd", func := "larch/larchlaw07.SearchWitness", spec := "searchWitness", inPlace := ["slices.overlaps[larch/api.Pair]"], unfollowed := true, recurses := true, named := ["larch/search.kinds"], apart := false, laid := [("larch/search.kinds", laid_larch_search_kinds)], narrowed := true }
def SearchWitnessUptoSaid : Prop := searchWitnessUptoRow.holds Tryd.pinned (OpenSpec.upto searchWitnessSpec)

/-- 'larchlaw07.SearchRows', WHERE WHAT IT READS IS OF BULK AT MOST 1048576: true; the input reads as it did. -/
def searchRowsUptoRow : OpenClaim := { program := "ytcphajjonecmbaadoor", sum := "3f0e74df8444b988443dcc60f1506fbe8f2151b7463452f35c04c992c7342bbd", func := "larch/larchlaw07.SearchRows", spec := "searchRows", inPlace := ["slices.overlaps[larch/api.Pair]"], unfollowed := true, recurses := true, named := ["larch/search.kinds"], apart := false, laid := [("larch/search.kinds", laid_larch_search_kinds)], narrowed := true }
def SearchRowsUptoSaid : Prop := searchRowsUptoRow.holds Tryd.pinned (OpenSpec.upto searchRowsSpec)

/-- 'larchlaw07.SearchEasier', WHERE WHAT IT READS IS OF BULK AT MOST 1048576: true; the input reads as it did. -/
def searchEasierUptoRow : OpenClaim := { program := "ytcphajjonecmbaadoor", sum := "3f0e74df8444b988443dcc60f1506fbe8f2151b7463452f35c04c992c7342bbd", func := "larch/larchlaw07.SearchEasier", spec := "searchEasier", inPlace := ["slices.overlaps[larch/api.Pair]"], unfollowed := true, recurses := true, named := ["larch/search.kinds"], apart := false, laid := [("larch/search.kinds", laid_larch_search_kinds)], narrowed := true }
def SearchEasierUptoSaid : Prop := searchEasierUptoRow.holds Tryd.pinned (OpenSpec.upto searchEasierSpec)

/-- 'larchlaw07.SearchKeeps', WHERE WHAT IT READS IS OF BULK AT MOST 1048576: true; the input reads as it did. -/
def searchKeepsUptoRow : OpenClaim := { program := "ytcphajjonecmbaadoor", sum := "3f0e74df8444b988443dcc60f1506fbe8f2151b7463452f35c04c992c7342bbd", func := "larch/larchlaw07.SearchKeeps", spec := "searchKeeps", inPlace := ["slices.overlaps[larch/api.Pair]"], unfollowed := true, recurses := true, named := ["larch/search.kinds"], apart := false, laid := [("larch/search.kinds", laid_larch_search_kinds)], narrowed := true }
def SearchKeepsUptoSaid : Prop := searchKeepsUptoRow.holds Tryd.pinned (OpenSpec.upto searchKeepsSpec)

/-- 'larchtop.LarchFinds', WHERE WHAT IT READS IS OF BULK AT MOST 1048576: true; the input reads as it did. -/
def larchFindsUptoRow : OpenClaim := { program := "ytcphajjonecmbaadoor", sum := "3f0e74df8444b988443dcc60f1506fbe8f2151b7463452f35c04c992c7342bbd", func := "larch/larchtop.LarchFinds", spec := "larchFinds", inPlace := ["slices.overlaps[larch/api.Pair]"], unfollowed := true, recurses := true, named := ["larch/search.kinds"], apart := false, laid := [("larch/search.kinds", laid_larch_search_kinds)], narrowed := true }
def LarchFindsUptoSaid : Prop := larchFindsUptoRow.holds Tryd.pinned (OpenSpec.upto larchFindsSpec)

end Rows
end Go.Proofs.YtcphajjonecmbaaDoor
