/-
  No cell of these rows narrows 'for every input' (looked for: loops, veiled, ifaces, maps, wideKeys, modest, calm, conditions, laid).
  DERIVED. THE GIVEN ROWS OF THIS SEAT. 4 by the template 'for every input the law returns true; each argument reads behind the call as it read before'; 0 by the template 'total and deterministic' (their statements: YthdfpddijocfkaaTotals.lean).
  GIVEN WITH THE SEED: the statements are not yours to turn. If you find one false, say at which input.
  Laid BY PROGRAM, IN A SANDBOX (cutbox-rows.mjs): the forced cells as the released guide's own fill.sh prints them over the translation 4eecd6b44c8a5f74… (all of the seat's roots in one cut). By AI agents, Wed Nov 11 2026. No macro, syntax, notation, axiom, sorry.
-/
import Derived.Test.YthdfpddijocfkaaChecked
import GoSem.Claim
import GoSem.ClaimJoined
import GoSem.ClaimMapViews
import Derived.JoinedTies
import Derived.KernelRfl
namespace Go.Proofs.Ythdfpddijocfkaa
/- THE CELL 'sum', in the pinned program and in every row, IS THE sha256 OF THE DUMP (.gsa) THAT YthdfpddijocfkaaProg.lean LOADS. Nothing in Lean hashes anything: it is a label: what it is worth is what the hold of that sum in a sandbox is worth. -/
noncomputable def Try.pinned : Pinned := { name := "ythdfpddijocfkaa", sum := "4eecd6b44c8a5f7488ad7644b7c52fc7a4fb0a0dbe6d038f2d1489d31cf3e1cb", checked := Try.checked }
namespace Rows
def none {H : Type} : Left H := { results := [], args := [] }

/-- 'larchlaw20.NodeTables': WHATEVER THE INPUT: true; the input reads as it did. -/
def nodeTablesSpec : ChangeSpec := { name := "nodeTables", fn := fun _ => fun
  | [d] => { results := [.lit (.bool true)], args := [d] }
  | _ => none }
def nodeTablesRow : OpenClaim := { program := "ythdfpddijocfkaa", sum := "4eecd6b44c8a5f7488ad7644b7c52fc7a4fb0a0dbe6d038f2d1489d31cf3e1cb", func := "larch/larchlaw20.NodeTables", spec := "nodeTables", inPlace := ["sync/atomic.StorePointer", "sync/atomic.StoreInt64", "sync/atomic.LoadPointer"], unfollowed := true, recurses := true, apart := false }
def NodeTablesSaid : Prop := nodeTablesRow.holds Try.pinned (OpenSpec.ofChange nodeTablesSpec)

/-- ITS FALSE NEIGHBOUR: 'it returns false'. Refute it at one input. -/
def nodeTablesWrong : ChangeSpec := { name := "nodeTables", fn := fun _ => fun
  | [d] => { results := [.lit (.bool false)], args := [d] }
  | _ => none }
def NodeTablesWrongFalsely : Prop := nodeTablesRow.holds Try.pinned (OpenSpec.ofChange nodeTablesWrong)

/-- 'larchlaw20.NodeCalls': WHATEVER THE INPUT: true; the input reads as it did. -/
def nodeCallsSpec : ChangeSpec := { name := "nodeCalls", fn := fun _ => fun
  | [d] => { results := [.lit (.bool true)], args := [d] }
  | _ => none }
def nodeCallsRow : OpenClaim := { program := "ythdfpddijocfkaa", sum := "4eecd6b44c8a5f7488ad7644b7c52fc7a4fb0a0dbe6d038f2d1489d31cf3e1cb", func := "larch/larchlaw20.NodeCalls", spec := "nodeCalls", inPlace := ["sync/atomic.StorePointer", "sync/atomic.StoreInt64", "sync/atomic.LoadPointer", "sync/atomic.CompareAndSwapPointer"], unfollowed := true, recurses := true, apart := false }
def NodeCallsSaid : Prop := nodeCallsRow.holds Try.pinned (OpenSpec.ofChange nodeCallsSpec)

/-- ITS FALSE NEIGHBOUR: 'it returns false'. Refute it at one input. -/
def nodeCallsWrong : ChangeSpec := { name := "nodeCalls", fn := fun _ => fun
  | [d] => { results := [.lit (.bool false)], args := [d] }
  | _ => none }
def NodeCallsWrongFalsely : Prop := nodeCallsRow.holds Try.pinned (OpenSpec.ofChange nodeCallsWrong)

/-- 'larchlaw20.NodeOrders': WHATEVER THE INPUT: true; the input reads as it did. -/
def nodeOrdersSpec : ChangeSpec := { name := "nodeOrders", fn := fun _ => fun
  | [d] => { results := [.lit (.bool true)], args := [d] }
  | _ => none }
def nodeOrdersRow : OpenClaim := { program := "ythdfpddijocfkaa", sum := "4eecd6b44c8a5f7488ad7644b7c52fc7a4fb0a0dbe6d038f2d1489d31cf3e1cb", func := "larch/larchlaw20.NodeOrders", spec := "nodeOrders", inPlace := ["sync/atomic.StorePointer", "sync/atomic.StoreInt64", "sync/atomic.LoadPointer"], unfollowed := true, recurses := true, apart := false }
def NodeOrdersSaid : Prop := nodeOrdersRow.holds Try.pinned (OpenSpec.ofChange nodeOrdersSpec)

/-- ITS FALSE NEIGHBOUR: 'it returns false'. Refute it at one input. -/
def nodeOrdersWrong : ChangeSpec := { name := "nodeOrders", fn := fun _ => fun
  | [d] => { results := [.lit (.bool false)], args := [d] }
  | _ => none }
def NodeOrdersWrongFalsely : Prop := nodeOrdersRow.holds Try.pinned (OpenSpec.ofChange nodeOrdersWrong)

/-- 'larchlaw20.NodeMemory': WHATEVER THE INPUT: true; the input reads as it did. -/
def nodeMemorySpec : ChangeSpec := { name := "nodeMemory", fn := fun _ => fun
  | [d] => { results := [.lit (.bool true)], args := [d] }
  | _ => none }
def nodeMemoryRow : OpenClaim := { program := "ythdfpddijocfkaa", sum := "4eecd6b44c8a5f7488ad7644b7c52fc7a4fb0a0dbe6d038f2d1489d31cf3e1cb", func := "larch/larchlaw20.NodeMemory", spec := "nodeMemory", inPlace := ["sync/atomic.StorePointer", "sync/atomic.StoreInt64", "sync/atomic.LoadPointer"], unfollowed := true, recurses := true, apart := false }
def NodeMemorySaid : Prop := nodeMemoryRow.holds Try.pinned (OpenSpec.ofChange nodeMemorySpec)

/-- ITS FALSE NEIGHBOUR: 'it returns false'. Refute it at one input. -/
def nodeMemoryWrong : ChangeSpec := { name := "nodeMemory", fn := fun _ => fun
  | [d] => { results := [.lit (.bool false)], args := [d] }
  | _ => none }
def NodeMemoryWrongFalsely : Prop := nodeMemoryRow.holds Try.pinned (OpenSpec.ofChange nodeMemoryWrong)

/- THE SECOND FORM. 'bulk': how many values and letters a reading holds, each counted each time it is reached (what is shared counts as often as it is met; a slice's spare places count too). A statement '..UptoSaid' is the law's where the arguments, and the package variables that the reading takes, are together of bulk at most 1048576: NARROWER than '..Said'. Prove '..Said' where nothing that the law and all that it calls make is longer than what came in: it says more and counts as full. Else prove '..UptoSaid'. A law counts once. -/
mutual
def uptoBulk {H : Type} : DataW H → Nat
  | .lit (.string bytes) => bytes.length + 1
  | .lit _ => 1
  | .nil => 1
  | .ptr d => uptoBulk d + 1
  | .slice elems spare => uptoBulkAll elems + uptoBulkAll spare + 1
  | .agg parts => uptoBulkAll parts + 1
  | .iface _ d => uptoBulk d + 1
  | .map entries => uptoBulkEntries entries + 1
  | .held _ => 1
def uptoBulkAll {H : Type} : List (DataW H) → Nat
  | [] => 0
  | d :: r => uptoBulk d + uptoBulkAll r
def uptoBulkEntries {H : Type} : List (Lit × DataW H) → Nat
  | [] => 0
  | x :: r => uptoBulkEntry x + uptoBulkEntries r
def uptoBulkEntry {H : Type} : Lit × DataW H → Nat
  | (.string bytes, d) => bytes.length + uptoBulk d + 1
  | (_, d) => uptoBulk d + 1
 end
def uptoSmall : (H : Type) → List (DataW H) → Bool := fun _ ds => decide (uptoBulkAll ds ≤ 1048576)
def OpenSpec.upto (s : _root_.Go.ChangeSpec) : _root_.Go.OpenSpec := { _root_.Go.OpenSpec.ofChange s with cond := some uptoSmall }

/-- 'larchlaw20.NodeTables', WHERE WHAT IT READS IS OF BULK AT MOST 1048576: true; the input reads as it did. -/
def nodeTablesUptoRow : OpenClaim := { program := "ythdfpddijocfkaa", sum := "4eecd6b44c8a5f7488ad7644b7c52fc7a4fb0a0dbe6d038f2d1489d31cf3e1cb", func := "larch/larchlaw20.NodeTables", spec := "nodeTables", inPlace := ["sync/atomic.StorePointer", "sync/atomic.StoreInt64", "sync/atomic.LoadPointer"], unfollowed := true, recurses := true, apart := false, narrowed := true }
def NodeTablesUptoSaid : Prop := nodeTablesUptoRow.holds Try.pinned (OpenSpec.upto nodeTablesSpec)

/-- 'larchlaw20.NodeCalls', WHERE WHAT IT READS IS OF BULK AT MOST 1048576: true; the input reads as it did. -/
def nodeCallsUptoRow : OpenClaim := { program := "ythdfpddijocfkaa", sum := "4eecd6b44c8a5f7488ad7644b7c52fc7a4fb0a0dbe6d038f2d1489d31cf3e1cb", func := "larch/larchlaw20.NodeCalls", spec := "nodeCalls", inPlace := ["sync/atomic.StorePointer", "sync/atomic.StoreInt64", "sync/atomic.LoadPointer", "sync/atomic.CompareAndSwapPointer"], unfollowed := true, recurses := true, apart := false, narrowed := true }
def NodeCallsUptoSaid : Prop := nodeCallsUptoRow.holds Try.pinned (OpenSpec.upto nodeCallsSpec)

/-- 'larchlaw20.NodeOrders', WHERE WHAT IT READS IS OF BULK AT MOST 1048576: true; the input reads as it did. -/
def nodeOrdersUptoRow : OpenClaim := { program := "ythdfpddijocfkaa", sum := "4eecd6b44c8a5f7488ad7644b7c52fc7a4fb0a0dbe6d038f2d1489d31cf3e1cb", func := "larch/larchlaw20.NodeOrders", spec := "nodeOrders", inPlace := ["sync/atomic.StorePointer", "sync/atomic.StoreInt64", "sync/atomic.LoadPointer"], unfollowed := true, recurses := true, apart := false, narrowed := true }
def NodeOrdersUptoSaid : Prop := nodeOrdersUptoRow.holds Try.pinned (OpenSpec.upto nodeOrdersSpec)

/-- 'larchlaw20.NodeMemory', WHERE WHAT IT READS IS OF BULK AT MOST 1048576: true; the input reads as it did. -/
def nodeMemoryUptoRow : OpenClaim := { program := "ythdfpddijocfkaa", sum := "4eecd6b44c8a5f7488ad7644b7c52fc7a4fb0a0dbe6d038f2d1489d31cf3e1cb", func := "larch/larchlaw20.NodeMemory", spec := "nodeMemory", inPlace := ["sync/atomic.StorePointer", "sync/atomic.StoreInt64", "sync/atomic.LoadPointer"], unfollowed := true, recurses := true, apart := false, narrowed := true }
def NodeMemoryUptoSaid : Prop := nodeMemoryUptoRow.holds Try.pinned (OpenSpec.upto nodeMemorySpec)

end Rows
end Go.Proofs.Ythdfpddijocfkaa
