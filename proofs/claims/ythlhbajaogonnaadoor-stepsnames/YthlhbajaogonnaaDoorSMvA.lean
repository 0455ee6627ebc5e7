
/- Layer 18: movesAt, Here of the program. Made by mk_smvat.py. -/

import Derived.Test.YthlhbajaogonnaaDoorSMv

namespace Go.Proofs.YthlhbajaogonnaaDoor

open Go.RowKit

attribute [local go_sem ↓] Go.wp_at_zero Go.wp_at_succ

theorem allK_kinds : ∀ m ∈ allK 12, 1 ≤ m.1 ∧ m.1 ≤ 12 := by decide
theorem take_snoc (A : List MvD) (f : MvD → Bool) (j : Nat) (h : j < A.length) : (A.take (j + 1)).filter f = if f (A.getD j mv0) then (A.take j).filter f ++ [A.getD j mv0] else (A.take j).filter f := by
  rw [List.take_succ_eq_append_getElem h, List.filter_append]
  have e : A.getD j mv0 = A[j] := by simp [List.getD_eq_getElem?_getD, List.getElem?_eq_getElem h]
  rw [e]
  cases hf : f A[j] <;> simp [List.filter, hf]
/-- Two sites in their boxes. -/
theorem sbox_new {z : World} {sb : Nat} {base : Option Addr} {b o c : Nat} {t : NL} {root : Int} {mi : Bool} {x l r ll lr rl rr rll rlr : Int} (h : z.heap[sb]? = some (.cells #[.slice base t.length c, .int .i64 root, .bool mi, .int .i64 x, .int .i64 l, .int .i64 r, .int .i64 ll, .int .i64 lr, .int .i64 rl, .int .i64 rr, .int .i64 rll, .int .i64 rlr] 59 (0, 0))) (hn : NodesAt z base b o t) : SBox z sb base b o c t root mi x l r ll lr rl rr rll rlr :=
  ⟨(cell_of h 0 _ rfl).1, (cell_of h 1 _ rfl).1, (cell_of h 2 _ rfl).1, (cell_of h 3 _ rfl).1, (cell_of h 4 _ rfl).1, (cell_of h 5 _ rfl).1, (cell_of h 6 _ rfl).1, (cell_of h 7 _ rfl).1, (cell_of h 8 _ rfl).1, (cell_of h 9 _ rfl).1, (cell_of h 10 _ rfl).1, (cell_of h 11 _ rfl).1, (Array.getElem?_eq_some_iff.1 h).1, hn⟩
/-- The moves that can be done at a place. -/
def mvsB (rt : Bool) (B : BT) : List MvD := (allK 12).filter (fun m => canO m.1 rt (some (B.mt m.2)))
end Go.Proofs.YthlhbajaogonnaaDoor
