
/- Layer 28: the program's ParseOp. -/

import Derived.Test.YtknlapipkglnjaaGreatDoorHPo3

import Derived.Test.YtknlapipkglnjaaGreatDoorHRPo

namespace Go.Proofs.YtknlapipkglnjaaGreatDoor

open Go.RowKit

attribute [local go_sem ↓] Go.wp_at_zero Go.wp_at_succ

theorem bxc4 {w z : World} {x0 x1 x2 x3 : Value} {t : TypeId} (h : Below (w.alloc (.cells #[x0, x1, x2, x3] t)).heap.size (w.alloc (.cells #[x0, x1, x2, x3] t)) z) :
    (z.cell? ⟨w.heap.size, 0, none⟩ = some x0 ∧ z.frozen? ⟨w.heap.size, 0, none⟩ = false) ∧ (z.cell? ⟨w.heap.size, 1, none⟩ = some x1 ∧ z.frozen? ⟨w.heap.size, 1, none⟩ = false) ∧ (z.cell? ⟨w.heap.size, 2, none⟩ = some x2 ∧ z.frozen? ⟨w.heap.size, 2, none⟩ = false) ∧ (z.cell? ⟨w.heap.size, 3, none⟩ = some x3 ∧ z.frozen? ⟨w.heap.size, 3, none⟩ = false) :=
  cells4 ((h.block w.heap.size (by simp)).trans (heap_alloc_at _ _ _ rfl))
theorem allocS {w z : World} (h : Below w.heap.size w z) (x : Obj) : Below w.heap.size w (z.alloc x) := h.alloc h.size x
def PoOut (ws : List (List UInt8)) (e : Ending) : Prop :=
  (∃ k V, OpIs ws k V ∧ e = .returned (.tuple #[opV (fillOp k V), .int .i64 0])) ∨ ((∀ k V, ¬ OpIs ws k V) ∧ e = .returned (.tuple #[opV ⟨0, 0, 0, 0⟩, .int .i64 7]))
theorem words_run {l : List UInt8} (hl : l.length ≤ 2000000) {B : Nat} {v : Value} {w : World} (h : w.ownsRow B 9 1 v (wordsL l).length (strC (wordsL l))) (hE : HEB w.heap.size w) :
    Calls Tryz.prog 71 #[v] w fun e w' => OpOut (wordsL l) e ∧ Below w.heap.size w w' :=
  opOf_any (wordsL l) B v w h (fun x hx => by have := words_le hx; omega) (by have := words_len l; omega) hE
end Go.Proofs.YtknlapipkglnjaaGreatDoor
