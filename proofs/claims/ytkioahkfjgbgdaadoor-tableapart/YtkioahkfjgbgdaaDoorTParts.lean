
/- Layer 16: the law TableParts. -/

import Derived.Test.YtkioahkfjgbgdaaDoorTGrB

import Derived.Test.YtkioahkfjgbgdaaDoorTKnow

namespace Go.Proofs.YtkioahkfjgbgdaaDoor

open Go.RowKit

attribute [local go_sem ↓] Go.wp_at_zero Go.wp_at_succ

theorem nlEq_self' (a : NL) : nlEq a a = true := by unfold nlEq; simp
theorem rEmpty_any (w : World) : Calls Tryd.prog 20 #[] w fun e w' => e = .returned (.slice (some ⟨w.heap.size, 0, none⟩) 3 3) ∧ w'.ownsRow w.heap.size 40 6 (.slice (some ⟨w.heap.size, 0, none⟩) 3 3) 3 (ndCells emptyT) ∧ Below w.heap.size w w' := by
  go_enter Tryd.func20, Tryd.ntmps20
  go_wp2_with fail
  go_ret
  exact ⟨rfl, World.ownsRow_lit w #[.int .i64 0, .int .i64 1, .int .i64 1, .int .i64 0, .int .i64 1, .int .i64 2, .int .i64 0, .int .i64 1, .int .i64 1, .int .i64 0, .int .i64 (-1), .int .i64 (-1), .int .i64 0, .int .i64 1, .int .i64 1, .int .i64 0, .int .i64 (-1), .int .i64 (-1)] 3 (Nat.le_refl _) (by unfold maxLen; omega) rfl, below_alloc _ _⟩
end Go.Proofs.YtkioahkfjgbgdaaDoor
