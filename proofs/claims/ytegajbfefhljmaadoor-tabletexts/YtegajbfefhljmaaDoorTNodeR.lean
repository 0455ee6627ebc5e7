
/- Layer 16: the reference's node. -/

import Derived.Test.YtegajbfefhljmaaDoorTNode

namespace Go.Proofs.YtegajbfefhljmaaDoor

open Go.RowKit

attribute [local go_sem ↓] Go.wp_at_zero Go.wp_at_succ

set_option maxRecDepth 100000 in
set_option maxHeartbeats 4000000 in
theorem rnode_any (a0 a1 a2 a3 a4 a5 m : Int) (w : World) :
    Calls Tryd.prog 21 #[.agg #[.int .i64 a0, .int .i64 a1, .int .i64 a2, .int .i64 a3, .int .i64 a4, .int .i64 a5], .int .i64 m] w fun e w' => e = .returned (.bool (nodeB ⟨a0, a1, a2, a3, a4, a5⟩ m)) ∧ Below w.heap.size w w' := by
  by_cases hl : a4 = -1 ∧ a5 = -1
  · obtain ⟨rfl, rfl⟩ := hl
    go_enter Tryd.func21, Tryd.ntmps21
    go_wp2_with fail
    all_goals
      go_ret
      refine ⟨nodeB_is _ ?_, below_alloc _ _⟩
      simp only [NodeOk]
      first | omega | (simp; omega)
  · by_cases h4 : a4 = -1
    · have h5 : (a5 == -1) = false := by simp; omega
      subst h4
      go_enter Tryd.func21, Tryd.ntmps21
      go_wp2_with fail
      all_goals
        go_ret
        refine ⟨nodeB_is _ ?_, below_alloc _ _⟩
        simp only [NodeOk]
        first | omega | (simp; omega) | (simp at *; omega)
    · have h4' : (a4 == -1) = false := by simp; omega
      have HL : Hid (a4 ≠ -1) := h4
      clear hl h4
      go_enter Tryd.func21, Tryd.ntmps21
      go_wp2_with fail
      all_goals
        go_ret
        refine ⟨nodeB_is _ ?_, below_alloc _ _⟩
        have HL' := HL.out
        simp only [NodeOk]
        first | omega | (simp; omega) | (simp at * <;> omega)
end Go.Proofs.YtegajbfefhljmaaDoor
