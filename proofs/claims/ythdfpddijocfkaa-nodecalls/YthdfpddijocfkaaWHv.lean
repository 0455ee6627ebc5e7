
/- Layer 17: Heavy, whole. -/

import Derived.Test.YthdfpddijocfkaaWHeavy

namespace Go.Proofs.Ythdfpddijocfkaa

open Go.RowKit

attribute [local go_sem ↓] Go.wp_at_zero Go.wp_at_succ

theorem keys_room2 {t : NL} : (keysA t).length = 0 ∨ (keysA t).length + 2 ≤ t.length := by
  by_cases h : (rootR t).2 = 0
  · exact Or.inr (keys_room h)
  · exact Or.inl (by unfold keysA; rw [if_neg h]; rfl)
end Go.Proofs.Ythdfpddijocfkaa
