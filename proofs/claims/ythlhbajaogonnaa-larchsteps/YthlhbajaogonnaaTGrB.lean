
/- Layer 16: Graft of both, whole. -/

import Derived.Test.YthlhbajaogonnaaTGrR

namespace Go.Proofs.Ythlhbajaogonnaa

open Go.RowKit

attribute [local go_sem ↓] Go.wp_at_zero Go.wp_at_succ

open Classical in
noncomputable def graE (t : NL) (p : Int) (u : NL) : Int := if sameE t u ≠ 0 then sameE t u else if 0 ≤ p ∧ p < t.length then (if 100000 < (graB t p.toNat u).size then 2 else 0) else 1
open Classical in
/-- Graft's answer. -/
noncomputable def graA (t : NL) (p : Int) (u : NL) : NL := if graE t p u = 0 then (graB t p.toNat u).lay 0 else []
theorem sameE_ok {t u : NL} (h1 : formE t = 0) (h2 : formE u = 0) : sameE t u = 0 := by unfold sameE; rw [if_pos h1, h2]
theorem sameE_two {t u : NL} (h : sameE t u = 0) : formE t = 0 ∧ formE u = 0 := by
  unfold sameE at h
  split at h
  · exact ⟨by assumption, h⟩
  · exact absurd h (by assumption)
end Go.Proofs.Ythlhbajaogonnaa
