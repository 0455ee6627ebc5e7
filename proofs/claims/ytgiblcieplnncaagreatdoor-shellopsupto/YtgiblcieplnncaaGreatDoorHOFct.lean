
/- Layer 28: the closed facts of the row of ShellOps, each by itself (all together they pass the memory lid). -/

import Derived.Test.YtgiblcieplnncaaGreatDoorCards

import Derived.JoinedCond

import Derived.KernelRfl

namespace Go.Proofs.YtgiblcieplnncaaGreatDoor

set_option maxRecDepth 100000 in
set_option maxHeartbeats 80000000 in
theorem ops_facts : joinedFacts Tryz.prog 3 Tryz.f3 (Rows.OpenSpec.upto Rows.shellOpsSpec).bare { Rows.shellOpsUptoRow with leaving := false } = true := by
  unfold joinedFacts
  simp only [Bool.and_eq_true]
  repeat' apply And.intro
  all_goals (as_aux_lemma => kernel_rfl)
theorem ops_goes : true = Rows.shellOpsUptoRow.goesBy Tryz.prog := by kernel_rfl
theorem ops_wf : Rows.shellOpsUptoRow.wf (Rows.OpenSpec.upto Rows.shellOpsSpec) = true := by kernel_rfl
theorem ops_text : Rows.shellOpsUptoRow.wfByText (Rows.OpenSpec.upto Rows.shellOpsSpec) = true := by kernel_rfl
end Go.Proofs.YtgiblcieplnncaaGreatDoor
