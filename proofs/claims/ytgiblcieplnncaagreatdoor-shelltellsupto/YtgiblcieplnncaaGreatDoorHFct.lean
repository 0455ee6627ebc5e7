
/- Layer 28: the closed facts of the row of ShellTells, each by itself (all together they pass the memory lid). -/

import Derived.Test.YtgiblcieplnncaaGreatDoorCards

import Derived.JoinedCond

import Derived.KernelRfl

namespace Go.Proofs.YtgiblcieplnncaaGreatDoor

set_option maxRecDepth 100000 in
set_option maxHeartbeats 80000000 in
theorem tells_facts : joinedFacts Tryz.prog 4 Tryz.f4 (Rows.OpenSpec.upto Rows.shellTellsSpec).bare { Rows.shellTellsUptoRow with leaving := false } = true := by
  unfold joinedFacts
  simp only [Bool.and_eq_true]
  repeat' apply And.intro
  all_goals (as_aux_lemma => kernel_rfl)
theorem tells_goes : true = Rows.shellTellsUptoRow.goesBy Tryz.prog := by kernel_rfl
theorem tells_wf : Rows.shellTellsUptoRow.wf (Rows.OpenSpec.upto Rows.shellTellsSpec) = true := by kernel_rfl
theorem tells_text : Rows.shellTellsUptoRow.wfByText (Rows.OpenSpec.upto Rows.shellTellsSpec) = true := by kernel_rfl
end Go.Proofs.YtgiblcieplnncaaGreatDoor
