
/- Layer 7: the closed facts of the row of SearchEasier. -/

import Derived.Test.YtcphajjonecmbaaDoorCards

import Derived.JoinedCond

import Derived.KernelRfl

namespace Go.Proofs.YtcphajjonecmbaaDoor

set_option maxRecDepth 100000 in
set_option maxHeartbeats 80000000 in
theorem searchEasier_facts : joinedFacts Tryd.prog 7 Tryd.f7 (Rows.OpenSpec.upto Rows.searchEasierSpec).bare Rows.searchEasierUptoRow = true := by
  unfold joinedFacts
  simp only [Bool.and_eq_true]
  repeat' apply And.intro
  all_goals (as_aux_lemma => kernel_rfl)
theorem searchEasier_goes : false = Rows.searchEasierUptoRow.goesBy Tryd.prog := by kernel_rfl
theorem searchEasier_text : Rows.searchEasierUptoRow.wfByText (Rows.OpenSpec.upto Rows.searchEasierSpec) = true := by kernel_rfl
end Go.Proofs.YtcphajjonecmbaaDoor
