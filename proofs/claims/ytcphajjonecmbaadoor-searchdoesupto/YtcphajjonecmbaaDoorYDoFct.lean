
/- Layer 7: the closed facts of the row of SearchDoes. -/

import Derived.Test.YtcphajjonecmbaaDoorCards

import Derived.JoinedCond

import Derived.KernelRfl

namespace Go.Proofs.YtcphajjonecmbaaDoor

set_option maxRecDepth 100000 in
set_option maxHeartbeats 80000000 in
theorem searchDoes_facts : joinedFacts Tryd.prog 3 Tryd.f3 (Rows.OpenSpec.upto Rows.searchDoesSpec).bare Rows.searchDoesUptoRow = true := by
  unfold joinedFacts
  simp only [Bool.and_eq_true]
  repeat' apply And.intro
  all_goals (as_aux_lemma => kernel_rfl)
theorem searchDoes_goes : false = Rows.searchDoesUptoRow.goesBy Tryd.prog := by kernel_rfl
theorem searchDoes_text : Rows.searchDoesUptoRow.wfByText (Rows.OpenSpec.upto Rows.searchDoesSpec) = true := by kernel_rfl
end Go.Proofs.YtcphajjonecmbaaDoor
