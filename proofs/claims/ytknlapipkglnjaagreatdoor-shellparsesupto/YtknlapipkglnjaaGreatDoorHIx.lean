
/- Layer 28: an array's element. -/

import Derived.Test.YtknlapipkglnjaaGreatDoorHOpP

namespace Go.Proofs.YtknlapipkglnjaaGreatDoor

open Go.RowKit

theorem names_ix (cs : Array Value) (k : Nat) (v : Value) (hv : cs[k]? = some v) (hl : k < 10) (w : World) : (Instr.index 103 (.agg cs) (.int .i64 k)).run Tryz.prog w = .ok v w := by
  simp [Instr.index, run_underlying Tryz.underlying103, asIntOf, go_sem]
  rw [if_pos hl, hv]
  rfl
end Go.Proofs.YtknlapipkglnjaaGreatDoor
