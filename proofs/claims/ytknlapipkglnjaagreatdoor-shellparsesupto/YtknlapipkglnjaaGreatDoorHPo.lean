
/- Layer 28: the program's opOf. -/

import Derived.Test.YtknlapipkglnjaaGreatDoorHRn

import Derived.Test.YtknlapipkglnjaaGreatDoorHROp

import Derived.Deep.RegionLaw

namespace Go.Proofs.YtknlapipkglnjaaGreatDoor

open Go.RowKit

attribute [local go_sem ↓] Go.wp_at_zero Go.wp_at_succ

set_option maxRecDepth 100000 in
set_option maxHeartbeats 8000000 in
theorem opOf_nil (base : Option Addr) (cap : Nat) (w : World) :
    Calls Tryz.prog 71 #[.slice base 0 cap] w fun e w' => OpOut [] e ∧ Below w.heap.size w w' := by
  have HN : Hid (∀ k V, ¬ OpIs [] k V) := fun k V q => by have := q.len; simp at this
  go_enter Tryz.func71, Tryz.ntmps71
  go_wp2_with fail
  refine bodyPost_ret (v := .tuple #[opV ⟨0, 0, 0, 0⟩, .bool false]) ?_ rfl ⟨Or.inr ⟨HN.out, rfl⟩, below_alloc _ _⟩
  rw [results_cell_tmp rfl]
  go_simp
  rfl
set_option maxRecDepth 100000 in
set_option maxHeartbeats 8000000 in
theorem opOf_no (x : List UInt8) (ws : List (List UInt8)) (cap g : Nat) (w : World) (hc : w.cell? ⟨g, 0, none⟩ = some (.string ⟨x.toArray⟩)) (hn : ws.length ≤ 4294967296) (hl : HEB w.heap.size w) (hx : ∀ m : Nat, 1 ≤ m → m ≤ 9 → x ≠ wordL m) :
    Calls Tryz.prog 71 #[.slice (some ⟨g, 0, none⟩) (ws.length + 1) cap] w fun e w' => OpOut (x :: ws) e ∧ Below w.heap.size w w' := by
  have HN : Hid (∀ k V, ¬ OpIs (x :: ws) k V) := fun k V q => hx k q.lo q.hi (Option.some.inj q.hd)
  have KO : Hid (Calls Tryz.prog 90 #[.string ⟨x.toArray⟩] (w.alloc (.cells #[.int .i64 0, .int .i64 0, .int .i64 0, .int .i64 0] 39)) fun e w' => e = .returned (.int .i64 0) ∧ w' = (w.alloc (.cells #[.int .i64 0, .int .i64 0, .int .i64 0, .int .i64 0] 39))) := (kindOf_any x _ (hl.1 _ (below_alloc _ _))).mono (by
    rintro e w' ⟨k, rfl, ⟨h1, h2, h3⟩ | ⟨rfl, -⟩, rfl⟩
    · exact absurd h3 (hx k h1 h2)
    · exact ⟨rfl, rfl⟩)
  have hc0 : (w.alloc (.cells #[.int .i64 0, .int .i64 0, .int .i64 0, .int .i64 0] 39)).cell? ⟨g, 0, none⟩ = some (.string ⟨x.toArray⟩) := ((below_alloc w _).cell (p := ⟨g, 0, none⟩) (World.block_lt_of_cell? w _ hc)).trans hc
  have n0 : (ws.length : Int) ≤ 4294967296 := by omega
  have n1 : (0 : Int) ≤ (ws.length : Int) := Int.natCast_nonneg _
  have z1 : ((ws.length : Int) + 1 == 0) = false := beq_eq_false_iff_ne.2 (by omega)
  clear hx hl hn hc
  go_enter Tryz.func71, Tryz.ntmps71
  go_wp2_with (first | (go_at_call 90; refine KO.out.mono ?_; rintro e w1 ⟨rfl, rfl⟩))
  go_region
  go_wp2_with fail
  refine bodyPost_ret (v := .tuple #[opV ⟨0, 0, 0, 0⟩, .bool false]) ?_ rfl ⟨Or.inr ⟨HN.out, rfl⟩, ((below_alloc w _).alloc (by simp) _).drew⟩
  rw [results_cell_tmp rfl]
  go_simp
  rfl
end Go.Proofs.YtknlapipkglnjaaGreatDoor
