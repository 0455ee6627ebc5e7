
/- Layer 16: isNode, and the reference's node. -/

import Derived.Test.YthdfpddijocfkaaTRows

namespace Go.Proofs.Ythdfpddijocfkaa

open Go.RowKit

attribute [local go_sem ↓] Go.wp_at_zero Go.wp_at_succ

instance (n : NdD) (m : Int) : Decidable (NodeOk n m) := by unfold NodeOk; exact inferInstance
def nodeB (n : NdD) (m : Int) : Bool := decide (NodeOk n m)
theorem nodeB_yes {n : NdD} {m : Int} (h : NodeOk n m) : nodeB n m = true := by unfold nodeB; exact decide_eq_true h
theorem nodeB_no {n : NdD} {m : Int} (h : ¬ NodeOk n m) : nodeB n m = false := by unfold nodeB; exact decide_eq_false h
theorem nodeB_is {n : NdD} {m : Int} (b : Bool) (h : b = true ↔ NodeOk n m) : Ending.returned (.bool b) = .returned (.bool (nodeB n m)) := by
  cases b with
  | true => rw [nodeB_yes (h.1 rfl)]
  | false => rw [nodeB_no (fun q => by cases h.2 q)]

set_option maxRecDepth 100000 in
set_option maxHeartbeats 4000000 in
theorem isNode_any (a0 a1 a2 a3 a4 a5 m : Int) (w : World) :
    Calls Try.prog 69 #[.agg #[.int .i64 a0, .int .i64 a1, .int .i64 a2, .int .i64 a3, .int .i64 a4, .int .i64 a5], .int .i64 m] w fun e w' => e = .returned (.bool (nodeB ⟨a0, a1, a2, a3, a4, a5⟩ m)) ∧ Below w.heap.size w w' := by
  by_cases hl : a4 = -1 ∧ a5 = -1
  · obtain ⟨rfl, rfl⟩ := hl
    go_enter Try.func69, Try.ntmps69
    go_wp2_with fail
    all_goals
      refine (isLeaf_any _ _ _ _ _ _ _).mono ?_
      rintro e w1 ⟨rfl, hb⟩
      have hz := hb.size
      simp only [World.size_alloc] at hz
      have x2 : w1.cell? ⟨w.heap.size, 2, none⟩ = some (.int .i64 a2) := (hb.cell (p := ⟨w.heap.size, 2, none⟩) (by simp)).trans (cell_new w _ _ 2)
      have HB : Hid _ := (below_alloc w _).trans (hb.mono (by simp))
      clear hb
      rw [leafB_yes rfl rfl]
      go_wp2_with fail
      all_goals
        go_ret
        refine ⟨nodeB_is _ ?_, HB.out⟩
        simp only [NodeOk]
        first | omega | (simp; omega)
  · have F : Hid (∀ k0 k1 k2 k3, leafB ⟨k0, k1, k2, k3, a4, a5⟩ = false) := fun _ _ _ _ => by simp [leafB]; omega
    have HL : Hid (a4 ≠ -1 ∨ a5 ≠ -1) := by show _ ∨ _; omega
    clear hl
    go_enter Try.func69, Try.ntmps69
    go_wp2_with fail
    all_goals
      refine (isLeaf_any _ _ _ _ _ _ _).mono ?_
      rintro e w1 ⟨rfl, hb⟩
      have hz := hb.size
      simp only [World.size_alloc] at hz
      have x2 : w1.cell? ⟨w.heap.size, 2, none⟩ = some (.int .i64 a2) := (hb.cell (p := ⟨w.heap.size, 2, none⟩) (by simp)).trans (cell_new w _ _ 2)
      have x3 : w1.cell? ⟨w.heap.size, 3, none⟩ = some (.int .i64 a3) := (hb.cell (p := ⟨w.heap.size, 3, none⟩) (by simp)).trans (cell_new w _ _ 3)
      have HB : Hid _ := (below_alloc w _).trans (hb.mono (by simp))
      clear hb
      rw [F.out]
      go_wp2_with fail
      all_goals
        go_ret
        refine ⟨nodeB_is _ ?_, HB.out⟩
        have HL' := HL.out
        simp only [NodeOk]
        first | omega | (simp; omega)
end Go.Proofs.Ythdfpddijocfkaa
