
/- Layer 28: the program's Plain. -/

import Derived.Test.YtknlapipkglnjaaGreatDoorHOpP

namespace Go.Proofs.YtknlapipkglnjaaGreatDoor

open Go.RowKit

attribute [local go_sem ↓] Go.wp_at_zero Go.wp_at_succ

/-- An operation with what its kind doesn't use left out. -/
def plainD (o : OpD) : OpD :=
  if o.kind = 1 ∨ o.kind = 4 ∨ o.kind = 5 ∨ o.kind = 6 then ⟨o.kind, o.key, 0, 0⟩ else if o.kind = 2 ∨ o.kind = 3 then ⟨o.kind, o.key, o.val, 0⟩ else if o.kind = 9 then ⟨o.kind, o.key, 0, o.hi⟩ else ⟨o.kind, 0, 0, 0⟩
theorem results_cell1 {fn : Func} {p : Tmp} {ty : TypeId} (h : fn.results = #[.cell p ty]) (tmps : Array Value) (P : Program) (w : World) :
    (results fn tmps).run P w = ((asAddr (tmps.getD p undef)).run P w).andThen fun a w₁ => (loadVar ty a).run P w₁ := by
  simp only [results, h]
  simp [Sem.run_bind, Result.andThen]
set_option maxRecDepth 100000 in
set_option maxHeartbeats 4000000 in
theorem plain_any (k a b c : Int) (w : World) :
    Calls Tryz.prog 11 #[.agg #[.int .i64 k, .int .i64 a, .int .i64 b, .int .i64 c]] w fun e w' => e = .returned (opV (plainD ⟨k, a, b, c⟩)) ∧ Below w.heap.size w w' := by
  by_cases h : k = 1 ∨ k = 2 ∨ k = 3 ∨ k = 4 ∨ k = 5 ∨ k = 6 ∨ k = 9
  · rcases h with rfl | rfl | rfl | rfl | rfl | rfl | rfl
    all_goals
      go_enter Tryz.func11, Tryz.ntmps11
      go_wp2_with fail
      refine bodyPost_ret (v := opV (plainD _)) ?_ rfl ⟨rfl, ((Below.refl _ _).alloc (Nat.le_refl _) _).alloc (by simp) _⟩
      rw [results_cell1 rfl]
      simp only [plainD, opV]
      go_simp
  · have e1 : (k == 1) = false := beq_eq_false_iff_ne.2 (by omega)
    have e2 : (k == 2) = false := beq_eq_false_iff_ne.2 (by omega)
    have e3 : (k == 3) = false := beq_eq_false_iff_ne.2 (by omega)
    have e4 : (k == 4) = false := beq_eq_false_iff_ne.2 (by omega)
    have e5 : (k == 5) = false := beq_eq_false_iff_ne.2 (by omega)
    have e6 : (k == 6) = false := beq_eq_false_iff_ne.2 (by omega)
    have e9 : (k == 9) = false := beq_eq_false_iff_ne.2 (by omega)
    have HP : Hid (plainD ⟨k, a, b, c⟩ = ⟨k, 0, 0, 0⟩) := by show plainD _ = _; unfold plainD; rw [if_neg (by simp; omega), if_neg (by simp; omega), if_neg (by simp; omega)]
    clear h
    rw [HP.out]
    go_enter Tryz.func11, Tryz.ntmps11
    go_wp2_with fail
    refine bodyPost_ret (v := opV ⟨k, 0, 0, 0⟩) ?_ rfl ⟨rfl, ((Below.refl _ _).alloc (Nat.le_refl _) _).alloc (by simp) _⟩
    rw [results_cell1 rfl]
    simp only [opV]
    go_simp
end Go.Proofs.YtknlapipkglnjaaGreatDoor
