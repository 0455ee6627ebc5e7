
/- Layer 5: countOrders. -/

import Derived.Test.YtcphajjonecmbaaDoorEBits

import Derived.Deep.RegionHeld3

namespace Go.Proofs.YtcphajjonecmbaaDoor

open Go.RowKit

attribute [local go_sem ↓] Go.wp_at_zero Go.wp_at_succ

theorem Ints.fn {w : World} {g n : Nat} {f f' : Nat → Int} (h : Ints w g n f) (e : ∀ j, j < n → f j = f' j) : Ints w g n f' := fun j hj => by rw [← e j hj]; exact h j hj
theorem Ints.made (w : World) (n : Nat) (e : TypeId) : Ints (w.alloc (.cells (madeCells #[.int .i64 0] n) e)) w.heap.size n (fun _ => 0) := by
  intro j hj
  have c0 : (madeCells #[.int .i64 0] n)[j]? = some (.int .i64 0) := by simp [madeCells, hj, Nat.mod_one]
  exact ⟨by simp [c0], by simp⟩

theorem Ints.made1 (w : World) (n : Nat) (e : TypeId) : Ints (w.alloc (.cells ((madeCells #[.int .i64 0] n).setIfInBounds 0 (.int .i64 1)) e)) w.heap.size n (fun x => if x = 0 then 1 else 0) := by
  intro j hj
  have c0 : ((madeCells #[.int .i64 0] n).setIfInBounds 0 (.int .i64 1))[j]? = some (.int .i64 (if j = 0 then 1 else 0)) := by
    rw [Array.getElem?_setIfInBounds]
    by_cases h : j = 0
    · subst h; simp [size_madeCells, hj]
    · rw [if_neg (by omega)]; simp [madeCells, hj, Nat.mod_one, h]
  exact ⟨by simp [c0], by simp⟩

end Go.Proofs.YtcphajjonecmbaaDoor
