
/- Layer 16: lists of nodes held against one another. -/

import Derived.Test.YthdfpddijocfkaaTPart

namespace Go.Proofs.Ythdfpddijocfkaa

open Go.RowKit

attribute [local go_sem ↓] Go.wp_at_zero Go.wp_at_succ

def ndEq (a b : NdD) : Bool := decide (a.key = b.key) && (decide (a.inf = b.inf) && (decide (a.wt = b.wt) && (decide (a.val = b.val) && (decide (a.l = b.l) && decide (a.r = b.r)))))
theorem ndEq_yes {a b : NdD} : ndEq a b = true ↔ a = b := by
  obtain ⟨a0, a1, a2, a3, a4, a5⟩ := a
  obtain ⟨b0, b1, b2, b3, b4, b5⟩ := b
  simp [ndEq]
theorem ndEq_no {a b : NdD} (h : a ≠ b) : ndEq a b = false := by
  cases e : ndEq a b with
  | true => exact absurd (ndEq_yes.1 e) h
  | false => rfl
instance : DecidableEq NdD := fun a b => if h : ndEq a b = true then isTrue (ndEq_yes.1 h) else isFalse (fun q => h (ndEq_yes.2 q))
def nlEq (a b : NL) : Bool := decide (a = b)
theorem nl_ext {a b : NL} (hl : a.length = b.length) (h : ∀ i, i < a.length → ndAt a i = ndAt b i) : a = b := by
  apply List.ext_getElem hl
  intro i h1 h2
  have := h i h1
  simpa [ndAt, List.getD_eq_getElem?_getD, List.getElem?_eq_getElem h1, List.getElem?_eq_getElem h2] using this
theorem nd_neq (a0 a1 a2 a3 a4 a5 b0 b1 b2 b3 b4 b5 : Int) (w : World) : (binOp .neq 81 (.agg #[.int .i64 a0, .int .i64 a1, .int .i64 a2, .int .i64 a3, .int .i64 a4, .int .i64 a5]) (.agg #[.int .i64 b0, .int .i64 b1, .int .i64 b2, .int .i64 b3, .int .i64 b4, .int .i64 b5])).run Try.prog w = .ok (.bool (!(ndEq ⟨a0, a1, a2, a3, a4, a5⟩ ⟨b0, b1, b2, b3, b4, b5⟩))) w := by
  have u3 := Try.underlying3
  have a3' := Try.isAgg3
  have z3 := Try.sizeOf3
  have hS : Try.prog.underlying 81 = some (.struct (Try.prog.fieldsOf 81)) := by kernel_rfl
  have hp : Try.prog.stoodInHeld 81 = false := by kernel_rfl
  rw [run_neq_struct, show (10000 : Nat) = 9999 + 1 from rfl, run_equalIn_agg w 9999 81 _ _ hS hp]
  simp only [Program.fieldsOf, Try.underlying81]
  go_simp
  unfold ndEq
  by_cases h1 : a0 = b0 <;> by_cases h2 : a1 = b1 <;> by_cases h3 : a2 = b2 <;> by_cases h4 : a3 = b3 <;> by_cases h5 : a4 = b4 <;> by_cases h6 : a5 = b5 <;> simp [h1, h2, h3, h4, h5, h6]

end Go.Proofs.Ythdfpddijocfkaa
