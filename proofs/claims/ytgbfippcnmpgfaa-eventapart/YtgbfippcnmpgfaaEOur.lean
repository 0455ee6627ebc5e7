
/- Layer 5: the law's our: operations for the program. -/

import Derived.Test.YtgbfippcnmpgfaaEEvents

namespace Go.Proofs.Ytgbfippcnmpgfaa

open Go.RowKit

attribute [local go_sem ↓] Go.wp_at_zero Go.wp_at_succ

def cdC (c : CD) (v : Value) : List Value := [.int .i64 c.th, .int .i64 c.op.kind, .int .i64 c.op.key, .int .i64 c.op.val, .int .i64 c.op.hi, .bool c.rt.ok, .int .i64 c.rt.key, .int .i64 c.rt.val, v, .int .i64 c.fr, .int .i64 c.to]
def cdsC : List (CD × Value) → List Value
  | [] => []
  | x :: t => cdC x.1 x.2 ++ cdsC t
theorem cdsC_append (b : List (CD × Value)) : ∀ a, cdsC (a ++ b) = cdsC a ++ cdsC b
  | [] => rfl
  | x :: t => by simp [cdsC, cdsC_append b t]
theorem cdsC_length : ∀ a, (cdsC a).length = a.length * 11
  | [] => rfl
  | x :: t => by
    have : (cdC x.1 x.2).length = 11 := rfl
    simp only [cdsC, List.length_append, this, cdsC_length t, List.length_cons]; omega
theorem cdsC_get : ∀ (a : List (CD × Value)) (k i : Nat) (x : CD × Value), a[k]? = some x → i < 11 → (cdsC a)[k * 11 + i]? = (cdC x.1 x.2)[i]?
  | [], k, i, x, h, _ => by simp at h
  | y :: t, 0, i, x, h, hi => by
    simp only [List.getElem?_cons_zero, Option.some.injEq] at h
    subst h
    simp only [cdsC, Nat.zero_mul, Nat.zero_add]
    rw [List.getElem?_append_left (by exact hi)]
  | y :: t, k + 1, i, x, h, hi => by
    have ih := cdsC_get t k i x (by simpa using h) hi
    have l11 : (cdC y.1 y.2).length = 11 := rfl
    simp only [cdsC]
    rw [List.getElem?_append_right (by rw [l11]; omega), l11, show (k + 1) * 11 + i - 11 = k * 11 + i by omega]
    exact ih
def CRets (w : World) (B : Nat) (row : Option Nat) (l : List (CD × Value)) : Prop := ∀ x ∈ l, RetAt w B row x.1.rt.pairs x.2
theorem CRets.below {w w' : World} {B : Nat} {row : Option Nat} {l : List (CD × Value)} (h : CRets w B row l) (hb : Below w.heap.size w w') : CRets w' B row l := fun x hx => (h x hx).below hb
theorem CRets.grown {w w1 : World} {B : Nat} {row row' : Option Nat} {l : List (CD × Value)} (h : CRets w B row l) (hg : w.grownBy w1 row) (hr : ∀ g, row' = some g → row = some g ∨ w.heap.size ≤ g) : CRets w1 B row' l := by
  intro x hx
  obtain ⟨g, cap, e, h1, h2, h3, h4⟩ := h x hx
  refine ⟨g, cap, e, h1, Nat.lt_of_lt_of_le h2 hg.size, fun q => ?_, ?_⟩
  · rcases hr g q with r | r
    · exact h3 r
    · omega
  · refine ⟨h4.base, fun hn => Nat.lt_of_lt_of_le (h4.lt hn) hg.size, fun i hi => ?_, h4.len, fun i hi => (hg.frozen_far ⟨g, _, none⟩ h2 (fun q => h3 q.symm)).trans (h4.thaw i hi)⟩
    exact ⟨(hg.cell_far ⟨g, _, none⟩ h2 (fun q => h3 q.symm)).trans (h4.cells i hi).1, (hg.cell_far ⟨g, _, none⟩ h2 (fun q => h3 q.symm)).trans (h4.cells i hi).2⟩

end Go.Proofs.Ytgbfippcnmpgfaa
