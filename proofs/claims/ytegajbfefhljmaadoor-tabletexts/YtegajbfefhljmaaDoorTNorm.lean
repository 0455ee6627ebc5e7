
/- Layer 16: Norm and Same of both. -/

import Derived.Test.YtegajbfefhljmaaDoorTEq

namespace Go.Proofs.YtegajbfefhljmaaDoor

open Go.RowKit

attribute [local go_sem ↓] Go.wp_at_zero Go.wp_at_succ

open Classical in
/-- The places of a tree, by its order. -/
noncomputable def theL (t : NL) (p : Nat) : List Nat := if h : ∃ L, Tree t p L then Classical.choose h else []
theorem theL_of {t : NL} {p : Nat} {L : List Nat} (h : Tree t p L) : theL t p = L := by
  have hx : ∃ L, Tree t p L := ⟨L, h⟩
  unfold theL
  rw [dif_pos hx]
  exact (Classical.choose_spec hx).det h
theorem theL_form {t : NL} (h : InForm t) : Tree t 0 (theL t 0) ∧ (theL t 0).Nodup ∧ (theL t 0).length = t.length := by
  obtain ⟨L, h1, h2, h3⟩ := h.tree
  rw [theL_of h1]
  exact ⟨h1, h2, h3⟩
open Classical in
/-- Norm's answer. -/
noncomputable def normL (t : NL) : NL := if formE t = 0 then partL t (theL t 0) else []
theorem normL_ok {t : NL} (h : formE t = 0) : normL t = partL t (theL t 0) := by unfold normL; rw [if_pos h]
theorem normL_bad {t : NL} (h : formE t ≠ 0) : normL t = [] := by unfold normL; rw [if_neg h]
noncomputable def sameE (a b : NL) : Int := if formE a = 0 then formE b else formE a
noncomputable def sameB (a b : NL) : Bool := if formE a = 0 ∧ formE b = 0 then nlEq (normL a) (normL b) else false
theorem e_ne {x : Int} (h : x ≠ 0) : (x != 0) = true ∧ (x == 0) = false := by simp [h]
theorem e_eq {x : Int} (h : x = 0) : (x != 0) = false ∧ (x == 0) = true := by simp [h]

end Go.Proofs.YtegajbfefhljmaaDoor
