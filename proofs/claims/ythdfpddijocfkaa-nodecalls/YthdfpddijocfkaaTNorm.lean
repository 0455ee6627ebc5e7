
/- Layer 16: Norm and Same of both. -/

import Derived.Test.YthdfpddijocfkaaTEq

namespace Go.Proofs.Ythdfpddijocfkaa

open Go.RowKit

attribute [local go_sem ↓] Go.wp_at_zero Go.wp_at_succ

open Classical in
/-- The places of a tree, by its order. -/
noncomputable def theL (t : NL) (p : Nat) : List Nat := if h : ∃ L, Tree t p L then Classical.choose h else []
theorem theL_of {t : NL} {p : Nat} {L : List Nat} (h : Tree t p L) : theL t p = L := by
  have hx : ∃ L, Tree t p L := ⟨L, h⟩
  unfold theL
  rw [dif_pos hx]
  exact (Classical.choose_spec hx).det h
theorem theL_form {t : NL} (h : InForm t) : Tree t 0 (theL t 0) ∧ (theL t 0).Nodup ∧ (theL t 0).length = t.length := by
  obtain ⟨L, h1, h2, h3⟩ := h.tree
  rw [theL_of h1]
  exact ⟨h1, h2, h3⟩
open Classical in
/-- Norm's answer. -/
noncomputable def normL (t : NL) : NL := if formE t = 0 then partL t (theL t 0) else []
theorem normL_ok {t : NL} (h : formE t = 0) : normL t = partL t (theL t 0) := by unfold normL; rw [if_pos h]
theorem normL_bad {t : NL} (h : formE t ≠ 0) : normL t = [] := by unfold normL; rw [if_neg h]
noncomputable def sameE (a b : NL) : Int := if formE a = 0 then formE b else formE a
noncomputable def sameB (a b : NL) : Bool := if formE a = 0 ∧ formE b = 0 then nlEq (normL a) (normL b) else false
theorem e_ne {x : Int} (h : x ≠ 0) : (x != 0) = true ∧ (x == 0) = false := by simp [h]
theorem e_eq {x : Int} (h : x = 0) : (x != 0) = false ∧ (x == 0) = true := by simp [h]

set_option maxRecDepth 100000 in
set_option maxHeartbeats 1000000 in
theorem norm_any (base : Option Addr) (b o c : Nat) (t : NL) (w : World) (h : NodesAt w base b o t) :
    Calls Try.prog 58 #[.slice base t.length c] w fun e w' => ∃ v, e = .returned (.tuple #[v, .int .i64 (formE t)]) ∧ w'.ownsRow w.heap.size 81 6 v (normL t).length (ndCells (normL t)) ∧ Below w.heap.size w w' := by
  have HA : Hid _ := h
  clear h
  by_cases he : formE t = 0
  · obtain ⟨hb, hf⟩ := formE_ok he
    obtain ⟨hT, -, hlen⟩ := theL_form hf
    have HT : Hid _ := hT
    have F : Hid _ := normL_ok he
    have HE : Hid _ := he
    obtain ⟨e1, e2⟩ := e_eq he
    clear he hf hT
    go_enter Try.func58, Try.ntmps58
    go_wp2_with (first | (go_at_call 43; refine (check_any _ b o c t _ HA.out).mono ?_; rintro e w1 ⟨rfl, hb1⟩; have HB1 : Hid _ := hb1; clear hb1) | (go_at_call 68; refine (below_any _ b o c t 0 _ _ (HA.out.below HB1.out) HT.out (by omega) (by omega)).mono ?_; rintro e w2 ⟨v, rfl, hown, hb2⟩))
    go_ret2
    refine ⟨_, by rw [HE.out]; rfl, ?_, HB1.out.trans (hb2.mono HB1.out.size)⟩
    rw [F.out, partL_length]
    exact owns_down hown HB1.out.size
  · have F : Hid _ := normL_bad he
    obtain ⟨e1, e2⟩ := e_ne he
    clear he
    go_enter Try.func58, Try.ntmps58
    go_wp2_with (first | (go_at_call 43; refine (check_any _ b o c t _ HA.out).mono ?_; rintro e w1 ⟨rfl, hb1⟩; have HB1 : Hid _ := hb1; clear hb1))
    go_ret2
    refine ⟨_, rfl, ?_, HB1.out⟩
    rw [F.out]
    exact World.ownsRow_nil _ _ _ _
end Go.Proofs.Ythdfpddijocfkaa
