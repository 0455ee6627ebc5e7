
/- Layer 16: Norm and Same of both. -/

import Derived.Test.YtkioahkfjgbgdaaDoorTEq

namespace Go.Proofs.YtkioahkfjgbgdaaDoor

open Go.RowKit

attribute [local go_sem ↓] Go.wp_at_zero Go.wp_at_succ

open Classical in
/-- The places of a tree, by its order. -/
noncomputable def theL (t : NL) (p : Nat) : List Nat := if h : ∃ L, Tree t p L then Classical.choose h else []
theorem theL_of {t : NL} {p : Nat} {L : List Nat} (h : Tree t p L) : theL t p = L := by
  have hx : ∃ L, Tree t p L := ⟨L, h⟩
  unfold theL
  rw [dif_pos hx]
  exact (Classical.choose_spec hx).det h
theorem theL_form {t : NL} (h : InForm t) : Tree t 0 (theL t 0) ∧ (theL t 0).Nodup ∧ (theL t 0).length = t.length := by
  obtain ⟨L, h1, h2, h3⟩ := h.tree
  rw [theL_of h1]
  exact ⟨h1, h2, h3⟩
open Classical in
/-- Norm's answer. -/
noncomputable def normL (t : NL) : NL := if formE t = 0 then partL t (theL t 0) else []
theorem normL_ok {t : NL} (h : formE t = 0) : normL t = partL t (theL t 0) := by unfold normL; rw [if_pos h]
theorem normL_bad {t : NL} (h : formE t ≠ 0) : normL t = [] := by unfold normL; rw [if_neg h]
noncomputable def sameE (a b : NL) : Int := if formE a = 0 then formE b else formE a
noncomputable def sameB (a b : NL) : Bool := if formE a = 0 ∧ formE b = 0 then nlEq (normL a) (normL b) else false
theorem e_ne {x : Int} (h : x ≠ 0) : (x != 0) = true ∧ (x == 0) = false := by simp [h]
theorem e_eq {x : Int} (h : x = 0) : (x != 0) = false ∧ (x == 0) = true := by simp [h]

set_option maxRecDepth 100000 in
set_option maxHeartbeats 1000000 in
theorem norm_any (base : Option Addr) (b o c : Nat) (t : NL) (w : World) (h : NodesAt w base b o t) :
    Calls Tryd.prog 5 #[.slice base t.length c] w fun e w' => ∃ v, e = .returned (.tuple #[v, .int .i64 (formE t)]) ∧ w'.ownsRow w.heap.size 40 6 v (normL t).length (ndCells (normL t)) ∧ Below w.heap.size w w' := by
  have HA : Hid _ := h
  clear h
  by_cases he : formE t = 0
  · obtain ⟨hb, hf⟩ := formE_ok he
    obtain ⟨hT, -, hlen⟩ := theL_form hf
    have HT : Hid _ := hT
    have F : Hid _ := normL_ok he
    have HE : Hid _ := he
    obtain ⟨e1, e2⟩ := e_eq he
    clear he hf hT
    go_enter Tryd.func5, Tryd.ntmps5
    go_wp2_with (first | (go_at_call 23; refine (check_any _ b o c t _ HA.out).mono ?_; rintro e w1 ⟨rfl, hb1⟩; have HB1 : Hid _ := hb1; clear hb1) | (go_at_call 24; refine (below_any _ b o c t 0 _ _ (HA.out.below HB1.out) HT.out (by omega) (by omega)).mono ?_; rintro e w2 ⟨v, rfl, hown, hb2⟩))
    go_ret2
    refine ⟨_, by rw [HE.out]; rfl, ?_, HB1.out.trans (hb2.mono HB1.out.size)⟩
    rw [F.out, partL_length]
    exact owns_down hown HB1.out.size
  · have F : Hid _ := normL_bad he
    obtain ⟨e1, e2⟩ := e_ne he
    clear he
    go_enter Tryd.func5, Tryd.ntmps5
    go_wp2_with (first | (go_at_call 23; refine (check_any _ b o c t _ HA.out).mono ?_; rintro e w1 ⟨rfl, hb1⟩; have HB1 : Hid _ := hb1; clear hb1))
    go_ret2
    refine ⟨_, rfl, ?_, HB1.out⟩
    rw [F.out]
    exact World.ownsRow_nil _ _ _ _
set_option maxRecDepth 100000 in
set_option maxHeartbeats 1000000 in
theorem rnorm_any (base : Option Addr) (b o c : Nat) (t : NL) (w : World) (h : NodesAt w base b o t) :
    Calls Tryd.prog 14 #[.slice base t.length c] w fun e w' => ∃ v, e = .returned (.tuple #[v, .int .i64 (formE t)]) ∧ w'.ownsRow w.heap.size 40 6 v (normL t).length (ndCells (normL t)) ∧ Below w.heap.size w w' := by
  have HA : Hid _ := h
  clear h
  by_cases he : formE t = 0
  · obtain ⟨hb, hf⟩ := formE_ok he
    obtain ⟨hT, -, hlen⟩ := theL_form hf
    have HT : Hid _ := hT
    have F : Hid _ := normL_ok he
    have HE : Hid _ := he
    obtain ⟨e1, e2⟩ := e_eq he
    clear he hf hT
    go_enter Tryd.func14, Tryd.ntmps14
    go_wp2_with (first | (go_at_call 30; refine (rcheck_any _ b o c t _ HA.out).mono ?_; rintro e w1 ⟨rfl, hb1⟩; have HB1 : Hid _ := hb1; clear hb1) | (go_at_call 31; refine (rPart_any _ b o c t 0 _ _ (HA.out.below HB1.out) HT.out (by omega) (by omega)).mono ?_; rintro e w2 ⟨v, rfl, hown, hb2⟩))
    go_ret2
    refine ⟨_, by rw [HE.out]; rfl, ?_, HB1.out.trans (hb2.mono HB1.out.size)⟩
    rw [F.out, partL_length]
    exact owns_down hown HB1.out.size
  · have F : Hid _ := normL_bad he
    obtain ⟨e1, e2⟩ := e_ne he
    clear he
    go_enter Tryd.func14, Tryd.ntmps14
    go_wp2_with (first | (go_at_call 30; refine (rcheck_any _ b o c t _ HA.out).mono ?_; rintro e w1 ⟨rfl, hb1⟩; have HB1 : Hid _ := hb1; clear hb1))
    go_ret2
    refine ⟨_, rfl, ?_, HB1.out⟩
    rw [F.out]
    exact World.ownsRow_nil _ _ _ _
set_option maxRecDepth 100000 in
theorem checkBoth_any (ba bb : Option Addr) (ga oa ca gb ob cb : Nat) (a b : NL) (w : World) (ha : NodesAt w ba ga oa a) (hb : NodesAt w bb gb ob b) :
    Calls Tryd.prog 25 #[.slice ba a.length ca, .slice bb b.length cb] w fun e w' => e = .returned (.int .i64 (sameE a b)) ∧ Below w.heap.size w w' := by
  have HA : Hid _ := ha
  have HB : Hid _ := hb
  clear ha hb
  by_cases he : formE a = 0
  · have F : Hid (sameE a b = formE b) := by show sameE a b = _; unfold sameE; rw [if_pos he]
    obtain ⟨e1, e2⟩ := e_eq he
    clear he
    go_enter Tryd.func25, Tryd.ntmps25
    go_wp2_with (first | (go_at_call_of 23 a; refine (check_any _ ga oa ca a _ HA.out).mono ?_; rintro e w1 ⟨rfl, hb1⟩; have HB1 : Hid _ := hb1; clear hb1) | (go_at_call 23; refine (check_any _ gb ob cb b _ (HB.out.below HB1.out)).mono ?_; rintro e w2 ⟨rfl, hb2⟩))
    go_ret
    exact ⟨by rw [F.out]; rfl, HB1.out.trans (hb2.mono HB1.out.size)⟩
  · have F : Hid (sameE a b = formE a) := by show sameE a b = _; unfold sameE; rw [if_neg he]
    obtain ⟨e1, e2⟩ := e_ne he
    clear he
    go_enter Tryd.func25, Tryd.ntmps25
    go_wp2_with (first | (go_at_call 23; refine (check_any _ ga oa ca a _ HA.out).mono ?_; rintro e w1 ⟨rfl, hb1⟩; have HB1 : Hid _ := hb1; clear hb1))
    go_ret
    exact ⟨by rw [F.out]; rfl, HB1.out⟩
end Go.Proofs.YtkioahkfjgbgdaaDoor
