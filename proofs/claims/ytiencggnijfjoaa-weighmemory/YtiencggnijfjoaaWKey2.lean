
/- Layer 17: keys of the reference. -/

import Derived.Test.YtiencggnijfjoaaWRoot

import Derived.Test.YtiencggnijfjoaaWHvP

namespace Go.Proofs.Ytiencggnijfjoaa

open Go.RowKit

attribute [local go_sem ↓] Go.wp_at_zero Go.wp_at_succ

set_option maxRecDepth 100000 in
set_option maxHeartbeats 1000000 in
theorem vkeys_any (base : Option Addr) (b o c : Nat) (t : NL) (w : World) (h : NodesAt w base b o t) :
    Calls Try.prog 46 #[.slice base t.length c] w fun e w' => ∃ v, e = .returned (.tuple #[v, .int .i64 (keyE t)]) ∧ w'.ownsRow w.heap.size 3 1 v (kpL t).length (natC (kpL t)) ∧ Below w.heap.size w w' := by
  have HA : Hid (NodesAt _ _ _ _ _) := h
  clear h
  by_cases he : formE t = 0
  · have HE : Hid (formE t = 0) := he
    obtain ⟨hbig, hf⟩ := formE_ok he
    rcases rootR_cases he with F | F | ⟨x, F, hx⟩
    · have VX : Hid (vX t = -1) := by show vX t = _; unfold vX; rw [F]; rfl
      have CB : Hid (crB t = false) := by show crB t = _; unfold crB; rw [F]; rfl
      have FK : Hid (keyE t = 3) := by show keyE t = _; unfold keyE; rw [F]; rfl
      have FL : Hid (kpL t = []) := by show kpL t = _; unfold kpL; rw [F]; rfl
      clear F he hf
      go_enter Try.func46, Try.ntmps46
      go_wp2_with (first | (go_at_call 70; refine (vcheck_any _ b o c t _ HA.out).mono ?_; rintro e w1 ⟨rfl, hb1⟩; rw [HE.out]; have B1 : Hid (Below w.heap.size w w1) := hb1; clear hb1) | (go_at_call 39; refine (vRoot_any _ b o c t _ (HA.out.below B1.out) HE.out).mono ?_; rintro e w2 ⟨rfl, hb2⟩; rw [VX.out, CB.out]; have B2 : Hid (Below w.heap.size w w2) := B1.out.trans (hb2.mono B1.out.size); clear hb2))
      go_ret2
      exact ⟨_, by rw [FK.out]; rfl, by rw [FL.out]; exact World.ownsRow_nil _ _ _ _, B2.out⟩
    · have VX : Hid (vX t = -1) := by show vX t = _; unfold vX; rw [F]; rfl
      have CB : Hid (crB t = true) := by show crB t = _; unfold crB; rw [F]; rfl
      have FK : Hid (keyE t = 0) := by show keyE t = _; unfold keyE; rw [F]; rfl
      have FL : Hid (kpL t = []) := by show kpL t = _; unfold kpL; rw [F]; rfl
      clear F he hf
      go_enter Try.func46, Try.ntmps46
      go_wp2_with (first | (go_at_call 70; refine (vcheck_any _ b o c t _ HA.out).mono ?_; rintro e w1 ⟨rfl, hb1⟩; rw [HE.out]; have B1 : Hid (Below w.heap.size w w1) := hb1; clear hb1) | (go_at_call 39; refine (vRoot_any _ b o c t _ (HA.out.below B1.out) HE.out).mono ?_; rintro e w2 ⟨rfl, hb2⟩; rw [VX.out, CB.out]; have B2 : Hid (Below w.heap.size w w2) := B1.out.trans (hb2.mono B1.out.size); clear hb2))
      go_ret2
      exact ⟨_, by rw [FK.out]; rfl, by rw [FL.out]; exact World.ownsRow_nil _ _ _ _, B2.out⟩
    · have VX : Hid (vX t = (x : Int)) := by show vX t = _; unfold vX; rw [F]; rfl
      have CB : Hid (crB t = true) := by show crB t = _; unfold crB; rw [F]; rfl
      have FK : Hid (keyE t = 0) := by show keyE t = _; unfold keyE; rw [F]; rfl
      obtain ⟨x', l, R, hr, -, -, hT, hL, -⟩ := kp_order (t := t) (by rw [F])
      have ex : x' = x := by rw [F] at hr; have := congrArg Prod.fst hr; simp only at this; omega
      subst ex
      have hkl : (kpL t).length ≤ 1000000 := by
        obtain ⟨-, -, hlen⟩ := theL_form hf
        rw [hL] at hlen
        simp at hlen
        omega
      have HT : Hid (Tree t x' (kpL t)) := hT
      have x0 : decide ((x' : Int) < 0) = false := decide_eq_false (by omega)
      clear F he hf hr hT hL
      go_enter Try.func46, Try.ntmps46
      go_wp2_with (first | (go_at_call 70; refine (vcheck_any _ b o c t _ HA.out).mono ?_; rintro e w1 ⟨rfl, hb1⟩; rw [HE.out]; have B1 : Hid (Below w.heap.size w w1) := hb1; clear hb1) | (go_at_call 39; refine (vRoot_any _ b o c t _ (HA.out.below B1.out) HE.out).mono ?_; rintro e w2 ⟨rfl, hb2⟩; rw [VX.out, CB.out]; have B2 : Hid (Below w.heap.size w w2) := B1.out.trans (hb2.mono B1.out.size); clear hb2))
      refine (vOrder_any _ b o c t x' (kpL t) _ (HA.out.below B2.out) HT.out hkl).mono ?_
      rintro e w3 ⟨v3, rfl, ho3, hb3⟩
      have O3 : Hid (World.ownsRow _ _ _ _ _ _ _) := ho3
      have B3 : Hid (Below w.heap.size w w3) := B2.out.trans (hb3.mono B2.out.size)
      clear ho3 hb3
      go_wp2_with fail
      go_ret2
      exact ⟨_, by rw [FK.out]; rfl, owns_down O3.out B2.out.size, B3.out⟩
  · obtain ⟨e1, e2⟩ := e_ne he
    have F : rootR t = (0, formE t) := by unfold rootR; rw [if_pos he]
    have f4 : formE t ≠ 4 := by
      unfold formE
      split
      · omega
      · split <;> omega
    have FK : Hid (keyE t = formE t) := by show keyE t = _; unfold keyE; rw [F]; simp only; rw [if_neg f4]
    have FL : Hid (kpL t = []) := by show kpL t = _; unfold kpL; rw [F]; simp only; rw [if_neg he]
    clear F he f4
    go_enter Try.func46, Try.ntmps46
    go_wp2_with (first | (go_at_call 70; refine (vcheck_any _ b o c t _ HA.out).mono ?_; rintro e w1 ⟨rfl, hb1⟩; have B1 : Hid (Below w.heap.size w w1) := hb1; clear hb1))
    go_ret2
    exact ⟨_, by rw [FK.out]; rfl, by rw [FL.out]; exact World.ownsRow_nil _ _ _ _, B1.out⟩
end Go.Proofs.Ytiencggnijfjoaa
