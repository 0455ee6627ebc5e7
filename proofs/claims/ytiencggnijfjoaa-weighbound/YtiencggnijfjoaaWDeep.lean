
/- Layer 17: Deep. -/

import Derived.Test.YtiencggnijfjoaaWSnd

import Derived.Test.YtiencggnijfjoaaTHgt

namespace Go.Proofs.Ytiencggnijfjoaa

open Go.RowKit

attribute [local go_sem ↓] Go.wp_at_zero Go.wp_at_succ

noncomputable def deepA (t : NL) : Int := if keyE t = 0 then hgtA t else 0
set_option maxRecDepth 100000 in
set_option maxHeartbeats 1000000 in
theorem Deep_any (base : Option Addr) (b o c : Nat) (t : NL) (w : World) (h : NodesAt w base b o t) :
    Calls Try.prog 19 #[.slice base t.length c] w fun e w' => e = .returned (.tuple #[.int .i64 (deepA t), .int .i64 (keyE t)]) ∧ Below w.heap.size w w' := by
  have HA : Hid (NodesAt _ _ _ _ _) := h
  clear h
  by_cases he : keyE t = 0
  · have HE : Hid (keyE t = 0) := he
    have HFE : Hid (formE t = 0) := keyE_form he
    have F : Hid (deepA t = hgtA t) := by show deepA t = _; unfold deepA; rw [if_pos he]
    clear he
    go_enter Try.func19, Try.ntmps19
    go_wp2_with (first | (go_at_call 52; refine (wcheck_any _ b o c t _ HA.out).mono ?_; rintro e w1 ⟨rfl, hb1⟩; rw [HE.out]; have B1 : Hid (Below w.heap.size w w1) := hb1; clear hb1) | (go_at_call 53; refine (Height_any _ b o c t _ (HA.out.below B1.out)).mono ?_; rintro e w2 ⟨rfl, hb2⟩; rw [HFE.out]; have B2 : Hid (Below w.heap.size w w2) := B1.out.trans (hb2.mono B1.out.size); clear hb2))
    go_ret2
    exact ⟨by rw [F.out, HE.out]; rfl, B2.out⟩
  · have d : (keyE t != 0) = true := by simp [he]
    have F : Hid (deepA t = 0) := by show deepA t = _; unfold deepA; rw [if_neg he]
    clear he
    go_enter Try.func19, Try.ntmps19
    go_wp2_with (first | (go_at_call 52; refine (wcheck_any _ b o c t _ HA.out).mono ?_; rintro e w1 ⟨rfl, hb1⟩; have B1 : Hid (Below w.heap.size w w1) := hb1; clear hb1))
    go_ret2
    exact ⟨by rw [F.out]; rfl, B1.out⟩
end Go.Proofs.Ytiencggnijfjoaa
