/- Layer 16: the law TableForms. -/
import Derived.Test.YtkgkoinoneimbaaDoorTKnow
namespace Go.Proofs.YtkgkoinoneimbaaDoor
open Go.RowKit
attribute [local go_sem ↓] Go.wp_at_zero Go.wp_at_succ

theorem nlEq_self (a : NL) : nlEq a a = true := by unfold nlEq; simp
set_option maxRecDepth 100000 in
set_option maxHeartbeats 4000000 in
theorem forms_any (ba bb : Option Addr) (ga oa ca gb ob cb : Nat) (a b : NL) (w : World) (ha : NodesAt w ba ga oa a) (hb : NodesAt w bb gb ob b) (hlaid : LaidB w.heap.size w) :
    Calls Tryd.prog 3 #[.slice ba a.length ca, .slice bb b.length cb] w fun e w' => e = .returned (.bool true) ∧ Below w.heap.size w w' := by
  have HA : Hid (NodesAt _ _ _ _ _) := ha
  have HB : Hid (NodesAt _ _ _ _ _) := hb
  have HL : Hid (LaidB _ _) := hlaid
  clear ha hb hlaid
  go_enter Tryd.func3, Tryd.ntmps3
  go_wp2_with (first | (go_at_call 12; refine (known_any _ HL.out).mono ?_; rintro e w1 ⟨rfl, hb1⟩; have B1 : Hid (Below _ _ _) := hb1; clear hb1 HL) | (go_at_call 13; refine (check_any _ ga oa ca a _ (HA.out.below B1.out)).mono ?_; rintro e w2 ⟨rfl, hb2⟩; have B2 : Hid (Below _ _ _) := B1.out.trans (hb2.mono B1.out.size); clear hb2) | (go_at_call 14; refine (rcheck_any _ ga oa ca a _ (HA.out.below B2.out)).mono ?_; rintro e w3 ⟨rfl, hb3⟩; have B3 : Hid (Below _ _ _) := B2.out.trans (hb3.mono B2.out.size); clear hb3) | (go_at_call 15; refine (rnorm_any _ ga oa ca a _ (HA.out.below B3.out)).mono ?_; rintro e w4 ⟨v4, rfl, ho4, hb4⟩; obtain ⟨a4, c4, g4, rfl, -, -, hn4⟩ := nodes_of_owns ho4; have N4 : Hid (NodesAt _ _ _ _ _) := hn4; have B4 : Hid (Below _ _ _) := B3.out.trans (hb4.mono B3.out.size); clear ho4 hn4 hb4) | (go_at_call 16; refine (norm_any _ ga oa ca a _ (HA.out.below B4.out)).mono ?_; rintro e w5 ⟨v5, rfl, ho5, hb5⟩; obtain ⟨a5, c5, g5, rfl, -, -, hn5⟩ := nodes_of_owns ho5; have N5 : Hid (NodesAt _ _ _ _ _) := hn5; have M4 : Hid (NodesAt _ _ _ _ _) := N4.out.below hb5; have B5 : Hid (Below _ _ _) := B4.out.trans (hb5.mono B4.out.size); clear ho5 hn5 hb5) | (go_at_call 17; refine (rEqual_any _ _ g4 0 c4 g5 0 c5 (normL a) (normL a) _ M4.out N5.out).mono ?_; rintro e w6 ⟨rfl, hb6⟩; rw [nlEq_self]; have B6 : Hid (Below _ _ _) := B5.out.trans (hb6.mono B5.out.size); clear hb6) | (go_at_call 18; refine (rsame_any _ _ ga oa ca gb ob cb a b _ (HA.out.below B6.out) (HB.out.below B6.out)).mono ?_; rintro e w7 ⟨rfl, hb7⟩; have B7 : Hid (Below _ _ _) := B6.out.trans (hb7.mono B6.out.size); clear hb7) | (go_at_call 19; refine (same_any _ _ ga oa ca gb ob cb a b _ (HA.out.below B7.out) (HB.out.below B7.out)).mono ?_; rintro e w8 ⟨rfl, hb8⟩; have B8 : Hid (Below _ _ _) := B7.out.trans (hb8.mono B7.out.size); clear hb8))
  go_ret
  exact ⟨rfl, B8.out⟩
end Go.Proofs.YtkgkoinoneimbaaDoor
