/- Layer 16: the law TableLooks. -/
import Derived.Test.YtjekmkfpakdkeaaDoorTROrd
import Derived.Test.YtjekmkfpakdkeaaDoorTKnow
namespace Go.Proofs.YtjekmkfpakdkeaaDoor
open Go.RowKit
attribute [local go_sem ↓] Go.wp_at_zero Go.wp_at_succ

theorem owns_len {w : World} {B sz : Nat} {e : TypeId} {v : Value} {n : Nat} {xs : List Value} (h : w.ownsRow B e sz v n xs) : n ≤ maxLen := by
  obtain ⟨_, h⟩ := h
  rcases h with ⟨_, h0⟩ | ⟨g, cap, cur, rfl, hg, hh, h1, h2, h3, h4⟩ <;> omega
theorem ints_pls (ba bb : Option Addr) (ga ca gb cb : Nat) (L : List Nat) (w : World) (ha : PlsAt w ba ga L) (hb : PlsAt w bb gb L) :
    Calls Tryd.prog 22 #[.slice ba L.length ca, .slice bb L.length cb] w fun e w' => e = .returned (.bool true) ∧ Below w.heap.size w w' := by
  have h := ints_any ba bb ga ca gb cb _ _ w ha.ints hb.ints
  simpa [isEq] using h
theorem ints_is (ba bb : Option Addr) (ga ca gb cb : Nat) (L : List Int) (w : World) (ha : IsAt w ba ga L) (hb : IsAt w bb gb L) :
    Calls Tryd.prog 22 #[.slice ba L.length ca, .slice bb L.length cb] w fun e w' => e = .returned (.bool true) ∧ Below w.heap.size w w' := by
  have h := ints_any ba bb ga ca gb cb _ _ w ha hb
  simpa [isEq] using h
theorem pairs_same (ba bb : Option Addr) (ga oa ca gb ob cb : Nat) (L : PL) (w : World) (ha : PairsAt w ba ga oa L) (hb : PairsAt w bb gb ob L) :
    Calls Tryd.prog 25 #[.slice ba L.length ca, .slice bb L.length cb] w fun e w' => e = .returned (.bool true) ∧ Below w.heap.size w w' := by
  have h := pairs_any ba bb ga oa ca gb ob cb _ _ w ha hb
  simpa [prEq] using h
set_option maxRecDepth 100000 in
set_option maxHeartbeats 4000000 in
theorem looks_any (ba : Option Addr) (ga oa ca : Nat) (t : NL) (key : Int) (w : World) (ha : NodesAt w ba ga oa t) (hin : NodesIn t) (hlaid : LaidB w.heap.size w) :
    Calls Tryd.prog 4 #[.slice ba t.length ca, .int .i64 key] w fun e w' => e = .returned (.bool true) ∧ Below w.heap.size w w' := by
  have HA : Hid (NodesAt _ _ _ _ _) := ha
  have HIN : Hid (NodesIn t) := hin
  have HL : Hid (LaidB _ _) := hlaid
  clear ha hin hlaid
  go_enter Tryd.func4, Tryd.ntmps4
  go_wp2_with (first | (go_at_call 12; refine (known_any _ HL.out).mono ?_; rintro e w1 ⟨rfl, hb1⟩; have B1 : Hid (Below _ _ _) := hb1; clear hb1 HL) | (go_at_call 20; refine (rLeaves_any _ ga oa ca t _ (HA.out.below B1.out)).mono ?_; rintro e w2 ⟨v2, rfl, ho2, hb2⟩; obtain ⟨a2, c2, g2, rfl, -, -, hp2⟩ := pls_of_owns ho2; have P2 : Hid (PlsAt _ _ _ _) := hp2; have B2 : Hid (Below _ _ _) := B1.out.trans (hb2.mono B1.out.size); clear hb2 ho2 hp2) | (go_at_call 21; refine (Leaves_any _ ga oa ca t _ (HA.out.below B2.out)).mono ?_; rintro e w3 ⟨a3, n3, c3, g3, rfl, rfl, hp3, hb3⟩; have P3 : Hid (PlsAt _ _ _ _) := hp3; have M2 : Hid (PlsAt _ _ _ _) := P2.out.below hb3; have B3 : Hid (Below _ _ _) := B2.out.trans (hb3.mono B2.out.size); clear hb3 hp3 P2) | (go_at_call 22; refine (ints_pls _ _ g2 c2 g3 c3 (leafL t) _ M2.out P3.out).mono ?_; rintro e w4 ⟨rfl, hb4⟩; have B4 : Hid (Below _ _ _) := B3.out.trans (hb4.mono B3.out.size); clear hb4 M2 P3) | (go_at_call 23; refine (rPairs_any _ ga oa ca t _ (HA.out.below B4.out)).mono ?_; rintro e w5 ⟨v5, rfl, ho5, hb5⟩; obtain ⟨a5, c5, g5, rfl, -, -, hp5⟩ := pairs_of_owns ho5 (owns_len ho5); have P5 : Hid (PairsAt _ _ _ _ _) := hp5; have B5 : Hid (Below _ _ _) := B4.out.trans (hb5.mono B4.out.size); clear hb5 ho5 hp5) | (go_at_call 24; refine (Pairs_any _ ga oa ca t _ (HA.out.below B5.out)).mono ?_; rintro e w6 ⟨v6, rfl, ho6, hb6⟩; obtain ⟨a6, c6, g6, rfl, -, -, hp6⟩ := pairs_of_owns ho6 (owns_len ho6); have P6 : Hid (PairsAt _ _ _ _ _) := hp6; have M5 : Hid (PairsAt _ _ _ _ _) := P5.out.below hb6; have B6 : Hid (Below _ _ _) := B5.out.trans (hb6.mono B5.out.size); clear hb6 ho6 hp6 P5) | (go_at_call 25; refine (pairs_same _ _ g5 0 c5 g6 0 c6 (pairL t) _ M5.out P6.out).mono ?_; rintro e w7 ⟨rfl, hb7⟩; have B7 : Hid (Below _ _ _) := B6.out.trans (hb7.mono B6.out.size); clear hb7 M5 P6) | (go_at_call 26; refine (rParents_any _ ga oa ca t _ (HA.out.below B7.out)).mono ?_; rintro e w8 ⟨a8, n8, c8, g8, rfl, rfl, hp8, hb8⟩; have P8 : Hid (IsAt _ _ _ _) := hp8; have B8 : Hid (Below _ _ _) := B7.out.trans (hb8.mono B7.out.size); clear hb8 hp8) | (go_at_call 27; refine (Parents_any _ ga oa ca t _ (HA.out.below B8.out)).mono ?_; rintro e w9 ⟨a9, n9, c9, g9, rfl, rfl, hp9, hb9⟩; have P9 : Hid (IsAt _ _ _ _) := hp9; have M8 : Hid (IsAt _ _ _ _) := P8.out.below hb9; have B9 : Hid (Below _ _ _) := B8.out.trans (hb9.mono B8.out.size); clear hb9 hp9 P8) | (go_at_call 22; refine (ints_is _ _ g8 c8 g9 c9 (parL t) _ M8.out P9.out).mono ?_; rintro e w10 ⟨rfl, hb10⟩; have B10 : Hid (Below _ _ _) := B9.out.trans (hb10.mono B9.out.size); clear hb10 M8 P9) | (go_at_call 28; refine (rHeight_any _ ga oa ca t _ (HA.out.below B10.out)).mono ?_; rintro e w11 ⟨rfl, hb11⟩; have B11 : Hid (Below _ _ _) := B10.out.trans (hb11.mono B10.out.size); clear hb11) | (go_at_call 29; refine (Height_any _ ga oa ca t _ (HA.out.below B11.out)).mono ?_; rintro e w12 ⟨rfl, hb12⟩; have B12 : Hid (Below _ _ _) := B11.out.trans (hb12.mono B11.out.size); clear hb12) | (go_at_call 30; refine (rSearch_any _ ga oa ca t key _ (HA.out.below B12.out)).mono ?_; rintro e w13 ⟨v13, rfl, ho13, hb13⟩; obtain ⟨a13, c13, g13, rfl, -, -, hp13⟩ := pls_of_owns ho13; have P13 : Hid (PlsAt _ _ _ _) := hp13; have B13 : Hid (Below _ _ _) := B12.out.trans (hb13.mono B12.out.size); clear hb13 ho13 hp13) | (go_at_call 31; refine (Search_any _ ga oa ca t key _ (HA.out.below B13.out)).mono ?_; rintro e w14 ⟨v14, rfl, ho14, hb14⟩; obtain ⟨a14, c14, g14, rfl, -, -, hp14⟩ := pls_of_owns ho14; have P14 : Hid (PlsAt _ _ _ _) := hp14; have M13 : Hid (PlsAt _ _ _ _) := P13.out.below hb14; have B14 : Hid (Below _ _ _) := B13.out.trans (hb14.mono B13.out.size); clear hb14 ho14 hp14 P13) | (go_at_call 22; refine (ints_pls _ _ g13 c13 g14 c14 (wayL t key) _ M13.out P14.out).mono ?_; rintro e w15 ⟨rfl, hb15⟩; have B15 : Hid (Below _ _ _) := B14.out.trans (hb15.mono B14.out.size); clear hb15 M13 P14) | (go_at_call 32; refine (rOrdered_any _ ga oa ca t _ (HA.out.below B15.out)).mono ?_; rintro e w16 ⟨rfl, hb16⟩; have B16 : Hid (Below _ _ _) := B15.out.trans (hb16.mono B15.out.size); clear hb16) | (go_at_call 33; refine (Ordered_any _ ga oa ca t _ (HA.out.below B16.out) HIN.out).mono ?_; rintro e w17 ⟨rfl, hb17⟩; have B17 : Hid (Below _ _ _) := B16.out.trans (hb17.mono B16.out.size); clear hb17))
  go_ret
  exact ⟨rfl, B17.out⟩
end Go.Proofs.YtjekmkfpakdkeaaDoor
