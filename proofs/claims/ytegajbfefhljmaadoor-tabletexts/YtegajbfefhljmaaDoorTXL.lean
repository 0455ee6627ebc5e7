
/- Layer 16: the law TableTexts; the document's Read as a premise. -/

import Derived.Test.YtegajbfefhljmaaDoorTKnow

import Derived.Test.YtegajbfefhljmaaDoorTXT

import Derived.Test.YtegajbfefhljmaaDoorTXQ

namespace Go.Proofs.YtegajbfefhljmaaDoor

open Go.RowKit

attribute [local go_sem ↓] Go.wp_at_zero Go.wp_at_succ

theorem nlEq_me3 (a : NL) : nlEq a a = true := by unfold nlEq; simp
set_option maxRecDepth 100000 in
set_option maxHeartbeats 4000000 in
theorem texts_any (ba : Option Addr) (ga oa ca : Nat) (t : NL) (s : List UInt8) (w : World) (hs : s.length ≤ 9223372036854775807) (ha : NodesAt w ba ga oa t) (hia : NodesIn t) (hlaid : LaidB w.heap.size w)
    (hr : ∀ w : World, Calls Tryd.prog 7 #[.string ⟨s.toArray⟩] w fun e w' => ∃ v, e = .returned (.tuple #[v, .int .i64 (readE s)]) ∧ w'.ownsRow w.heap.size 33 6 v (readL s).length (ndCells (readL s)) ∧ Below w.heap.size w w') :
    Calls Tryd.prog 3 #[.slice ba t.length ca, .string ⟨s.toArray⟩] w fun e w' => e = .returned (.bool true) ∧ Below w.heap.size w w' := by
  have HA : Hid (NodesAt _ _ _ _ _) := ha
  have HIA : Hid (NodesIn t) := hia
  have HL : Hid (LaidB _ _) := hlaid
  have HR : Hid (∀ w : World, Calls Tryd.prog 7 #[.string ⟨s.toArray⟩] w fun e w' => ∃ v, e = .returned (.tuple #[v, .int .i64 (readE s)]) ∧ w'.ownsRow w.heap.size 33 6 v (readL s).length (ndCells (readL s)) ∧ Below w.heap.size w w') := hr
  have HK : Hid True := trivial
  clear ha hlaid hia hr
  by_cases he1 : readE s = 0
  · have HE1 : Hid (readE s = 0) := he1
    have HRB : Hid (formE (readL s) = 0 ∧ textA (readL s) = s ∧ NodesIn (readL s)) := ⟨(read_back he1).1, (read_back he1).2.1, (read_back he1).2.2.1⟩
    clear he1
    go_enter Tryd.func3, Tryd.ntmps3
    go_wp2_with (first | (go_at_call 4; refine (known_any _ HL.out).mono ?_; rintro e w1 ⟨rfl, hb1⟩; have B1 : Hid (Below w.heap.size w w1) := hb1; clear hb1) | (go_at_call 5; refine (rText_any _ ga oa ca t _ (HA.out.below B1.out) HIA.out).mono ?_; rintro e w2 ⟨rfl, hb2⟩; have B2 : Hid (Below w.heap.size w w2) := B1.out.trans (hb2.mono B1.out.size); clear hb2) | (go_at_call 6; have hq := HK; refine (text_any _ ga oa ca t _ (HA.out.below B2.out) HIA.out (LaidB.tabs (fun w' h' => HL.out w' (B2.out.trans (h'.mono B2.out.size))))).mono ?_; rintro e w3 ⟨rfl, hb3⟩; have B3 : Hid (Below w.heap.size w w3) := B2.out.trans (hb3.mono B2.out.size); clear hb3 HK; clear hq) | (go_at_call 7; refine (HR.out w3).mono ?_; rintro e w4 ⟨v4, rfl, ho4, hb4⟩; rw [HE1.out]; have B4 : Hid (Below w.heap.size w w4) := B3.out.trans (hb4.mono B3.out.size); obtain ⟨a4, c4, g4, rfl, -, -, hp4⟩ := nodes_of_owns ho4; have P4 : Hid (NodesAt _ _ _ _ _) := hp4; clear hb4 ho4 hp4) | (go_at_call 8; refine (read_any s _ (by omega) (fun w' h' => HL.out w' (B4.out.trans (h'.mono B4.out.size)))).mono ?_; rintro e w5 ⟨v5, rfl, ho5, hb5⟩; rw [HE1.out]; have B5 : Hid (Below w.heap.size w w5) := B4.out.trans (hb5.mono B4.out.size); obtain ⟨a5, c5, g5, rfl, -, -, hp5⟩ := nodes_of_owns ho5; have P5 : Hid (NodesAt _ _ _ _ _) := hp5; have Q4 : Hid (NodesAt _ _ _ _ _) := P4.out.below hb5; clear hb5 ho5 hp5 P4) | (go_at_call 9; refine (rEqual_any _ _ g4 0 c4 g5 0 c5 (readL s) (readL s) _ Q4.out P5.out).mono ?_; rintro e w6 ⟨rfl, hb6⟩; rw [nlEq_me3]; have B6 : Hid (Below w.heap.size w w6) := B5.out.trans (hb6.mono B5.out.size); have Q5 : Hid (NodesAt _ _ _ _ _) := P5.out.below hb6; clear hb6 P5 Q4) | (go_at_call 6; have hq := Q5; refine (text_any _ g5 0 c5 (readL s) _ Q5.out HRB.out.2.2 (LaidB.tabs (fun w' h' => HL.out w' (B6.out.trans (h'.mono B6.out.size))))).mono ?_; rintro e w7 ⟨rfl, hb7⟩; rw [HRB.out.1, HRB.out.2.1]; have B7 : Hid (Below w.heap.size w w7) := B6.out.trans (hb7.mono B6.out.size); clear hb7; clear hq))
    go_ret
    exact ⟨rfl, B7.out⟩
  · have e1 : (readE s == 0) = false := beq_eq_false_iff_ne.2 he1
    clear he1
    go_enter Tryd.func3, Tryd.ntmps3
    go_wp2_with (first | (go_at_call 4; refine (known_any _ HL.out).mono ?_; rintro e w1 ⟨rfl, hb1⟩; have B1 : Hid (Below w.heap.size w w1) := hb1; clear hb1) | (go_at_call 5; refine (rText_any _ ga oa ca t _ (HA.out.below B1.out) HIA.out).mono ?_; rintro e w2 ⟨rfl, hb2⟩; have B2 : Hid (Below w.heap.size w w2) := B1.out.trans (hb2.mono B1.out.size); clear hb2) | (go_at_call 6; have hq := HK; refine (text_any _ ga oa ca t _ (HA.out.below B2.out) HIA.out (LaidB.tabs (fun w' h' => HL.out w' (B2.out.trans (h'.mono B2.out.size))))).mono ?_; rintro e w3 ⟨rfl, hb3⟩; have B3 : Hid (Below w.heap.size w w3) := B2.out.trans (hb3.mono B2.out.size); clear hb3 HK; clear hq) | (go_at_call 7; refine (HR.out w3).mono ?_; rintro e w4 ⟨v4, rfl, ho4, hb4⟩; have B4 : Hid (Below w.heap.size w w4) := B3.out.trans (hb4.mono B3.out.size); obtain ⟨a4, c4, g4, rfl, -, -, hp4⟩ := nodes_of_owns ho4; have P4 : Hid (NodesAt _ _ _ _ _) := hp4; clear hb4 ho4 hp4) | (go_at_call 8; refine (read_any s _ (by omega) (fun w' h' => HL.out w' (B4.out.trans (h'.mono B4.out.size)))).mono ?_; rintro e w5 ⟨v5, rfl, ho5, hb5⟩; have B5 : Hid (Below w.heap.size w w5) := B4.out.trans (hb5.mono B4.out.size); obtain ⟨a5, c5, g5, rfl, -, -, hp5⟩ := nodes_of_owns ho5; have P5 : Hid (NodesAt _ _ _ _ _) := hp5; have Q4 : Hid (NodesAt _ _ _ _ _) := P4.out.below hb5; clear hb5 ho5 hp5 P4) | (go_at_call 9; refine (rEqual_any _ _ g4 0 c4 g5 0 c5 (readL s) (readL s) _ Q4.out P5.out).mono ?_; rintro e w6 ⟨rfl, hb6⟩; rw [nlEq_me3]; have B6 : Hid (Below w.heap.size w w6) := B5.out.trans (hb6.mono B5.out.size); have Q5 : Hid (NodesAt _ _ _ _ _) := P5.out.below hb6; clear hb6 P5 Q4))
    go_ret
    exact ⟨rfl, B6.out⟩
end Go.Proofs.YtegajbfefhljmaaDoor
