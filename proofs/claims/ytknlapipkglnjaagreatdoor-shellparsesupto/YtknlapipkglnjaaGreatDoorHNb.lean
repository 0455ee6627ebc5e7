
/- Layer 28: the program's numberOf. -/

import Derived.Test.YtknlapipkglnjaaGreatDoorHWd2

import Derived.Test.YtknlapipkglnjaaGreatDoorHNm

namespace Go.Proofs.YtknlapipkglnjaaGreatDoor

open Go.RowKit

attribute [local go_sem ↓] Go.wp_at_zero Go.wp_at_succ

structure HErr (w : World) : Prop where
  syn : ∃ tp p, w.var? Tryz.prog "strconv.ErrSyntax" = some #[.iface tp p]
  rng : ∃ tp p, w.var? Tryz.prog "strconv.ErrRange" = some #[.iface tp p]
/-- The variables that the lines' reading leans on, too. -/
def HEB (B : Nat) (w : World) : Prop := HLB B w ∧ ∀ w', Below B w w' → HErr w'
theorem HEB.on {w w1 : World} (h : HEB w.heap.size w) (hb : Below w.heap.size w w1) : HEB w1.heap.size w1 := ⟨h.1.on hb, fun w' h' => h.2 w' (hb.trans (h'.mono hb.size))⟩
def NbOut (l : List UInt8) (e : Ending) : Prop := match numOf l with
  | some v => e = .returned (.tuple #[.int .i64 v, .bool true])
  | none => ∃ n, e = .returned (.tuple #[.int .i64 n, .bool false])
theorem nb_no {l : List UInt8} (n : Int) (h : numOf l = none) : NbOut l (.returned (.tuple #[.int .i64 n, .bool false])) := by
  unfold NbOut
  rw [h]
  exact ⟨_, rfl⟩
theorem nb_yes {l : List UInt8} {v : Int} (h : numOf l = some v) : NbOut l (.returned (.tuple #[.int .i64 v, .bool true])) := by
  unfold NbOut
  rw [h]
theorem hatoi_below {w w' : World} (h : w' = w ∨ ∃ t, w' = Lib.bytesWorld w 5 t) : Below w.heap.size w w' := by
  rcases h with rfl | ⟨t, rfl⟩
  · exact Below.refl _ _
  · exact Go.Joins.below_bytesWorld _ _ _ _ (Nat.le_refl _)
set_option maxRecDepth 100000 in
set_option maxHeartbeats 4000000 in
theorem numberOf_any (l : List UInt8) (hl : l.length ≤ 4294967296) (w : World) (hE : HEB w.heap.size w) :
    Calls Tryz.prog 88 #[.string ⟨l.toArray⟩] w fun e w' => NbOut l e ∧ Below w.heap.size w w' := by
  have hsz : (⟨l.toArray⟩ : ByteArray).size = l.length := by simp [ByteArray.size]
  have HE : Hid (HEB _ _) := hE
  obtain ⟨⟨tp, pp, hs⟩, ⟨tq, pq, hr⟩⟩ := hE.2 w (Below.refl _ _)
  have HS : Hid _ := hs
  have HRr : Hid _ := hr
  clear hE hs hr
  cases hat : Lib.atoiAll l with
  | ok v =>
    have HI : Hid (In64 v) := atoi_in hat
    have HAT : Hid (Lib.atoiAll (⟨l.toArray⟩ : ByteArray).data.toList = .ok v) := hat
    by_cases he : Lib.itoa v = l
    · have HN : Hid (numOf l = some v) := (numOf_iff l v).2 ⟨HI.out, he⟩
      have HQ : Hid (Lib.itoa v = l) := he
      clear hat he
      go_enter Tryz.func88, Tryz.ntmps88
      go_wp2_with (first | (go_at_call 108; refine (strconv_Atoi_ok _ (by omega) v HAT.out _).mono ?_; rintro e w2 ⟨rfl, hw2⟩; have B2 : Hid (Below _ _ w2) := hatoi_below hw2; clear hw2) | (go_at_call 19; refine (itoaB v HI.out _ (HE.out.on B2.out).1).mono ?_; rintro e w3 ⟨rfl, hw3⟩; have B3 : Hid (Below _ _ w3) := hw3; rw [HQ.out]; clear hw3))
      go_ret2
      exact ⟨nb_yes HN.out, B2.out.trans (B3.out.mono B2.out.size)⟩
    · have HN : Hid (numOf l = none) := by
        show numOf l = none
        cases h : numOf l with
        | none => rfl
        | some x =>
          obtain ⟨h1, h2⟩ := (numOf_iff l x).1 h
          have := atoi_itoa h1
          rw [h2, hat] at this
          injection this with this
          rw [this] at he
          exact absurd h2 he
      have hq : (Lib.itoa v == l) = false := beq_eq_false_iff_ne.2 he
      clear hat he
      go_enter Tryz.func88, Tryz.ntmps88
      go_wp2_with (first | (go_at_call 108; refine (strconv_Atoi_ok _ (by omega) v HAT.out _).mono ?_; rintro e w2 ⟨rfl, hw2⟩; have B2 : Hid (Below _ _ w2) := hatoi_below hw2; clear hw2) | (go_at_call 19; refine (itoaB v HI.out _ (HE.out.on B2.out).1).mono ?_; rintro e w3 ⟨rfl, hw3⟩; have B3 : Hid (Below _ _ w3) := hw3; clear hw3))
      go_ret2
      exact ⟨nb_no v HN.out, B2.out.trans (B3.out.mono B2.out.size)⟩
  | «syntax» =>
    have HAT : Hid (Lib.atoiAll (⟨l.toArray⟩ : ByteArray).data.toList = .«syntax») := hat
    have HN : Hid (numOf l = none) := by show numOf l = none; unfold numOf; rw [hat]
    clear hat
    go_enter Tryz.func88, Tryz.ntmps88
    go_wp2_with (first | (go_at_call 108; refine (strconv_Atoi_syntax_var _ (by omega) HAT.out tp pp _ HS.out).mono ?_; rintro e w2 ⟨nn, rfl, -, -, hb2⟩; have B2 : Hid _ := hb2; clear hb2))
    go_ret2
    exact ⟨nb_no _ HN.out, B2.out⟩
  | range =>
    have HAT : Hid (Lib.atoiAll (⟨l.toArray⟩ : ByteArray).data.toList = .range) := hat
    have HN : Hid (numOf l = none) := by show numOf l = none; unfold numOf; rw [hat]
    clear hat
    go_enter Tryz.func88, Tryz.ntmps88
    go_wp2_with (first | (go_at_call 108; refine (strconv_Atoi_range_var _ (by omega) HAT.out tq pq _ HRr.out).mono ?_; rintro e w2 ⟨nn, rfl, -, -, hb2⟩; have B2 : Hid _ := hb2; clear hb2))
    go_ret2
    exact ⟨nb_no _ HN.out, B2.out⟩
end Go.Proofs.YtknlapipkglnjaaGreatDoor
