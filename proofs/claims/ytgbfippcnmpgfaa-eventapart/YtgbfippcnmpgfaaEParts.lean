
/- Layer 5: Cut and Done, the program's and the reference's. -/

import Derived.Test.YtgbfippcnmpgfaaEAt

namespace Go.Proofs.Ytgbfippcnmpgfaa

open Go.RowKit

attribute [local go_sem ↓] Go.wp_at_zero Go.wp_at_succ

theorem pickN_cut (sp : List Sp) (n : Nat) : ∀ j, j ≤ sp.length → pickN sp (Kcut (n : Int)) j = sp.take (min n j)
  | 0, _ => by simp [pickN]
  | j + 1, hj => by
    have ih := pickN_cut sp n j (by omega)
    simp only [pickN, Kcut, decide_eq_true_eq]
    split
    · rename_i h
      rw [ih, show min n j = j by omega, show min n (j + 1) = j + 1 by omega, take_spAt (by omega)]
    · rename_i h
      rw [ih]
      congr 1
      omega
theorem pickN_done (hs : List EvD) : ∀ j, pickN (spansL hs) (Kdone hs) j = rtN (spansL hs) j
  | 0 => rfl
  | j + 1 => by
    have ih := pickN_done hs j
    simp only [pickN, rtN, Kdone, decide_eq_true_eq]
    rw [ih]
    by_cases h : (spAt (spansL hs) j).2 = -1
    · rw [if_pos h, if_neg (fun q => q h)]
    · rw [if_neg h, if_pos h]
theorem parts_eq {hs : List EvD} (he : hErr hs = 0) (K : Nat → Bool) : (srt (placesL (pickN (spansL hs) K (spansL hs).length))).map (fun i => evAt hs i.toNat) = keptN hs K hs.length := by
  unfold srt
  rw [places_sorted he K, keptN_map]
theorem parts_in {hs : List EvD} (he : hErr hs = 0) (K : Nat → Bool) : ∀ x ∈ placesL (pickN (spansL hs) K (spansL hs).length), 0 ≤ x ∧ x < hs.length := by
  intro x hx
  obtain ⟨i, e, hi, _⟩ := ((pickN_places he K _ (Nat.le_refl _)).2 x).1 hx
  omega
theorem SpsAt.take {w : World} {base : Option Addr} {g : Nat} {sp : List Sp} (h : SpsAt w base g sp) (m : Nat) : SpsAt w base g (sp.take m) := by
  have hl : (sp.take m).length ≤ sp.length := by simp; omega
  refine ⟨fun q => h.base (by omega), fun q => h.lt (by omega), fun i hi => ?_⟩
  have e : spAt (sp.take m) i = spAt sp i := by
    unfold spAt
    rw [List.getD_eq_getElem?_getD, List.getD_eq_getElem?_getD, List.getElem?_take, if_pos (by simp at hi; omega)]
  rw [e]
  exact h.cells i (by omega)

def cutE (hs : List EvD) (n : Int) : Int := if hErr hs ≠ 0 then hErr hs else if n < 0 then 1 else 0
def cutL (hs : List EvD) (n : Int) : List EvD := if hErr hs ≠ 0 then [] else if n < 0 then [] else keptN hs (Kcut n) hs.length
def doneL (hs : List EvD) : List EvD := if hErr hs ≠ 0 then [] else keptN hs (Kdone hs) hs.length
theorem hErr_nil : hErr [] = 0 := rfl
theorem cutL_ok (hs : List EvD) (n : Int) : hErr (cutL hs n) = 0 := by
  unfold cutL
  split
  · rfl
  · rename_i h
    split
    · rfl
    · exact kept_history (by simpa using h) _
theorem doneL_ok (hs : List EvD) : hErr (doneL hs) = 0 := by
  unfold doneL
  split
  · rfl
  · rename_i h
    exact kept_history (by simpa using h) _
def ofL' (hs : List EvD) (t : Int) : List EvD := if hErr hs ≠ 0 then [] else thN hs t hs.length
theorem ofL_ok (hs : List EvD) (t : Int) : hErr (ofL' hs t) = 0 := by
  unfold ofL'
  split
  · rfl
  · rename_i h
    rw [thN_kept (by simpa using h) t _ (Nat.le_refl _)]
    exact kept_history (by simpa using h) _

section

variable (base : Option Addr) (b o c : Nat) (hs : List EvD) (pb : Nat → Option Addr) (pc pg po : Nat → Nat) (w : World) (h : EvsAt w base b o hs pb pc pg po)

include h

set_option maxRecDepth 100000 in
set_option maxHeartbeats 1000000 in
theorem Cut_any (n : Int) : Calls Try.prog 7 #[.slice base hs.length c, .int .i64 n] w fun e w' => ∃ v, e = .returned (.tuple #[v, .int .i64 (cutE hs n)]) ∧ Below w.heap.size w w' ∧ EvsNew w' w.heap.size w.heap.size v (cutL hs n) := by
  have HA : Hid _ := h
  clear h
  by_cases he : hErr hs = 0
  · have hn : (hErr hs != 0) = false := by simp [he]
    have hsn : (spansL hs).length ≤ 100000 := by obtain ⟨_, s, hst, hsl⟩ := hErr_zero he; rw [hsl]; have := (stN_ok hst).len; omega
    have HE : Hid _ := he
    clear he
    by_cases h0 : n < 0
    · have F : Hid (cutE hs n = 1 ∧ cutL hs n = []) := by
        have he := HE.out
        show cutE hs n = 1 ∧ cutL hs n = []
        simp [cutE, cutL, he, h0]
      go_enter Try.func7, Try.ntmps7
      go_wp2_with fail
      refine (spansOf_any base b o c hs pb pc pg po _ HA.out).mono ?_
      rintro e w1 ⟨v, rfl, hb, _, hown⟩
      clear hown
      go_wp2_with fail
      go_ret2
      rw [F.out.1, F.out.2]
      exact ⟨_, rfl, hb, EvsNew.nil _ _ _⟩
    · obtain ⟨m, rfl⟩ : ∃ m : Nat, n = m := ⟨n.toNat, by omega⟩
      have F : Hid (cutE hs (m : Int) = 0 ∧ cutL hs (m : Int) = (srt (placesL ((spansL hs).take (min m (spansL hs).length)))).map (fun i => evAt hs i.toNat) ∧ ∀ x ∈ placesL ((spansL hs).take (min m (spansL hs).length)), 0 ≤ x ∧ x < hs.length) := by
        have he := HE.out
        have e1 : cutE hs (m : Int) = 0 := by simp [cutE, he]
        have e2 : cutL hs (m : Int) = keptN hs (Kcut (m : Int)) hs.length := by simp [cutL, he]; intro q; omega
        rw [e1, e2, ← pickN_cut (spansL hs) m _ (Nat.le_refl _)]
        exact ⟨rfl, (parts_eq HE.out _).symm, parts_in HE.out _⟩
      have m0 : (0 : Int) ≤ (m : Int) := Int.natCast_nonneg _
      clear h0
      go_enter Try.func7, Try.ntmps7
      go_wp2_with fail
      refine (spansOf_any base b o c hs pb pc pg po _ HA.out).mono ?_
      rintro e w1 ⟨v, rfl, hb, _, hown⟩
      obtain ⟨base1, cap, g, rfl, hg, hnil, hsp, hmx⟩ := sps_of_owns (hown HE.out)
      have hcap : (spansL hs).length ≤ cap := by
        obtain ⟨_, q⟩ := hown HE.out
        rcases q with ⟨e, e0⟩ | ⟨g', cap', cur, e, _, _, h1, _⟩
        · omega
        · cases e; exact h1
      have HP : Hid _ := hsp.take (min m (spansL hs).length)
      have HF : Hid (((spansL hs).take (min m (spansL hs).length)).length = min m (spansL hs).length) := by show _ = _; simp
      have B1 : Hid _ := hb
      have EV : Hid _ := HA.out.below hb
      clear hown hg hnil hsp hb
      generalize hgs : (spansL hs).take (min m (spansL hs).length) = ks at *
      generalize hgl : (spansL hs).length = l at *
      clear hgs hgl
      have q1 : min (m : Int) (l : Int) ≤ (cap : Int) := by omega
      have q2 : 0 ≤ min (m : Int) (l : Int) := by omega
      have EA : Hid (Calls Try.prog 25 #[.slice base hs.length c, .slice base1 (min (m : Int) (l : Int)).toNat cap] w1 fun e w' => ∃ v, e = .returned v ∧ Below w1.heap.size w1 w' ∧ EvsNew w' w1.heap.size w1.heap.size v ((srt (placesL ks)).map fun i => evAt hs i.toNat)) := by
        show Calls _ _ _ _ _
        rw [show (min (m : Int) (l : Int)).toNat = ks.length by rw [HF.out]; omega]
        exact eventsAt_any base b o c hs pb pc pg po w1 EV.out base1 g cap ks HP.out (by rw [HF.out]; omega) F.out.2.2
      go_wp2_with fail
      refine EA.out.mono ?_
      rintro e w2 ⟨v2, rfl, hb2, hE2⟩
      have E2 : Hid _ := hE2
      have B2 : Hid _ := hb2
      clear hE2 hb2
      go_wp2_with fail
      go_ret2
      rw [F.out.1, F.out.2.1]
      exact ⟨_, rfl, B1.out.trans (B2.out.mono B1.out.size), EvsNew.down E2.out B1.out.size B1.out.size⟩
  · have hn : (hErr hs != 0) = true := by simp [he]
    have F : Hid (cutE hs n = hErr hs ∧ cutL hs n = []) := by unfold cutE cutL; rw [if_pos he, if_pos he]; exact ⟨rfl, rfl⟩
    clear he
    go_enter Try.func7, Try.ntmps7
    go_wp2_with fail
    refine (spansOf_any base b o c hs pb pc pg po _ HA.out).mono ?_
    rintro e w1 ⟨v, rfl, hb, _, hown⟩
    clear hown
    go_wp2_with fail
    go_ret2
    rw [F.out.1, F.out.2]
    exact ⟨_, rfl, hb, EvsNew.nil _ _ _⟩

set_option maxRecDepth 100000 in
set_option maxHeartbeats 1000000 in
theorem Done_any : Calls Try.prog 8 #[.slice base hs.length c] w fun e w' => ∃ v, e = .returned (.tuple #[v, .int .i64 (hErr hs)]) ∧ Below w.heap.size w w' ∧ EvsNew w' w.heap.size w.heap.size v (doneL hs) := by
  have HA : Hid _ := h
  clear h
  by_cases he : hErr hs = 0
  · have hn : (hErr hs != 0) = false := by simp [he]
    have hsn : (rtN (spansL hs) (spansL hs).length).length ≤ 100000 := by obtain ⟨_, s, hst, hsl⟩ := hErr_zero he; have := rtN_le (spansL hs) (spansL hs).length; rw [hsl] at this ⊢; have := (stN_ok hst).len; omega
    have HE : Hid _ := he
    clear he
    have F : Hid (doneL hs = (srt (placesL (rtN (spansL hs) (spansL hs).length))).map (fun i => evAt hs i.toNat) ∧ ∀ x ∈ placesL (rtN (spansL hs) (spansL hs).length), 0 ≤ x ∧ x < hs.length) := by
      unfold doneL
      rw [if_neg (fun q => q HE.out), ← pickN_done]
      exact ⟨(parts_eq HE.out _).symm, parts_in HE.out _⟩
    go_enter Try.func8, Try.ntmps8
    go_wp2_with fail
    refine (spansOf_any base b o c hs pb pc pg po _ HA.out).mono ?_
    rintro e w1 ⟨v, rfl, hb, _, hown⟩
    have HO : Hid (World.ownsRow _ _ _ _ _ _ _) := hown HE.out
    obtain ⟨a1, k1, rfl⟩ := owns_form HO.out
    have B1 : Hid _ := hb
    clear hown hb
    go_wp2_with fail
    refine (deleteFunc_any w.heap.size _ (spansL hs) _ HO.out B1.out.size).mono ?_
    rintro e w2 ⟨a2, k2, g2, rfl, hsp2, hb2⟩
    have B2 : Hid (Below w.heap.size w w2) := B1.out.trans hb2
    have P2 : Hid _ := hsp2
    clear hb2 hsp2
    go_wp2_with fail
    refine (eventsAt_any base b o c hs pb pc pg po _ (HA.out.below B2.out) a2 g2 k2 _ P2.out hsn F.out.2).mono ?_
    rintro e w3 ⟨v3, rfl, hb3, hE3⟩
    have E3 : Hid _ := hE3
    have B3 : Hid _ := hb3
    clear hE3 hb3
    go_wp2_with fail
    go_ret2
    rw [HE.out, F.out.1]
    exact ⟨_, rfl, B2.out.trans (B3.out.mono B2.out.size), EvsNew.down E3.out B2.out.size B2.out.size⟩
  · have hn : (hErr hs != 0) = true := by simp [he]
    have F : Hid (doneL hs = []) := by show doneL hs = []; unfold doneL; rw [if_pos he]
    clear he
    go_enter Try.func8, Try.ntmps8
    go_wp2_with fail
    refine (spansOf_any base b o c hs pb pc pg po _ HA.out).mono ?_
    rintro e w1 ⟨v, rfl, hb, _, hown⟩
    clear hown
    go_wp2_with fail
    go_ret2
    rw [F.out]
    exact ⟨_, rfl, hb, EvsNew.nil _ _ _⟩
end

end Go.Proofs.Ytgbfippcnmpgfaa
