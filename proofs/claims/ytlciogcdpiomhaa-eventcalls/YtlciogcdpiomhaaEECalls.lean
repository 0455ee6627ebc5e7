/- Layer 5: EventCalls, walked. -/
import Derived.Test.YtlciogcdpiomhaaEREv3
namespace Go.Proofs.Ytlciogcdpiomhaa
open Go.RowKit
attribute [local go_sem ↓] Go.wp_at_zero Go.wp_at_succ

theorem evs_none (w : World) : EvsAt w none 0 0 [] (fun _ => none) (fun _ => 0) (fun _ => 0) (fun _ => 0) := ⟨fun q => absurd rfl q, fun q => absurd rfl q, by simp, fun i hi => by simp at hi, fun i hi => by simp at hi, fun i hi => by simp at hi, fun i hi => by simp at hi⟩
theorem cds_none (w : World) : CdsAt w none 0 0 [] (fun _ => none) (fun _ => 0) (fun _ => 0) (fun _ => 0) := ⟨fun q => absurd rfl q, fun q => absurd rfl q, by simp, fun i hi => by simp at hi, fun i hi => by simp at hi, fun i hi => by simp at hi, fun i hi => by simp at hi⟩
open Classical in
noncomputable def evErr (l : List CD) : Int := if 100000 < l.length then 2 else if ProgOk l then 0 else 3
open Classical in
noncomputable def evLs (l : List CD) : List EvD := if 100000 < l.length then [] else if ProgOk l then layL l else []
theorem ans_evs {l : List CD} {w w' : World} {v : Value} {err : Int} (h : EvAns l w w' v err) : err = evErr l ∧ ∃ base cap g pb pc pg po, v = .slice base (evLs l).length cap ∧ EvsAt w' base g 0 (evLs l) pb pc pg po := by
  unfold evErr evLs
  by_cases hb : 100000 < l.length
  · obtain ⟨e, rfl⟩ := h.big hb
    rw [if_pos hb, if_pos hb]
    exact ⟨e, none, 0, 0, _, _, _, _, rfl, evs_none _⟩
  · rw [if_neg hb, if_neg hb]
    by_cases ho : ProgOk l
    · obtain ⟨e, g, pb, pc, pg, po, _, hv, hE⟩ := h.good (by omega) ho
      rw [if_pos ho, if_pos ho]
      exact ⟨e, _, _, g, pb, pc, pg, po, hv, hE⟩
    · obtain ⟨e, rfl⟩ := h.bad (by omega) ho
      rw [if_neg ho, if_neg ho]
      exact ⟨e, none, 0, 0, _, _, _, _, rfl, evs_none _⟩
/-- The operations of a history, none where it is none. -/
def lcd (hs : List EvD) : List CD := if hErr hs = 0 then cdsOf hs (spansL hs) else []
theorem spans_short {hs : List EvD} (he : hErr hs = 0) : (spansL hs).length ≤ hs.length ∧ hs.length ≤ 100000 := by
  obtain ⟨hb, s, hst, hsl⟩ := hErr_zero he
  have := stN_count hst
  rw [hsl]
  exact ⟨by omega, hb⟩
theorem evErr_back {hs : List EvD} (he : hErr hs = 0) : evErr (lcd hs) = 0 ∧ evLs (lcd hs) = hs := by
  have h1 := spans_short he
  have hl : lcd hs = cdsOf hs (spansL hs) := by unfold lcd; rw [if_pos he]
  rw [hl]
  unfold evErr evLs
  have h2 : ¬ 100000 < (cdsOf hs (spansL hs)).length := by rw [cdsOf_length]; omega
  rw [if_neg h2, if_neg h2, if_pos (prog_back he), if_pos (prog_back he)]
  exact ⟨rfl, lay_back he⟩

set_option maxRecDepth 100000 in
set_option maxHeartbeats 2000000 in
theorem eventCalls_any (base : Option Addr) (b o c : Nat) (hs : List EvD) (pb : Nat → Option Addr) (pc pg po : Nat → Nat) (w : World) (h : EvsAt w base b o hs pb pc pg po)
    (a1 : Option Addr) (b1 o1 c1 : Nat) (l : List CD) (qb : Nat → Option Addr) (qc qg qo : Nat → Nat) (hx : CdsAt w a1 b1 o1 l qb qc qg qo) (hby : l.length * 104 ≤ 140737488351232) :
    Calls Try.prog 3 #[.slice base hs.length c, .slice a1 l.length c1] w fun e w' => e = .returned (.bool true) ∧ Below w.heap.size w w' := by
  have HA : Hid _ := h
  have HX : Hid _ := hx
  have HBY : Hid (∀ i, i < hs.length → (evAt hs i).rt.pairs.length * 16 ≤ 140737488355328) := fun i hi => (h.prs i hi).2.2
  have HBL : Hid (∀ x ∈ l, x.rt.pairs.length * 16 ≤ 140737488355328) := fun x hm => by
    obtain ⟨i, hi, e⟩ := List.getElem_of_mem hm
    have := (hx.prs i hi).2.2
    unfold cdAt at this
    rw [List.getD_eq_getElem?_getD, List.getElem?_eq_getElem hi] at this
    simpa [e] using this
  clear h hx
  have q0 : (hErr hs != hErr hs) = false := by simp
  go_enter Try.func3, Try.ntmps3
  go_wp2_with fail
  refine (known_any _).mono ?_
  rintro e w1 ⟨rfl, hb1⟩
  have B1 : Hid _ := hb1
  clear hb1
  go_wp2_with fail
  refine (check_any base b o c hs pb pc pg po _ (HA.out.below B1.out)).mono ?_
  rintro e w2 ⟨rfl, hb2⟩
  have B2 : Hid (Below w.heap.size w w2) := B1.out.trans (hb2.mono B1.out.size)
  clear hb2
  go_wp2_with fail
  refine (rcheck_any base b o c hs pb pc pg po _ (HA.out.below B2.out)).mono ?_
  rintro e w3 ⟨rfl, hb3⟩
  have B3 : Hid (Below w.heap.size w w3) := B2.out.trans (hb3.mono B2.out.size)
  clear hb3
  go_wp2_with fail
  refine (rCalls_any base b o c hs pb pc pg po _ (HA.out.below B3.out)).mono ?_
  rintro e w4 ⟨v4, rfl, hb4, hz4, hg4⟩
  have B4 : Hid (Below w.heap.size w w4) := B3.out.trans (hb4.mono B3.out.size)
  have A4 : ∃ base cap g pb pc pg po, v4 = .slice base (lcd hs).length cap ∧ CdsAt w4 base g 0 (lcd hs) pb pc pg po := by
    unfold lcd
    by_cases he : hErr hs = 0
    · obtain ⟨m, hm, ho, hr⟩ := hg4 he
      rw [if_pos he, cdsOf_length]
      exact rcalls_cds hm ho hr HBY.out
    · rw [if_neg he]
      exact ⟨none, 0, 0, _, _, _, _, hz4 he, cds_none _⟩
  obtain ⟨x4, k4, g4, pb4, pc4, pg4, po4, rfl, hc4⟩ := A4
  have C4 : Hid _ := hc4
  clear hb4 hz4 hg4 hc4
  go_wp2_with fail
  refine (Calls_any base b o c hs pb pc pg po _ (HA.out.below B4.out)).mono ?_
  rintro e w5 ⟨v5, rfl, hb5, hz5, hg5⟩
  have B5 : Hid (Below w.heap.size w w5) := B4.out.trans (hb5.mono B4.out.size)
  have A5 : ∃ base cap g pb pc pg po, v5 = .slice base (lcd hs).length cap ∧ CdsAt w5 base g 0 (lcd hs) pb pc pg po := by
    unfold lcd
    by_cases he : hErr hs = 0
    · obtain ⟨g, m, _, _, hv, hm, hc, ho⟩ := hg5 he
      have hsh := spans_short he
      obtain ⟨pb, pc, pg, po, hC⟩ := calls_cds hm hc ho (by unfold maxLen; omega) HBY.out
      rw [if_pos he, cdsOf_length]
      exact ⟨_, _, g, pb, pc, pg, po, hv, hC⟩
    · rw [if_neg he]
      exact ⟨none, 0, 0, _, _, _, _, hz5 he, cds_none _⟩
  obtain ⟨x5, k5, g5, pb5, pc5, pg5, po5, rfl, hc5⟩ := A5
  have C5 : Hid _ := hc5
  have C45 : Hid _ := C4.out.below hb5
  clear hb5 hz5 hg5 hc5
  go_wp2_with fail
  refine (are_same x5 x4 g5 0 k5 g4 0 k4 (lcd hs) pb5 pb4 pc5 pg5 po5 pc4 pg4 po4 _ C5.out C45.out).mono ?_
  rintro e w6 ⟨rfl, hb6⟩
  have B6 : Hid (Below w.heap.size w w6) := B5.out.trans (hb6.mono B5.out.size)
  have C6 : Hid _ := C5.out.below hb6
  clear hb6
  go_wp2_with fail
  refine (rEvents_any a1 b1 o1 c1 l qb qc qg qo _ (HX.out.below B6.out)).mono ?_
  rintro e w7 ⟨v7, err7, rfl, hb7, ha7⟩
  obtain ⟨rfl, x7, k7, g7, pb7, pc7, pg7, po7, rfl, hE7⟩ := ans_evs ha7
  have B7 : Hid (Below w.heap.size w w7) := B6.out.trans (hb7.mono B6.out.size)
  have C7 : Hid _ := C6.out.below hb7
  have E7 : Hid _ := hE7
  clear hb7 ha7 hE7
  go_wp2_with fail
  refine (our_any a1 b1 o1 c1 l qb qc qg qo _ (HX.out.below B7.out) hby).mono ?_
  rintro e w8 ⟨v8, m8, rfl, hb8, hm8, ho8, hr8⟩
  obtain ⟨x8, k8, g8, pb8, pc8, pg8, po8, rfl, hC8⟩ := our_cds hm8 ho8 hr8 HBL.out
  have B8 : Hid (Below w.heap.size w w8) := B7.out.trans (hb8.mono B7.out.size)
  have C8 : Hid _ := C7.out.below hb8
  have E8 : Hid _ := E7.out.below hb8
  have D8 : Hid _ := hC8
  clear hb8 hm8 ho8 hr8 hC8
  go_wp2_with fail
  refine (Events_any x8 g8 0 k8 l pb8 pc8 pg8 po8 _ D8.out).mono ?_
  rintro e w9 ⟨v9, err9, rfl, hb9, ha9⟩
  obtain ⟨rfl, x9, k9, g9, pb9, pc9, pg9, po9, rfl, hE9⟩ := ans_evs ha9
  have B9 : Hid (Below w.heap.size w w9) := B8.out.trans (hb9.mono B8.out.size)
  have C9 : Hid _ := C8.out.below hb9
  have E9 : Hid _ := E8.out.below hb9
  have F9 : Hid _ := hE9
  have q1 : (evErr l != evErr l) = false := by simp
  clear hb9 ha9 hE9
  go_wp2_with fail
  refine (sameEvents_any x7 x9 g7 0 k7 g9 0 k9 (evLs l) (evLs l) pb7 pb9 pc7 pg7 po7 pc9 pg9 po9 _ E9.out F9.out).mono ?_
  rintro e w10 ⟨r, rfl, hb10, hr⟩
  obtain rfl : r = true := hr.2 rfl
  have B10 : Hid (Below w.heap.size w w10) := B9.out.trans (hb10.mono B9.out.size)
  have C10 : Hid _ := C9.out.below hb10
  clear hb10 hr
  go_wp2_with fail
  refine (rcheck_any base b o c hs pb pc pg po _ (HA.out.below B10.out)).mono ?_
  rintro e w11 ⟨rfl, hb11⟩
  have B11 : Hid (Below w.heap.size w w11) := B10.out.trans (hb11.mono B10.out.size)
  have C11 : Hid _ := C10.out.below hb11
  clear hb11
  by_cases he : hErr hs = 0
  · have q2 : (hErr hs != 0) = false := by simp [he]
    have HE : Hid _ := he
    clear he
    go_wp2_with fail
    refine (Events_any x5 g5 0 k5 (lcd hs) pb5 pc5 pg5 po5 _ C11.out).mono ?_
    rintro e w12 ⟨v12, err12, rfl, hb12, ha12⟩
    obtain ⟨e0, x12, k12, g12, pb12, pc12, pg12, po12, rfl, hE12⟩ := ans_evs ha12
    obtain ⟨z1, z2⟩ := evErr_back HE.out
    rw [z1] at e0
    rw [z2] at hE12 ⊢
    subst e0
    have B12 : Hid (Below w.heap.size w w12) := B11.out.trans (hb12.mono B11.out.size)
    have E12 : Hid _ := hE12
    clear hb12 ha12 hE12 z1 z2
    go_wp2_with fail
    refine (sameEvents_any x12 base g12 0 k12 b o c hs hs pb12 pb pc12 pg12 po12 pc pg po _ E12.out (HA.out.below B12.out)).mono ?_
    rintro e w13 ⟨r, rfl, hb13, hr⟩
    obtain rfl : r = true := hr.2 rfl
    have B13 : Hid (Below w.heap.size w w13) := B12.out.trans (hb13.mono B12.out.size)
    clear hb13 hr
    go_wp2_with fail
    go_ret
    exact ⟨rfl, B13.out⟩
  · have q2 : (hErr hs != 0) = true := by simp [he]
    clear he
    go_wp2_with fail
    go_ret
    exact ⟨rfl, B11.out⟩
end Go.Proofs.Ytlciogcdpiomhaa
