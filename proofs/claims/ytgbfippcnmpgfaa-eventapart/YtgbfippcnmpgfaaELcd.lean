
/- Layer 5: the operations of a history, none where it is none. No walk. -/

import Derived.Test.YtgbfippcnmpgfaaEEvents

import Derived.Test.YtgbfippcnmpgfaaECdsOf

namespace Go.Proofs.Ytgbfippcnmpgfaa

open Go.RowKit

attribute [local go_sem ↓] Go.wp_at_zero Go.wp_at_succ

theorem evs_none (w : World) : EvsAt w none 0 0 [] (fun _ => none) (fun _ => 0) (fun _ => 0) (fun _ => 0) := ⟨fun q => absurd rfl q, fun q => absurd rfl q, by simp, fun i hi => by simp at hi, fun i hi => by simp at hi, fun i hi => by simp at hi, fun i hi => by simp at hi, fun i hi => by simp at hi⟩
theorem cds_none (w : World) : CdsAt w none 0 0 [] (fun _ => none) (fun _ => 0) (fun _ => 0) (fun _ => 0) := ⟨fun q => absurd rfl q, fun q => absurd rfl q, by simp, fun i hi => by simp at hi, fun i hi => by simp at hi, fun i hi => by simp at hi, fun i hi => by simp at hi⟩
open Classical in
noncomputable def evErr (l : List CD) : Int := if 100000 < l.length then 2 else if ProgOk l then 0 else 3
open Classical in
noncomputable def evLs (l : List CD) : List EvD := if 100000 < l.length then [] else if ProgOk l then layL l else []
theorem ans_evs {l : List CD} {w w' : World} {v : Value} {err : Int} (h : EvAns l w w' v err) : err = evErr l ∧ ∃ base cap g pb pc pg po, v = .slice base (evLs l).length cap ∧ EvsAt w' base g 0 (evLs l) pb pc pg po := by
  unfold evErr evLs
  by_cases hb : 100000 < l.length
  · obtain ⟨e, rfl⟩ := h.big hb
    rw [if_pos hb, if_pos hb]
    exact ⟨e, none, 0, 0, _, _, _, _, rfl, evs_none _⟩
  · rw [if_neg hb, if_neg hb]
    by_cases ho : ProgOk l
    · obtain ⟨e, g, pb, pc, pg, po, _, hv, hE, _⟩ := h.good (by omega) ho
      rw [if_pos ho, if_pos ho]
      exact ⟨e, _, _, g, pb, pc, pg, po, hv, hE⟩
    · obtain ⟨e, rfl⟩ := h.bad (by omega) ho
      rw [if_neg ho, if_neg ho]
      exact ⟨e, none, 0, 0, _, _, _, _, rfl, evs_none _⟩
/-- The operations of a history, none where it is none. -/
def lcd (hs : List EvD) : List CD := if hErr hs = 0 then cdsOf hs (spansL hs) else []
theorem spans_short {hs : List EvD} (he : hErr hs = 0) : (spansL hs).length ≤ hs.length ∧ hs.length ≤ 100000 := by
  obtain ⟨hb, s, hst, hsl⟩ := hErr_zero he
  have := (stN_ok hst).len
  rw [hsl]
  exact ⟨by omega, hb⟩
theorem evErr_back {hs : List EvD} (he : hErr hs = 0) : evErr (lcd hs) = 0 ∧ evLs (lcd hs) = hs := by
  have h1 := spans_short he
  have hl : lcd hs = cdsOf hs (spansL hs) := by unfold lcd; rw [if_pos he]
  rw [hl]
  unfold evErr evLs
  have h2 : ¬ 100000 < (cdsOf hs (spansL hs)).length := by rw [cdsOf_length]; omega
  rw [if_neg h2, if_neg h2, if_pos (prog_back he), if_pos (prog_back he)]
  exact ⟨rfl, lay_back he⟩
end Go.Proofs.Ytgbfippcnmpgfaa
