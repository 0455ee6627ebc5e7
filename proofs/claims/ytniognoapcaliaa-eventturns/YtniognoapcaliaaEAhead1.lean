/- Layer 5: being ahead, without a walk: an order; Width 1 just where all are in a row. -/
import Derived.Test.YtniognoapcaliaaECallsP
namespace Go.Proofs.Ytniognoapcaliaa
open Go.RowKit

theorem spAt_mem' {sp : List Sp} {i : Nat} (h : i < sp.length) : spAt sp i ∈ sp := by
  unfold spAt
  rw [List.getD_eq_getElem?_getD, List.getElem?_eq_getElem h]
  exact List.getElem_mem _
def pend (sp : List Sp) : Nat := sp.countP fun p => decide (p.2 = -1)
def allAhd (sp : List Sp) : Prop := ∀ i k, i < k → k < sp.length → ahd (spAt sp i) (spAt sp k) = true
theorem pend_zero {sp : List Sp} : pend sp = 0 ↔ ∀ k, k < sp.length → (spAt sp k).2 ≠ -1 := by
  unfold pend
  rw [List.countP_eq_zero]
  constructor
  · intro h k hk
    have := h _ (spAt_mem' hk)
    simpa using this
  · intro h a ha
    obtain ⟨k, hk, e⟩ := List.getElem_of_mem ha
    have := h k hk
    have e2 : spAt sp k = a := by unfold spAt; rw [List.getD_eq_getElem?_getD, List.getElem?_eq_getElem hk, e]; rfl
    rw [e2] at this
    simpa using this
theorem ahd_true {a b : Sp} : ahd a b = true ↔ a.2 ≠ -1 ∧ a.2 < b.1 := by unfold ahd; simp
theorem wd_inv {hs : List EvD} : ∀ {j : Nat} {s : St}, stN hs j = some s → (wdN hs j).1 = (pend s.spans : Int) ∧ (wdN hs j).1 ≤ (wdN hs j).2 ∧ ((wdN hs j).2 ≤ 1 ↔ allAhd s.spans)
  | 0, s, h => by cases h; refine ⟨rfl, by simp [wdN], ⟨fun _ i k _ hk => by simp at hk, fun _ => by simp [wdN]⟩⟩
  | j + 1, s', h => by
    have h' : (stN hs j).bind (fun s => stepS hs s j) = some s' := h
    cases hj : stN hs j with
    | none => rw [hj] at h'; cases h'
    | some s =>
      rw [hj] at h'
      have h2 : stepS hs s j = some s' := h'
      obtain ⟨i1, i2, i3⟩ := wd_inv hj
      have ok := stN_ok hj
      obtain ⟨t, ht, ht64, hc⟩ := stepS_cases h2
      rcases hc with ⟨hr, hb, hi, rfl⟩ | ⟨hr, hb, ho, rfl⟩
      · have hp : pend (s.spans ++ [((j : Nat), (-1 : Int))]) = pend s.spans + 1 := by unfold pend; rw [List.countP_append]; simp
        have hw : wdN hs (j + 1) = ((wdN hs j).1 + 1, if (wdN hs j).2 < (wdN hs j).1 + 1 then (wdN hs j).1 + 1 else (wdN hs j).2) := by simp [wdN, hr]
        rw [hw]
        simp only
        rw [hp]
        refine ⟨by omega, by split <;> omega, ?_⟩
        have hall : allAhd (s.spans ++ [((j : Nat), (-1 : Int))]) ↔ allAhd s.spans ∧ pend s.spans = 0 := by
          rw [pend_zero]
          constructor
          · intro q
            refine ⟨fun i k hik hk => ?_, fun k hk => ?_⟩
            · have := q i k hik (by simp; omega)
              rw [spAt_append, if_neg (by omega), spAt_append, if_neg (by omega)] at this
              exact this
            · have := q k s.spans.length hk (by simp)
              rw [spAt_append, if_neg (by omega)] at this
              exact (ahd_true.1 this).1
          · rintro ⟨q1, q2⟩ i k hik hk
            simp at hk
            by_cases e : k = s.spans.length
            · rw [spAt_append, if_neg (by omega), spAt_append, if_pos e]
              rw [ahd_true]
              have a := q2 i (by omega)
              rcases ok.to i (by omega) with b | b
              · exact absurd b a
              · exact ⟨a, b.2⟩
            · rw [spAt_append, if_neg (by omega), spAt_append, if_neg (by omega)]
              exact q1 i k hik (by omega)
        rw [hall, ← i3]
        split <;> omega
      · have hq : s.beg t - 1 < s.spans.length := by have := ok.beg t; omega
        obtain ⟨o1, _⟩ := ok.opn t hb
        have hp : pend (s.spans.set (s.beg t - 1) ((spAt s.spans (s.beg t - 1)).1, (j : Int))) + 1 = pend s.spans := by
          unfold pend
          rw [List.countP_set hq]
          have e : s.spans[s.beg t - 1] = spAt s.spans (s.beg t - 1) := by unfold spAt; rw [List.getD_eq_getElem?_getD, List.getElem?_eq_getElem hq]; rfl
          have hpos : 0 < List.countP (fun p => decide (p.2 = -1)) s.spans := List.countP_pos_iff.2 ⟨_, List.getElem_mem hq, by rw [e]; simpa using o1⟩
          rw [e]
          simp [o1]
          omega
        have hw : wdN hs (j + 1) = ((wdN hs j).1 - 1, if (wdN hs j).2 < (wdN hs j).1 - 1 then (wdN hs j).1 - 1 else (wdN hs j).2) := by simp [wdN, hr, Int.sub_eq_add_neg]
        rw [hw]
        simp only
        refine ⟨by omega, by split <;> omega, ?_⟩
        have hall : allAhd (s.spans.set (s.beg t - 1) ((spAt s.spans (s.beg t - 1)).1, (j : Int))) ↔ allAhd s.spans := by
          have key : ∀ i k, i < k → k < s.spans.length → ahd (spAt (s.spans.set (s.beg t - 1) ((spAt s.spans (s.beg t - 1)).1, (j : Int))) i) (spAt (s.spans.set (s.beg t - 1) ((spAt s.spans (s.beg t - 1)).1, (j : Int))) k) = ahd (spAt s.spans i) (spAt s.spans k) := by
            intro i k hik hk
            have e1 : (spAt (s.spans.set (s.beg t - 1) ((spAt s.spans (s.beg t - 1)).1, (j : Int))) k).1 = (spAt s.spans k).1 := by
              rw [spAt_set _ _ _ _ hq]
              split
              · rename_i e; rw [e]
              · rfl
            unfold ahd
            rw [e1, spAt_set _ _ _ _ hq]
            split
            · rename_i e
              rw [e, o1]
              have f := ok.fr k hk
              simp
              omega
            · rfl
          unfold allAhd
          simp only [List.length_set]
          constructor
          · intro q i k hik hk; rw [← key i k hik hk]; exact q i k hik hk
          · intro q i k hik hk; rw [key i k hik hk]; exact q i k hik hk
        rw [hall, ← i3]
        split <;> omega
theorem EvsAt.take {w : World} {base : Option Addr} {b o : Nat} {hs : List EvD} {pb : Nat → Option Addr} {pc pg po : Nat → Nat} (h : EvsAt w base b o hs pb pc pg po) (m : Nat) : EvsAt w base b o (hs.take m) pb pc pg po := by
  have hl : (hs.take m).length ≤ hs.length := List.length_take_le' _ _
  have hlm : (hs.take m).length ≤ m := List.length_take_le _ _
  have e : ∀ i, i < (hs.take m).length → evAt (hs.take m) i = evAt hs i := by
    intro i hi
    unfold evAt
    rw [List.getD_eq_getElem?_getD, List.getD_eq_getElem?_getD, List.getElem?_take, if_pos (by omega)]
  refine ⟨fun hn => h.base (by omega), fun hn => h.lt (by omega), by have := h.len; omega, fun i hi => ?_, fun i hi => ?_, fun i hi => ?_, fun i hi => ?_⟩
  · rw [e i hi]; exact h.c0 i (by omega)
  · rw [e i hi]; exact h.c1 i (by omega)
  · rw [e i hi]; exact h.c2 i (by omega)
  · rw [e i hi]; exact h.prs i (by omega)
end Go.Proofs.Ytniognoapcaliaa
