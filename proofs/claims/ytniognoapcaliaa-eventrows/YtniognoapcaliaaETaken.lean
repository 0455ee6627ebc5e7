/- Layer 5: for the reference's Events: the places that are taken, as a row of bools; its questions. No walk. -/
import Derived.Test.YtniognoapcaliaaEOpenC
namespace Go.Proofs.Ytniognoapcaliaa
open Go.RowKit

theorem taken_zero (l : List CD) (p : Int) : ¬ Taken l 0 p := by rintro ⟨k, hk, _⟩; omega
theorem taken_succ (l : List CD) (j : Nat) (p : Int) : Taken l (j + 1) p ↔ Taken l j p ∨ p = (cdAt l j).fr ∨ ((cdAt l j).to ≠ -1 ∧ p = (cdAt l j).to) := by
  constructor
  · rintro ⟨k, hk, q⟩
    by_cases e : k = j
    · subst e; exact Or.inr q
    · exact Or.inl ⟨k, by omega, q⟩
  · rintro (⟨k, hk, q⟩ | q)
    · exact ⟨k, by omega, q⟩
    · exact ⟨j, by omega, q⟩
open Classical in
/-- The row of bools behind j operations. -/
noncomputable def tkB (l : List CD) (j : Nat) : Nat → Bool := fun p => decide (Taken l j (p : Int))
theorem tkB_zero (l : List CD) (p : Nat) : tkB l 0 p = false := by simp [tkB, taken_zero]
theorem tkB_iff (l : List CD) (j p : Nat) : tkB l j p = true ↔ Taken l j (p : Int) := by simp [tkB]
theorem tkB_pend {l : List CD} {j f : Nat} (hf : (cdAt l j).fr = f) (ht : (cdAt l j).to = -1) (p : Nat) : tkB l (j + 1) p = if p = f then true else tkB l j p := by
  rw [Bool.eq_iff_iff, tkB_iff, taken_succ, hf]
  by_cases e : p = f
  · rw [if_pos e]; exact ⟨fun _ => rfl, fun _ => Or.inr (Or.inl (by omega))⟩
  · rw [if_neg e, tkB_iff]
    exact ⟨fun q => by
      rcases q with q | q | q
      · exact q
      · exact absurd (by omega) e
      · exact absurd ht q.1, Or.inl⟩
theorem tkB_back {l : List CD} {j f t : Nat} (hf : (cdAt l j).fr = f) (ht : (cdAt l j).to = t) (p : Nat) : tkB l (j + 1) p = if p = t then true else if p = f then true else tkB l j p := by
  rw [Bool.eq_iff_iff, tkB_iff, taken_succ, hf, ht]
  by_cases e1 : p = t
  · rw [if_pos e1]; exact ⟨fun _ => rfl, fun _ => Or.inr (Or.inr ⟨by omega, by omega⟩)⟩
  · rw [if_neg e1]
    by_cases e : p = f
    · rw [if_pos e]; exact ⟨fun _ => rfl, fun _ => Or.inr (Or.inl (by omega))⟩
    · rw [if_neg e, tkB_iff]
      exact ⟨fun q => by
        rcases q with q | q | q
        · exact q
        · exact absurd (by omega) e
        · exact absurd (by omega) e1, Or.inl⟩
/-- The reference's first question of an operation (true: it refuses). -/
noncomputable def q1B (l : List CD) (j : Nat) : Bool := decide ((cdAt l j).fr < 0) || (decide ((cdAt l j).fr ≥ (cntN l l.length : Nat)) || (tkB l j (cdAt l j).fr.toNat || ((decide (0 < j) && decide ((cdAt l j).fr ≤ (cdAt l (j - 1)).fr)) || (decide ((cdAt l j).to = -1) && !retEq (cdAt l j).rt RetD.zero))))
/-- The second, of one that returns. -/
noncomputable def q2B (l : List CD) (j : Nat) : Bool := decide ((cdAt l j).to ≤ (cdAt l j).fr) || (decide ((cdAt l j).to ≥ (cntN l l.length : Nat)) || tkB l j (cdAt l j).to.toNat)
theorem cond_q (l : List CD) (j : Nat) : CondR l j ↔ q1B l j = false ∧ ((cdAt l j).to ≠ -1 → q2B l j = false) := by
  unfold q1B q2B
  simp only [Bool.or_eq_false_iff, decide_eq_false_iff_not, Bool.and_eq_false_iff, Bool.not_eq_false', Int.not_lt, ge_iff_le, Int.not_le]
  constructor
  · intro h
    have h1 := h.lo
    have tf : tkB l j (cdAt l j).fr.toNat = false := by
      cases q : tkB l j (cdAt l j).fr.toNat
      · rfl
      · exact absurd (by have := (tkB_iff _ _ _).1 q; rwa [Int.toNat_of_nonneg h1] at this) h.free
    refine ⟨⟨h1, h.hi, tf, ?_, ?_⟩, fun ht => ?_⟩
    · by_cases q : 0 < j
      · exact Or.inr (h.rise q)
      · exact Or.inl q
    · by_cases q : (cdAt l j).to = -1
      · exact Or.inr (retEq_iff.2 (h.pend q))
      · exact Or.inl q
    · obtain ⟨a, b, c⟩ := h.back ht
      refine ⟨a, b, ?_⟩
      cases q : tkB l j (cdAt l j).to.toNat
      · rfl
      · exact absurd (by have := (tkB_iff _ _ _).1 q; rwa [Int.toNat_of_nonneg (by omega)] at this) c
  · rintro ⟨⟨h1, h2, h3, h4, h5⟩, h6⟩
    refine ⟨h1, h2, fun q => ?_, fun q => ?_, fun q => ?_, fun q => ?_⟩
    · have : tkB l j (cdAt l j).fr.toNat = true := (tkB_iff _ _ _).2 (by rw [Int.toNat_of_nonneg h1]; exact q)
      rw [h3] at this; cases this
    · rcases h4 with r | r
      · exact absurd q r
      · exact r
    · rcases h5 with r | r
      · exact absurd q r
      · exact retEq_iff.1 r
    · obtain ⟨a, b, c⟩ := h6 q
      refine ⟨a, b, fun z => ?_⟩
      have : tkB l j (cdAt l j).to.toNat = true := (tkB_iff _ _ _).2 (by rw [Int.toNat_of_nonneg (by omega)]; exact z)
      rw [c] at this; cases this
/-- Where the questions are answered well, the events are laid by plain stores. -/
theorem lay_pend {l : List CD} {j f : Nat} {h : List EvD} (hf : (cdAt l j).fr = f) (hl : f < h.length) (ht : (cdAt l j).to = -1) : layOne h (cdAt l j) = h.set f (invE (cdAt l j)) := by
  unfold layOne putE
  rw [if_pos ht, hf, if_pos (by omega), Int.toNat_natCast]
theorem lay_ret {l : List CD} {j f t : Nat} {h : List EvD} (hf : (cdAt l j).fr = f) (hl : f < h.length) (ht : (cdAt l j).to = t) (htl : t < h.length) : layOne h (cdAt l j) = (h.set f (invE (cdAt l j))).set t (retE (cdAt l j)) := by
  unfold layOne putE
  rw [if_neg (by omega), hf, if_pos (show (0 : Int) ≤ (f : Int) ∧ (f : Int) < h.length by omega), ht, if_pos (by rw [List.length_set]; omega), Int.toNat_natCast, Int.toNat_natCast]
end Go.Proofs.Ytniognoapcaliaa
