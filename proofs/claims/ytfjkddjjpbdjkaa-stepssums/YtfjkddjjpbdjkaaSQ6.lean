
/- Layer 18, pure: what a site sees, as trees; what a step makes. -/

import Derived.Test.YtfjkddjjpbdjkaaSQ5

namespace Go.Proofs.Ytfjkddjjpbdjkaa

open Classical in
/-- The tree from a place on. -/
noncomputable def theB (t : NL) (x : Nat) : BT := if h : ∃ b, Abs t x b then Classical.choose h else .leaf ⟨0, 0, 0, 0⟩
theorem theB_of {t : NL} {x : Nat} {b : BT} (h : Abs t x b) : theB t x = b := by
  unfold theB
  rw [dif_pos ⟨b, h⟩]
  exact (Classical.choose_spec (⟨b, h⟩ : ∃ b, Abs t x b)).det h
/-- A place that is there, or isn't, and its tree as a move sees it. -/
def PA (t : NL) (mi : Bool) (p : Int) (o : Option BT) : Prop := (p = -1 ∧ o = none) ∨ ∃ (n : Nat) (b : BT), p = (n : Int) ∧ n < t.length ∧ Abs (mt mi t) n b ∧ o = some b
theorem PA.wt {t : NL} {mi : Bool} {p : Int} {o : Option BT} (h : PA t mi p o) : wtP t p = bwO o := by
  rcases h with ⟨rfl, rfl⟩ | ⟨n, b, rfl, hn, ha, rfl⟩
  · rfl
  · unfold wtP
    rw [if_neg (by omega), Int.toNat_natCast]
    have e : (ndAt (mt mi t) n).wt = (ndAt t n).wt := by rw [mt_at mi t n hn]; cases mi <;> rfl
    rw [← e]
    cases ha <;> rfl
theorem PA.ok {t : NL} {mi : Bool} {p : Int} {o : Option BT} (h : PA t mi p o) : p = -1 ∨ 0 ≤ p ∧ p < t.length := by
  rcases h with ⟨rfl, -⟩ | ⟨n, b, rfl, hn, -, -⟩
  · exact Or.inl rfl
  · exact Or.inr ⟨by omega, by omega⟩
theorem bel_mt {t : NL} {mi : Bool} {n : Nat} (hn : n < t.length) : belL t mi (n : Int) = (ndAt (mt mi t) n).l ∧ belR t mi (n : Int) = (ndAt (mt mi t) n).r := by
  have q : ¬ ((n : Int) = -1) := by omega
  unfold belL belR
  rw [if_neg q, if_neg q, Int.toNat_natCast, mt_at mi t n hn]
  cases mi <;> exact ⟨rfl, rfl⟩
theorem PA.kids {t : NL} {mi : Bool} {p : Int} {o : Option BT} (h : PA t mi p o) : PA t mi (belL t mi p) (blO o) ∧ PA t mi (belR t mi p) (brO o) := by
  rcases h with ⟨rfl, rfl⟩ | ⟨n, b, rfl, hn, ha, rfl⟩
  · exact ⟨Or.inl ⟨rfl, rfl⟩, Or.inl ⟨rfl, rfl⟩⟩
  · obtain ⟨e1, e2⟩ := bel_mt (mi := mi) hn
    cases ha with
    | leaf _ h1 h2 => rw [e1, e2, h1, h2]; exact ⟨Or.inl ⟨rfl, rfl⟩, Or.inl ⟨rfl, rfl⟩⟩
    | node _ h1 h2 a1 a2 =>
      have l1 := a1.lt
      have l2 := a2.lt
      rw [mt_length] at l1 l2
      rw [e1, e2, h1, h2]
      exact ⟨Or.inr ⟨_, _, rfl, l1, a1, rfl⟩, Or.inr ⟨_, _, rfl, l2, a2, rfl⟩⟩
theorem PA.inn {t : NL} {mi : Bool} {p : Int} {o : Option BT} (h : PA t mi p o) : (belL t mi p != -1) = inO o := by
  rcases h.kids.1 with ⟨h1, h2⟩ | ⟨n, b, h1, hn, ha, h2⟩
  · unfold inO; rw [h1, h2]; rfl
  · unfold inO
    rw [h1, h2]
    show (!((n : Int) == -1)) = true
    rw [beq_eq_false_iff_ne.2 (by omega)]
    rfl
theorem PA.of {t : NL} {mi : Bool} {x : Nat} {b : BT} (h : Abs t x b) : PA t mi (x : Int) (some (b.mt mi)) := by
  refine Or.inr ⟨x, b.mt mi, rfl, h.lt, ?_, rfl⟩
  cases mi
  · exact h
  · exact mir_abs h
open Classical in
/-- What a step makes of a tree. -/
noncomputable def stB (root : Bool) (k : Int) (b : BT) : BT := if h : ∃ c, StepR root k b c then Classical.choose h else b
theorem stB_of {root : Bool} {k : Int} {b c : BT} (h : StepR root k b c) : stB root k b = c := by
  unfold stB
  rw [dif_pos ⟨c, h⟩]
  exact (Classical.choose_spec (⟨c, h⟩ : ∃ c, StepR root k b c)).det h
open Classical in
/-- Another tree in a place. -/
noncomputable def theG (t : NL) (x : Nat) (u : BT) : BT := if h : ∃ B, GraftR t x u 0 B then Classical.choose h else u
theorem theG_of {t : NL} {x : Nat} {u B : BT} (h : GraftR t x u 0 B) : theG t x u = B := by
  unfold theG
  rw [dif_pos ⟨B, h⟩]
  exact (Classical.choose_spec (⟨B, h⟩ : ∃ B, GraftR t x u 0 B)).det h
/-- What stands in the place behind a step, as the move sees it. -/
noncomputable def newB (rt : Bool) (k : Int) (b : BT) : BT := if rt then (stB rt k b).wset 1 else stB rt k b
end Go.Proofs.Ytfjkddjjpbdjkaa
