
/- Layer 16: Search of both. -/

import Derived.Test.YthdfpddijocfkaaTUp

namespace Go.Proofs.Ythdfpddijocfkaa

open Go.RowKit

attribute [local go_sem ↓] Go.wp_at_zero Go.wp_at_succ

/-- Does a search go to the left? -/
def goesL (n : NdD) (key : Int) : Prop := n.inf = 1 ∨ key < n.key
instance (n : NdD) (key : Int) : Decidable (goesL n key) := by unfold goesL; exact inferInstance
/-- The places that a search passes from p on. -/
inductive Way (t : NL) (key : Int) : Nat → List Nat → Prop
  | leaf {p : Nat} : p < t.length → (ndAt t p).l = -1 → (ndAt t p).r = -1 → Way t key p [p]
  | inner {p l r q : Nat} {P : List Nat} : p < t.length → (ndAt t p).l = (l : Int) → (ndAt t p).r = (r : Int) → q = (if goesL (ndAt t p) key then l else r) → Way t key q P → Way t key p (p :: P)
theorem Way.det {t : NL} {key : Int} {p : Nat} {P : List Nat} (h : Way t key p P) : ∀ {P' : List Nat}, Way t key p P' → P = P' := by
  induction h with
  | leaf hp hl hr =>
    intro P' h'
    cases h' with
    | leaf => rfl
    | inner _ hl' => omega
  | inner hp hl hr hq _ ih =>
    intro P' h'
    cases h' with
    | leaf _ hl' => omega
    | inner _ hl' hr' hq' h1 =>
      have e1 := hl.symm.trans hl'
      have e2 := hr.symm.trans hr'
      obtain rfl := Int.ofNat.inj e1
      obtain rfl := Int.ofNat.inj e2
      rw [← hq] at hq'
      subst hq'
      rw [ih h1]
theorem way_of {t : NL} {p : Nat} {L : List Nat} (key : Int) (h : Tree t p L) : ∃ P, Way t key p P ∧ P.length ≤ L.length := by
  induction h with
  | leaf hp hl hr => exact ⟨_, Way.leaf hp hl hr, Nat.le_refl _⟩
  | @inner p l r L R hp hl hr _ _ ih1 ih2 =>
    obtain ⟨P1, h1, q1⟩ := ih1
    obtain ⟨P2, h2, q2⟩ := ih2
    by_cases hg : goesL (ndAt t p) key
    · exact ⟨p :: P1, Way.inner hp hl hr (if_pos hg).symm h1, by simp; omega⟩
    · exact ⟨p :: P2, Way.inner hp hl hr (if_neg hg).symm h2, by simp; omega⟩
theorem Way.head {t : NL} {key : Int} {p : Nat} {P : List Nat} (h : Way t key p P) : ∃ P', P = p :: P' := by cases h <;> exact ⟨_, rfl⟩
theorem Way.lt {t : NL} {key : Int} {p : Nat} {P : List Nat} (h : Way t key p P) : p < t.length := by cases h <;> assumption
theorem way_step {t : NL} {key : Int} {p : Nat} {P : List Nat} (h : Way t key p P) : ((ndAt t p).l = -1 ∧ (ndAt t p).r = -1 ∧ P = [p]) ∨ ∃ (l r q : Nat) (P' : List Nat), (ndAt t p).l = (l : Int) ∧ (ndAt t p).r = (r : Int) ∧ q = (if goesL (ndAt t p) key then l else r) ∧ Way t key q P' ∧ P = p :: P' := by
  cases h with
  | leaf hp hl hr => exact Or.inl ⟨hl, hr, rfl⟩
  | inner hp hl hr hq h => exact Or.inr ⟨_, _, _, _, hl, hr, hq, h, rfl⟩
open Classical in
/-- Search's answer. -/
noncomputable def wayL (t : NL) (key : Int) : List Nat := if h : formE t = 0 ∧ ∃ P, Way t key 0 P then Classical.choose h.2 else []
theorem wayL_of {t : NL} {key : Int} {P : List Nat} (he : formE t = 0) (h : Way t key 0 P) : wayL t key = P := by
  have hx : formE t = 0 ∧ ∃ P, Way t key 0 P := ⟨he, P, h⟩
  unfold wayL
  rw [dif_pos hx]
  exact (Classical.choose_spec hx.2).det h
theorem wayL_bad {t : NL} {key : Int} (he : formE t ≠ 0) : wayL t key = [] := by unfold wayL; rw [dif_neg (fun q => he q.1)]

-- WALKS
/-- A row of places that is ours. -/
structure IRow (w0 x : World) (v : Value) (V : List Nat) : Prop where
  own : x.ownsRow w0.heap.size 3 1 v V.length (natC V)
  below : Below w0.heap.size w0 x
theorem IRow.size {w0 x : World} {v : Value} {V : List Nat} (h : IRow w0 x v V) : w0.heap.size ≤ x.heap.size := h.below.size
theorem IRow.quiet {w0 x y : World} {v : Value} {V : List Nat} (h : IRow w0 x v V) (hb : Below x.heap.size x y) : IRow w0 y v V := ⟨owns_below h.own hb, h.below.trans (hb.mono h.size)⟩
theorem IRow.alloc {w0 x : World} {v : Value} {V : List Nat} (h : IRow w0 x v V) (o : Obj) : IRow w0 (x.alloc o) v V := h.quiet (below_alloc _ _)
theorem IRow.grown {w0 x y : World} {v v' : Value} {V : List Nat} {q : Nat} {o : Obj} (h : IRow w0 x v V) (hg : (x.alloc o).grownBy y v.ownBlock) (ho : y.ownsRow w0.heap.size 3 1 v' (V.length + 1) (natC V ++ [.int .i64 (q : Int)])) : IRow w0 y v' (V ++ [q]) :=
  ⟨by rw [List.length_append, natC_snoc]; exact ho, Below.grown (h.below.alloc h.size o) hg (by rw [World.size_alloc]; have := h.size; omega) (fun k q => (owns_lt h.own k q).1)⟩
theorem IRow.len {w0 x : World} {v : Value} {V : List Nat} (h : IRow w0 x v V) : slLen v = V.length := by
  rcases Go.Joins.ownsRow_forms h.own with ⟨rfl, q⟩ | ⟨_, _, rfl⟩
  · rw [q]; rfl
  · rfl

end Go.Proofs.Ythdfpddijocfkaa
