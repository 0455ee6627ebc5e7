
/- Layer 17: Sums, Violations, check, First; Bound of 7. -/

import Derived.Test.YthdfpddijocfkaaWReds

import Derived.Test.YthdfpddijocfkaaTSrch

namespace Go.Proofs.Ythdfpddijocfkaa

open Go.RowKit

attribute [local go_sem ↓] Go.wp_at_zero Go.wp_at_succ

/-- The tree of the keys; none: an empty map, or no table. -/
def Keyed (t : NL) : Option BT → Prop
  | none => keysA t = []
  | some B => keyE t = 0 ∧ keysA t = B.lay 0 ∧ B.ok ∧ B.size ≤ 100000
theorem keyed_of (t : NL) : ∃ o, Keyed t o := by
  by_cases h : (rootR t).2 = 0
  · obtain ⟨x, b, -, -, -, h4, h5, h6⟩ := keys_lay h
    exact ⟨some b, by unfold keyE; rw [if_neg (by omega), h], h4, h5, h6⟩
  · exact ⟨none, by show keysA t = []; unfold keysA; rw [if_neg h]⟩
theorem keyed_bad {t : NL} {o : Option BT} (h : Keyed t o) (he : keyE t ≠ 0) : o = none := by
  cases o with
  | none => rfl
  | some B => exact absurd h.1 he
def sumsO : Option BT → List Int
  | none => []
  | some B => sumsB B
/-- The overs among the first m nodes, each as often as it is too heavy. -/
def ovN (K : NL) : Nat → Int
  | 0 => 0
  | m + 1 => ovN K m + max ((ndAt K m).wt - 1) 0
theorem ovN_le {K : NL} (h : ∀ i, i < K.length → NodeOk (ndAt K i) K.length) : ∀ m, m ≤ K.length → 0 ≤ ovN K m ∧ ovN K m ≤ 1000000 * (m : Int)
  | 0, _ => by simp [ovN]
  | m + 1, hm => by
    have h1 := ovN_le h m (by omega)
    have h2 := h m (by omega)
    have w1 := h2.2.2.1
    have w2 := h2.2.2.2
    simp only [ovN]
    omega
def vioO : Option BT → Int
  | none => 0
  | some B => (redsB B).length + ovN (B.lay 0) (B.lay 0).length
theorem keyE_form {t : NL} (h : keyE t = 0) : formE t = 0 := by
  unfold keyE rootR at h
  by_cases q : formE t = 0
  · exact q
  · rw [if_pos q] at h
    simp only at h
    split at h
    · rename_i e
      unfold formE at e
      split at e
      · omega
      · split at e <;> omega
    · exact h
/-- The first violation among places, below a weight. -/
def fstL (t : NL) : Int → List Nat → Int
  | _, [] => -1
  | a, x :: P => if faultQ a (ndAt t x).wt then (x : Int) else fstL t (ndAt t x).wt P
noncomputable def firstA (t : NL) (key : Int) : Int := if keyE t = 0 then fstL t 1 (wayL t key) else 0
theorem Way.all {t : NL} {key : Int} {p : Nat} {P : List Nat} (h : Way t key p P) : ∀ x ∈ P, x < t.length := by
  induction h with
  | leaf hp => intro x hx; simp at hx; subst hx; exact hp
  | inner hp _ _ _ _ ih => intro x hx; simp at hx; rcases hx with rfl | hx; exact hp; exact ih x hx
end Go.Proofs.Ythdfpddijocfkaa
