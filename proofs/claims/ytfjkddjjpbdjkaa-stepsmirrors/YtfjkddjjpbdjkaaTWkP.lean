
/- Layer 16, pure: what searches, parents, leaves, heights and pairs of a table in form say of one another. -/

import Derived.Test.YtfjkddjjpbdjkaaTOrdd

import Derived.Test.YtfjkddjjpbdjkaaTHgP

namespace Go.Proofs.Ytfjkddjjpbdjkaa

theorem leaves_count {t : NL} (hf : InForm t) (he : formE t = 0) : (leafL t).length = cntB (lfB t) t.length ∧ t.length + 1 = 2 * (leafL t).length := by
  obtain ⟨hT, hN, hl⟩ := theL_form hf
  have F : leafL t = lvL t (theL t 0) := by unfold leafL; rw [if_pos he]
  rw [F]
  have := tree_leaves hT
  exact ⟨nodup_count _ hN hT.all hl, by omega⟩

theorem pr_append (t : NL) : ∀ a b, prL t (a ++ b) = prL t a ++ prL t b
  | [], b => rfl
  | x :: a, b => by
    have ih := pr_append t a b
    by_cases h : (ndAt t x).inf = 0 <;> simp [prL, h, ih]
/-- Where a tree is ordered its pairs rise, and a search for each ends at it. -/
theorem ord_pairs {t : NL} {p : Nat} {S : Int → Prop} (h : OrdAt t p S) : ∀ {L : List Nat}, Tree t p L → (prL t (lvL t L)).Pairwise (fun a b => a.1 < b.1) ∧
    ∀ x ∈ prL t (lvL t L), S x.1 ∧ ∃ (q : Nat) (P : List Nat), Way t x.1 p (P ++ [q]) ∧ q < t.length ∧ (ndAt t q).inf = 0 ∧ (ndAt t q).key = x.1 ∧ (ndAt t q).val = x.2 := by
  induction h with
  | @leaf p S hp hl hr h =>
    intro L hT
    cases hT with
    | inner _ hl' => omega
    | leaf =>
      have e : lvL t [p] = [p] := by simp [lvL, lfB, hl]
      rw [e]
      by_cases hi : (ndAt t p).inf = 0
      · simp only [prL, if_pos hi]
        refine ⟨by simp, fun x hx => ?_⟩
        simp at hx
        subst hx
        exact ⟨h hi, p, [], Way.leaf hp hl hr, hp, hi, rfl, rfl⟩
      · simp only [prL, if_neg hi]
        exact ⟨by simp, fun x hx => by cases hx⟩
  | @inner p l r S hp hl hr h1 h2 ih1 ih2 =>
    intro L hT
    cases hT with
    | leaf _ hl' => omega
    | @inner _ l' r' L1 L2 _ hl' hr' t1 t2 =>
      obtain rfl := Int.ofNat.inj (hl.symm.trans hl')
      obtain rfl := Int.ofNat.inj (hr.symm.trans hr')
      have e : lvL t (p :: (L1 ++ L2)) = lvL t L1 ++ lvL t L2 := by
        rw [← lv_append]
        unfold lvL
        rw [List.filter_cons_of_neg (by simp [lfB]; omega)]
      obtain ⟨a1, a2⟩ := ih1 t1
      obtain ⟨b1, b2⟩ := ih2 t2
      rw [e, pr_append]
      refine ⟨List.pairwise_append.2 ⟨a1, b1, fun x hx y hy => ?_⟩, fun x hx => ?_⟩
      · have g1 := (a2 x hx).1.2
        have g2 := (b2 y hy).1.2
        unfold goesL at g1 g2
        omega
      · rcases List.mem_append.1 hx with hx | hx
        · obtain ⟨⟨s1, s2⟩, q, P, hW, c⟩ := a2 x hx
          exact ⟨s1, q, p :: P, Way.inner hp hl hr (if_pos s2).symm hW, c⟩
        · obtain ⟨⟨s1, s2⟩, q, P, hW, c⟩ := b2 x hx
          exact ⟨s1, q, p :: P, Way.inner hp hl hr (if_neg s2).symm hW, c⟩
theorem pairs_rise {t : NL} (hf : InForm t) (he : formE t = 0) (ho : ordP t) : ∀ i, i < (pairL t).length → (0 < i → keyAt (pairL t) (i - 1) < keyAt (pairL t) i) ∧
    ∃ (q : Nat) (P : List Nat), wayL t (keyAt (pairL t) i) = P ++ [q] ∧ q < t.length ∧ (ndAt t q).inf = 0 ∧ (ndAt t q).key = keyAt (pairL t) i ∧ (ndAt t q).val = valAt (pairL t) i := by
  obtain ⟨hT, -, -⟩ := theL_form hf
  have F : pairL t = prL t (lvL t (theL t 0)) := by unfold pairL leafL; rw [if_pos he, if_pos he]
  obtain ⟨a, b⟩ := ord_pairs ho hT
  rw [← F] at a b
  generalize pairL t = X at a b
  intro i hi
  have hk : ∀ j, (h : j < X.length) → keyAt X j = X[j].1 ∧ valAt X j = X[j].2 := fun j h => by simp [keyAt, valAt, List.getD_eq_getElem?_getD, List.getElem?_eq_getElem h]
  refine ⟨fun h0 => ?_, ?_⟩
  · rw [(hk i hi).1, (hk (i - 1) (by omega)).1]
    exact List.pairwise_iff_getElem.1 a (i - 1) i (by omega) hi (by omega)
  · obtain ⟨-, q, P, hW, c1, c2, c3, c4⟩ := b X[i] (List.getElem_mem hi)
    rw [(hk i hi).1, (hk i hi).2]
    exact ⟨q, P, wayL_of he hW, c1, c2, c3, c4⟩
end Go.Proofs.Ytfjkddjjpbdjkaa
