
/- Layer 16, pure: searches, parents, leaves, heights of a table in form. -/

import Derived.Test.YthdfpddijocfkaaTHgt

import Derived.Test.YthdfpddijocfkaaTUpC

import Derived.Test.YthdfpddijocfkaaTLeav

namespace Go.Proofs.Ythdfpddijocfkaa

theorem way_chain {t : NL} {key : Int} {p : Nat} {P : List Nat} (h : Way t key p P) : ∀ i, i < P.length → P.getD i 0 < t.length ∧ (i + 1 < P.length → Child t (P.getD i 0) (P.getD (i + 1) 0) ∧ (ndAt t (P.getD i 0)).l ≠ -1) ∧ (i + 1 = P.length → (ndAt t (P.getD i 0)).l = -1) := by
  induction h with
  | leaf hp hl hr => intro i hi; simp at hi; subst hi; simp [hp, hl]
  | @inner p l r q P hp hl hr hq h ih =>
    obtain ⟨P', rfl⟩ := h.head
    intro i hi
    cases i with
    | zero =>
      refine ⟨by simpa using hp, fun _ => ⟨?_, by simp only [List.getD_cons_zero]; omega⟩, fun h => by simp at h⟩
      show Child t p q
      subst hq
      by_cases g : goesL (ndAt t p) key
      · rw [if_pos g]; exact Or.inl hl
      · rw [if_neg g]; exact Or.inr hr
    | succ i =>
      have := ih i (by simpa using hi)
      simpa using this
theorem uN_child {t : NL} (hg : Good t) {p c : Nat} (hp : p < t.length) (h : Child t p c) : uN t c = p := by
  unfold uN
  rw [up_child hg hp h t.length hp (Nat.le_refl _)]
  simp

theorem lv_append (t : NL) (a b : List Nat) : lvL t (a ++ b) = lvL t a ++ lvL t b := by simp [lvL]
theorem tree_leaves {t : NL} {p : Nat} {L : List Nat} (h : Tree t p L) : L.length + 1 = 2 * (lvL t L).length := by
  induction h with
  | leaf hp hl hr => simp [lvL, lfB, hl]
  | @inner p l r L R hp hl hr _ _ ih1 ih2 =>
    have e : lvL t (p :: (L ++ R)) = lvL t L ++ lvL t R := by
      rw [← lv_append]
      unfold lvL
      rw [List.filter_cons_of_neg (by simp [lfB]; omega)]
    rw [e]
    simp only [List.length_cons, List.length_append]
    omega
/-- In a tree's order a parent stands ahead of its child. -/
theorem tree_before {t : NL} {p : Nat} {L : List Nat} (h : Tree t p L) : ∀ c ∈ L, c ≠ p → ∃ A B x, L = A ++ c :: B ∧ x ∈ A ∧ Child t x c := by
  induction h with
  | leaf hp hl hr => intro c hc hn; simp at hc; exact absurd hc hn
  | @inner p l r L R hp hl hr h1 h2 ih1 ih2 =>
    intro c hc hn
    simp only [List.mem_cons, List.mem_append] at hc
    rcases hc with hc | hc | hc
    · exact absurd hc hn
    · by_cases e : c = l
      · subst e
        obtain ⟨L', rfl⟩ : ∃ L', L = c :: L' := by cases h1 <;> exact ⟨_, rfl⟩
        exact ⟨[p], L' ++ R, p, by simp, by simp, Or.inl hl⟩
      · obtain ⟨A, B, x, q1, q2, q3⟩ := ih1 c hc e
        exact ⟨p :: A, B ++ R, x, by rw [q1]; simp, List.mem_cons_of_mem _ q2, q3⟩
    · by_cases e : c = r
      · subst e
        obtain ⟨R', rfl⟩ : ∃ R', R = c :: R' := by cases h2 <;> exact ⟨_, rfl⟩
        exact ⟨p :: L, R', p, by simp, by simp, Or.inr hr⟩
      · obtain ⟨A, B, x, q1, q2, q3⟩ := ih2 c hc e
        exact ⟨p :: (L ++ A), B, x, by rw [q1]; simp, by simp [q2], q3⟩
theorem dp_stable (u : Nat → Nat) (T : List Nat) (x : Nat) : ∀ (k j : Nat), j ≤ k → (∀ i, j ≤ i → i < k → T.getD i 0 ≠ x) → dpN u T k x = dpN u T j x
  | 0, j, h, _ => by obtain rfl : j = 0 := by omega
                     rfl
  | k + 1, j, h, hx => by
    by_cases e : j = k + 1
    · rw [e]
    · rw [show dpN u T (k + 1) x = dpN u T k x by
        show (if x = T.getD k 0 then _ else _) = _
        rw [if_neg (fun q => hx k (by omega) (by omega) q.symm)]]
      exact dp_stable u T x k j (by omega) (fun i h1 h2 => hx i h1 (by omega))
theorem mx_mono (u : Nat → Nat) (T : List Nat) : ∀ (k j : Nat), j ≤ k → mxN u T j ≤ mxN u T k
  | 0, j, h => by obtain rfl : j = 0 := by omega
                  exact Int.le_refl _
  | k + 1, j, h => by
    by_cases e : j = k + 1
    · rw [e]; exact Int.le_refl _
    · have := mx_mono u T k j (by omega)
      show _ ≤ max _ _
      omega
theorem mx_bound (u : Nat → Nat) (T : List Nat) : ∀ j : Nat, 0 ≤ mxN u T j ∧ mxN u T j ≤ j
  | 0 => by simp [mxN]
  | j + 1 => by
    have h1 := mx_bound u T j
    have h2 := dp_bound u T j (u (T.getD j 0))
    show 0 ≤ max _ _ ∧ max _ _ ≤ _
    omega
theorem getD_right (A B : List Nat) (i : Nat) (h : A.length ≤ i) : (A ++ B).getD i 0 = B.getD (i - A.length) 0 := by
  simp only [List.getD_eq_getElem?_getD, List.getElem?_append_right h]
theorem getD_append_mid (A B : List Nat) (c : Nat) : (A ++ c :: B).getD A.length 0 = c := by simp
theorem getD_in {L : List Nat} {i : Nat} (h : i < L.length) : L.getD i 0 ∈ L := by
  rw [List.getD_eq_getElem?_getD, List.getElem?_eq_getElem h]; exact List.getElem_mem h
/-- A child lies one deeper, and no deeper than the height. -/
theorem dp_child {t : NL} (hg : Good t) {T : List Nat} (hT : Tree t 0 (0 :: T)) (hN : (0 :: T).Nodup) {p c : Nat} (hp : p < t.length) (h : Child t p c) (hc : c ∈ 0 :: T) :
    dpN (uN t) T T.length c = dpN (uN t) T T.length p + 1 ∧ dpN (uN t) T T.length c ≤ mxN (uN t) T T.length := by
  obtain ⟨c1, c2⟩ := child_pos hg hp h
  obtain ⟨A, B, x, q1, q2, q3⟩ := tree_before hT c hc (by omega)
  have hx : x = p := by
    have h1 : x < t.length := hT.all x (by rw [q1]; simp [q2])
    exact cnt_uniq (hg.one c c1 c2) h1 hp q3 h
  subst hx
  cases A with
  | nil => cases q2
  | cons a A =>
    rw [List.cons_append] at q1
    injection q1 with e1 e2
    subst e1
    have hN' := hN
    rw [e2, List.nodup_cons] at hN'
    obtain ⟨n1, n2⟩ := hN'
    have hl : T.length = A.length + (B.length + 1) := by rw [e2]; simp
    have gc : T.getD A.length 0 = c := by rw [e2]; exact getD_append_mid _ _ _
    have far : ∀ y, y ∈ 0 :: A → ∀ i, A.length ≤ i → i < T.length → T.getD i 0 ≠ y := by
      intro y hy i h1 h2 q
      have hm : T.getD i 0 ∈ c :: B := by
        rw [e2, getD_right _ _ _ h1]
        exact getD_in (by simp; omega)
      rw [q] at hm
      simp only [List.mem_cons] at hy
      rcases hy with rfl | hy
      · exact n1 (List.mem_append_right _ hm)
      · exact (List.nodup_append.1 n2).2.2 y hy y hm rfl
    have farc : ∀ i, A.length + 1 ≤ i → i < T.length → T.getD i 0 ≠ c := by
      intro i h1 h2 q
      have hm : T.getD i 0 ∈ B := by
        rw [e2, getD_right _ _ _ (by omega), show i - A.length = (i - A.length - 1) + 1 by omega, List.getD_cons_succ]
        exact getD_in (by omega)
      rw [q] at hm
      exact (List.nodup_cons.1 (List.nodup_append.1 n2).2.1).1 hm
    have s1 := dp_stable (uN t) T x T.length A.length (by omega) (far x q2)
    have s2 := dp_stable (uN t) T c T.length (A.length + 1) (by omega) farc
    have hu := uN_child hg hp h
    have s3 : dpN (uN t) T (A.length + 1) c = dpN (uN t) T A.length x + 1 := by
      show (if c = T.getD A.length 0 then _ else _) = _
      rw [if_pos gc.symm, gc, hu]
    refine ⟨by omega, ?_⟩
    have m1 := mx_mono (uN t) T T.length (A.length + 1) (by omega)
    have m2 : dpN (uN t) T A.length x + 1 ≤ mxN (uN t) T (A.length + 1) := by
      show _ ≤ max _ _
      rw [gc, hu]
      omega
    omega
theorem way_deep {t : NL} (hg : Good t) {T : List Nat} (hT : Tree t 0 (0 :: T)) (hN : (0 :: T).Nodup) (hall : ∀ c, c < t.length → c ∈ 0 :: T) {key : Int} {P : List Nat} (hP : Way t key 0 P) :
    ∀ i, i < P.length → dpN (uN t) T T.length (P.getD i 0) = (i : Int) ∧ (i : Int) ≤ mxN (uN t) T T.length
  | 0, h => by
    obtain ⟨P', rfl⟩ := hP.head
    have h0 := dp_stable (uN t) T 0 T.length 0 (by omega) (fun i _ h2 q => (List.nodup_cons.1 hN).1 (q ▸ getD_in h2))
    exact ⟨h0, (mx_bound _ _ _).1⟩
  | i + 1, h => by
    have ih := way_deep hg hT hN hall hP i (by omega)
    obtain ⟨a1, a2, -⟩ := way_chain hP i (by omega)
    have b1 := (way_chain hP (i + 1) h).1
    have := dp_child hg hT hN a1 (a2 h).1 (hall _ b1)
    omega
/-- A search is no longer than the height, which is less than the nodes. -/
theorem way_height {t : NL} (hf : InForm t) (he : formE t = 0) (key : Int) : 0 < (wayL t key).length ∧ ((wayL t key).length : Int) - 1 ≤ hgtA t ∧ hgtA t < t.length := by
  obtain ⟨T, hT, hX, hl, -⟩ := tail_facts hf
  obtain ⟨hT', hN, hlen⟩ := theL_form hf
  rw [hX] at hT' hN hlen
  obtain ⟨P, hP, -⟩ := way_of key hT
  have F : hgtA t = mxN (uN t) T T.length := by unfold hgtA; rw [if_pos he, hX]; rfl
  rw [wayL_of he hP, F]
  have hpos : 0 < P.length := by obtain ⟨P', rfl⟩ := hP.head; simp
  have := (way_deep hf.good hT hN (all_in hN hT.all hlen) hP (P.length - 1) (by omega)).2
  have := mx_bound (uN t) T T.length
  omega

end Go.Proofs.Ythdfpddijocfkaa
