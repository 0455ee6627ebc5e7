
/- Layer 17, pure: other weights, by places and by numbers from the root on. -/

import Derived.Test.YthdfpddijocfkaaWHeavy

namespace Go.Proofs.Ythdfpddijocfkaa

def swt (n : NdD) (a : Int) : NdD := ⟨n.key, n.inf, a, n.val, n.l, n.r⟩
theorem setW_self (T : NL) (i : Nat) (a : Int) (h : i < T.length) : ndAt (setW T i a) i = swt (ndAt T i) a := by
  unfold setW
  rw [ndAt_set _ _ _ h]
  rfl
theorem setW_ne (T : NL) (i j : Nat) (a : Int) (h : i ≠ j) : ndAt (setW T i a) j = ndAt T j := by
  unfold setW ndAt
  rw [List.getD_eq_getElem?_getD, List.getElem?_set_ne h, ← List.getD_eq_getElem?_getD]
/-- The weights of places set. -/
def wpN (t : NL) (M : List Nat) (W : List Int) : Nat → NL
  | 0 => t
  | m + 1 => setW (wpN t M W m) (M.getD m 0) (W.getD m 0)
theorem wpN_length (t : NL) (M : List Nat) (W : List Int) : ∀ m, (wpN t M W m).length = t.length
  | 0 => rfl
  | m + 1 => by simp only [wpN]; rw [setW_length, wpN_length t M W m]
theorem wp_out {t : NL} {M : List Nat} {W : List Int} {p : Nat} : ∀ {m : Nat}, (∀ k, k < m → M.getD k 0 ≠ p) → ndAt (wpN t M W m) p = ndAt t p
  | 0, _ => rfl
  | m + 1, h => by
    simp only [wpN]
    rw [setW_ne _ _ _ _ (h m (by omega)), wp_out (fun k hk => h k (by omega))]
theorem getD_ne {M : List Nat} (hN : M.Nodup) {i j : Nat} (hi : i < M.length) (hj : j < M.length) (h : i ≠ j) : M.getD i 0 ≠ M.getD j 0 := by
  rw [List.getD_eq_getElem?_getD, List.getD_eq_getElem?_getD, List.getElem?_eq_getElem hi, List.getElem?_eq_getElem hj]
  simp only [Option.getD_some]
  intro e
  exact h ((List.getElem_inj hN).1 e)
theorem wp_in {t : NL} {M : List Nat} {W : List Int} (hN : M.Nodup) (hM : ∀ x ∈ M, x < t.length) {k : Nat} : ∀ {m : Nat}, k < m → m ≤ M.length → ndAt (wpN t M W m) (M.getD k 0) = swt (ndAt t (M.getD k 0)) (W.getD k 0)
  | 0, h, _ => by omega
  | m + 1, h, hm => by
    simp only [wpN]
    have hx : ∀ i, i < M.length → M.getD i 0 < t.length := fun i hi => hM _ (by rw [List.getD_eq_getElem?_getD, List.getElem?_eq_getElem hi]; exact List.getElem_mem hi)
    by_cases e : k = m
    · subst e
      rw [setW_self _ _ _ (by rw [wpN_length]; exact hx k (by omega)), wp_out (fun i hi => getD_ne hN (by omega) (by omega) (by omega))]
    · rw [setW_ne _ _ _ _ (getD_ne hN (by omega) (by omega) (by omega)), wp_in hN hM (by omega) (by omega)]
theorem wt_out {N : NL} {W : List Int} {p : Nat} : ∀ {m : Nat}, (p < 2 ∨ 2 + m ≤ p) → ndAt (wtN N W m) p = ndAt N p
  | 0, _ => rfl
  | m + 1, h => by
    simp only [wtN]
    rw [setW_ne _ _ _ _ (by omega), wt_out (by omega)]
theorem wt_in {N : NL} {W : List Int} {k : Nat} : ∀ {m : Nat}, k < m → 2 + m ≤ N.length → ndAt (wtN N W m) (2 + k) = swt (ndAt N (2 + k)) (W.getD k 0)
  | 0, h, _ => by omega
  | m + 1, h, hm => by
    simp only [wtN]
    by_cases e : k = m
    · subst e
      rw [setW_self _ _ _ (by rw [wtN_length]; omega), wt_out (by omega)]
    · rw [setW_ne _ _ _ _ (by omega), wt_in (by omega) (by omega)]
/-- The places of the keys. -/
noncomputable def kpL (t : NL) : List Nat := if (rootR t).2 = 0 then theL t (rootR t).1.toNat else []
/-- The root of the keys, and how the table's order lies about it. -/
theorem kp_order {t : NL} (h : (rootR t).2 = 0) : ∃ (x l : Nat) (R : List Nat), rootR t = ((x : Int), 0) ∧ x < t.length ∧ kpL t = theL t x ∧ Tree t x (kpL t) ∧ theL t 0 = 0 :: l :: (kpL t ++ R) ∧ (kpL t).length = (keysA t).length := by
  have he := rootR_form h
  obtain ⟨-, hf⟩ := formE_ok he
  obtain ⟨x, b, hx, hxl, hb, hk, -, -⟩ := keys_lay h
  obtain ⟨L', hL', hl'⟩ := hb.tree
  obtain ⟨L, h1, -, h3⟩ := hf.tree
  have hth := theL_of h1
  have ek : kpL t = theL t x := by unfold kpL; rw [if_pos h, hx, Int.toNat_natCast]
  have hx2 := hx
  unfold rootR at hx
  rw [if_neg (by simp [he])] at hx
  split at hx
  · simp at hx
  · rename_i q1
    split at hx
    · simp at hx
    · split at hx
      · simp at hx
      · rename_i q2 q3
        split at hx
        · have e := congrArg Prod.fst hx
          simp only at e
          have k1 : leafB (ndAt t 0) = false := by
            unfold archB at q1
            cases q : leafB (ndAt t 0)
            · rfl
            · rw [q] at q1; simp at q1
          obtain ⟨l, r, hl, hr, hll, hrl⟩ := inner_lr hf hf.pos k1
          rw [hl, Int.toNat_natCast] at q3 e
          have k2 : leafB (ndAt t l) = false := by
            unfold archB at q3
            cases q : leafB (ndAt t l)
            · rfl
            · rw [q] at q3; simp at q3
          cases h1 with
          | leaf _ a _ => rw [a] at hl; omega
          | @inner _ l2 r2 L1 R1 _ a1 a2 t1 t2 =>
            have : l2 = l := by rw [a1] at hl; omega
            subst this
            cases t1 with
            | leaf _ a _ => rw [a] at e; omega
            | @inner _ l3 r3 L2 R2 _ a3 a4 t3 t4 =>
              have : l3 = x := by rw [a3] at e; omega
              subst this
              have e2 := (namL_tree t3).det hL'
              subst e2
              have e3 : theL t l3 = L2 := theL_of t3
              refine ⟨l3, l2, R2 ++ R1, hx2, hxl, ek, by rw [ek, e3]; exact t3, ?_, by rw [ek, e3, hk, BT.lay_length, hl']⟩
              rw [hth, ek, e3]
              simp
        · simp at hx
theorem swt_lr (n : NdD) (a : Int) : (swt n a).l = n.l ∧ (swt n a).r = n.r := ⟨rfl, rfl⟩
theorem tree_lr {t u : NL} (hl : u.length = t.length) (h : ∀ p, p < t.length → (ndAt u p).l = (ndAt t p).l ∧ (ndAt u p).r = (ndAt t p).r) {p : Nat} {L : List Nat} (hT : Tree t p L) : Tree u p L := by
  induction hT with
  | @leaf p hp h1 h2 => exact Tree.leaf (by omega) (by rw [(h p hp).1]; exact h1) (by rw [(h p hp).2]; exact h2)
  | @inner p l r L R hp h1 h2 _ _ ih1 ih2 => exact Tree.inner (by omega) (by rw [(h p hp).1]; exact h1) (by rw [(h p hp).2]; exact h2) ih1 ih2
theorem part_nd (t : NL) (L : List Nat) (i : Nat) (h : i < L.length) : ndAt (partL t L) i = renD (atN L L.length) (ndAt t (L.getD i 0)) := by
  unfold partL ndAt
  rw [List.getD_eq_getElem?_getD, List.getElem?_map, List.getElem?_eq_getElem h]
  simp [List.getD_eq_getElem?_getD, List.getElem?_eq_getElem h]
theorem ren_swt (f : Nat → Int) (n : NdD) (a : Int) : renD f (swt n a) = swt (renD f n) a := by
  by_cases h : n.l = -1
  · unfold renD swt
    simp [h]
  · unfold renD swt
    simp [h]
theorem heavy_norm {t : NL} (h : (rootR t).2 = 0) {W : List Int} (hl : W.length = (kpL t).length) (hw : ∀ k, k < W.length → 0 ≤ W.getD k 0 ∧ W.getD k 0 ≤ 1000000) : formE (wpN t (kpL t) W W.length) = 0 ∧ normL (wpN t (kpL t) W W.length) = wtN (normL t) W W.length := by
  have he := rootR_form h
  obtain ⟨hbig, hf⟩ := formE_ok he
  obtain ⟨x, l, R, -, -, -, hT, hL, -⟩ := kp_order h
  obtain ⟨hT0, hN0, hlen⟩ := theL_form hf
  have hN := hN0
  rw [hL] at hN
  have hNM : (kpL t).Nodup := (List.nodup_append.1 (List.nodup_cons.1 (List.nodup_cons.1 hN).2).2).1
  have hMa : ∀ z ∈ kpL t, z < t.length := hT.all
  have hlr : ∀ p, p < t.length → ndAt (wpN t (kpL t) W W.length) p = ndAt t p ∨ ∃ k, k < W.length ∧ (kpL t).getD k 0 = p ∧ ndAt (wpN t (kpL t) W W.length) p = swt (ndAt t p) (W.getD k 0) := by
    intro p _
    by_cases q : ∃ k, k < W.length ∧ (kpL t).getD k 0 = p
    · obtain ⟨k, hk, rfl⟩ := q
      exact Or.inr ⟨k, hk, rfl, wp_in hNM hMa hk (by omega)⟩
    · exact Or.inl (wp_out (fun k hk e => q ⟨k, hk, e⟩))
  have hT' : Tree (wpN t (kpL t) W W.length) 0 (theL t 0) := tree_lr (wpN_length _ _ _ _) (fun p hp => by
    rcases hlr p hp with e | ⟨k, _, _, e⟩
    · rw [e]; exact ⟨rfl, rfl⟩
    · rw [e]; exact ⟨rfl, rfl⟩) hT0
  have hf' : InForm (wpN t (kpL t) W W.length) := by
    refine form_of_tree (fun i hi => ?_) hT' hN0 (by rw [wpN_length]; exact hlen)
    rw [wpN_length] at hi ⊢
    have hn := hf.good.node i hi
    rcases hlr i hi with e | ⟨k, hk, _, e⟩
    · rw [e]; exact hn
    · rw [e]; exact ⟨hn.1, hn.2.1, hw k hk⟩
  have he' : formE (wpN t (kpL t) W W.length) = 0 := formE_of (by rw [wpN_length]; exact hbig) hf'
  refine ⟨he', ?_⟩
  rw [normL_ok he', theL_of hT', normL_ok he]
  have hLl : (theL t 0).length = 2 + ((kpL t).length + R.length) := by rw [hL]; simp; omega
  have g0 : ∀ k, k < (kpL t).length → (theL t 0).getD (2 + k) 0 = (kpL t).getD k 0 := fun k hk => by
    rw [hL, List.getD_eq_getElem?_getD, List.getD_eq_getElem?_getD, show 2 + k = k + 1 + 1 by omega, List.getElem?_cons_succ, List.getElem?_cons_succ, List.getElem?_append_left hk]
  refine nl_ext' (by rw [partL_length, wtN_length, partL_length]) fun i hi => ?_
  rw [partL_length] at hi
  rw [part_nd _ _ i hi]
  by_cases c : 2 ≤ i ∧ i < 2 + W.length
  · obtain ⟨k, rfl⟩ : ∃ k, i = 2 + k := ⟨i - 2, by omega⟩
    rw [wt_in (by omega) (by rw [partL_length]; omega), part_nd _ _ _ hi, g0 k (by omega), wp_in hNM hMa (by omega) (by omega), ren_swt]
  · rw [wt_out (by omega), part_nd _ _ _ hi, wp_out]
    intro k hk e
    rw [← g0 k (by omega)] at e
    exact getD_ne hN0 (by omega) hi (by omega) e
end Go.Proofs.Ythdfpddijocfkaa
