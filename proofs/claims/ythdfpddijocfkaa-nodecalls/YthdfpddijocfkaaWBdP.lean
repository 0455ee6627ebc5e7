
/- Layer 17, pure: a sound table without a violation. -/

import Derived.Test.YthdfpddijocfkaaWLvs

import Derived.Test.YthdfpddijocfkaaWBnd

namespace Go.Proofs.Ythdfpddijocfkaa

theorem minN_le (L : List Int) : ∀ m j, j ≤ m → minN L m ≤ L.getD j 0
  | 0, j, h => by obtain rfl : j = 0 := by omega
                  exact Int.le_refl _
  | m + 1, j, h => by
    show min _ _ ≤ _
    by_cases e : j = m + 1
    · subst e; omega
    · have := minN_le L m j (by omega)
      omega
theorem le_maxN (L : List Int) : ∀ m j, j ≤ m → L.getD j 0 ≤ maxN L m
  | 0, j, h => by obtain rfl : j = 0 := by omega
                  exact Int.le_refl _
  | m + 1, j, h => by
    show _ ≤ max _ _
    by_cases e : j = m + 1
    · subst e; omega
    · have := le_maxN L m j (by omega)
      omega
theorem even_all {L : List Int} (h : evB L = true) (hl : 0 < L.length) : ∀ x ∈ L, x = evS L := by
  unfold evB at h
  rw [if_neg (by omega)] at h
  have h := of_decide_eq_true h
  intro x hx
  obtain ⟨i, hi, rfl⟩ := List.getElem_of_mem hx
  have e : L[i] = L.getD i 0 := by rw [List.getD_eq_getElem?_getD, List.getElem?_eq_getElem hi]; rfl
  have a1 := minN_le L (L.length - 1) i (by omega)
  have a2 := le_maxN L (L.length - 1) i (by omega)
  have b1 := minN_le L (L.length - 1) 0 (by omega)
  have b2 := le_maxN L (L.length - 1) 0 (by omega)
  unfold evS
  rw [if_neg (by omega), if_pos h, e]
  omega
theorem bitAux_ge : ∀ (f h x : Nat), 1 ≤ h → h ≤ f → 2 ^ (h - 1) ≤ x → h ≤ Lib.bitLenAux f x
  | 0, h, x, h1, h2, _ => by omega
  | f + 1, h, x, h1, h2, h3 => by
    have hp : 0 < 2 ^ (h - 1) := Nat.two_pow_pos _
    simp only [Lib.bitLenAux]
    rw [if_neg (by omega)]
    by_cases e : h = 1
    · omega
    · have h4 : 2 ^ (h - 1 - 1) ≤ x / 2 := by
        have : 2 ^ (h - 1) = 2 ^ (h - 1 - 1) * 2 := by rw [← Nat.pow_succ]; congr 1; omega
        omega
      have := bitAux_ge f (h - 1) (x / 2) (by omega) (by omega) h4
      omega
theorem lay_inj {A B : BT} (h : A.lay 0 = B.lay 0) : A = B := by
  have h1 := lay_abs0 A
  rw [h] at h1
  exact h1.det (lay_abs0 B)
theorem lay_ne (B : BT) : B.lay 0 ≠ [] := by
  intro q
  have h := B.lay_length 0
  rw [q] at h
  have := B.size_pos
  simp at h
  omega
theorem sums_pos : ∀ (b : BT) (a : Int), 0 < (inh sumF sumO b a).length
  | .leaf d, a => by simp [inh, sumO]
  | .node d l r, a => by
    have := sums_pos l (sumF d a)
    simp only [inh, List.length_append]
    omega
theorem ov_each {K : NL} : ∀ m, ovN K m = 0 → ∀ i, i < m → (ndAt K i).wt ≤ 1
  | 0, _, i, hi => by omega
  | m + 1, h, i, hi => by
    have h' : ovN K m + max ((ndAt K m).wt - 1) 0 = 0 := h
    have h0 : ∀ m, 0 ≤ ovN K m := fun m => by
      induction m with
      | zero => exact Int.le_refl _
      | succ m ih => show 0 ≤ ovN K m + max ((ndAt K m).wt - 1) 0; omega
    have := h0 m
    by_cases e : i = m
    · subst e; omega
    · exact ov_each m (by omega) i (by omega)
theorem light_each {K : NL} : ∀ m, lightN K m = false → ∀ i, i < m → lightB (ndAt K i) = false
  | 0, _, i, hi => by omega
  | m + 1, h, i, hi => by
    have h' : (lightN K m || lightB (ndAt K m)) = false := h
    rw [Bool.or_eq_false_iff] at h'
    by_cases e : i = m
    · subst e; exact h'.2
    · exact light_each m h'.1 i (by omega)
/-- The leaves of the keys. -/
theorem kv_crown {t : NL} {x l r s : Nat} (hC : Crown t x l r s) : kvL t (theL t 0) = lvL t (kpL t) := by
  have no : ∀ y, (ndAt t y).inf = 1 → kvB t y = false := fun y hy => by simp [kvB, hy]
  have f1 : ∀ y ∈ kpL t, kvB t y = lfB t y := fun y hy => by
    have := hC.keys y hy
    rcases hC.tree.each y hy with ⟨h1, h2⟩ | ⟨a, b, h1, -⟩
    · simp [kvB, lfB, this, h1, leafB_yes h1 h2]
    · have : (ndAt t y).l ≠ -1 := by omega
      simp [kvB, lfB, this, leafB_no this]
  unfold kvL lvL
  rw [hC.whole, List.filter_cons_of_neg (by rw [no _ hC.top.2.2.1]; simp), List.filter_cons_of_neg (by rw [no _ hC.arch.2.2.1]; simp), List.filter_append, List.filter_cons_of_neg (by rw [no _ (end_parts hC.ends.2).1]; simp), List.filter_cons_of_neg (by rw [no _ (end_parts hC.ends.1).1]; simp), List.filter_nil, List.append_nil]
  exact List.filter_congr f1
theorem kv_bare {t : NL} (h : (rootR t).2 = 4) : kvL t (theL t 0) = [] := by
  obtain ⟨l, r, he, hw, a1, a2, a3, -, -, -, a5, a6⟩ := bare_of h
  have no : ∀ y, (ndAt t y).inf = 1 → kvB t y = false := fun y hy => by simp [kvB, hy]
  rw [hw]
  unfold kvL
  rw [List.filter_cons_of_neg (by rw [no _ a3]; simp), List.filter_cons_of_neg (by rw [no _ (end_parts a5).1]; simp), List.filter_cons_of_neg (by rw [no _ (end_parts a6).1]; simp), List.filter_nil]
theorem keyE_cases {t : NL} (he : keyE t = 0) : (rootR t).2 = 0 ∨ (rootR t).2 = 4 := by
  unfold keyE at he
  by_cases q : (rootR t).2 = 4
  · exact Or.inr q
  · rw [if_neg q] at he; exact Or.inl he
/-- The tree of the keys of a table that has them. -/
theorem keys_tree {t : NL} {k : Option BT} (h : (rootR t).2 = 0) (hk : Keyed t k) : ∃ (x l r s : Nat) (B : BT), Crown t x l r s ∧ k = some B ∧ Abs (namL t) x B ∧ keysA t = B.lay 0 ∧ B.ok ∧ B.size ≤ 100000 ∧ hgtA t = B.dep + 2 ∧ (kvL t (theL t 0)).length = B.lvs := by
  obtain ⟨x, l, r, s, hC⟩ := crown_of h
  obtain ⟨x', B, hx', -, hB, hK, hok, hsz⟩ := keys_lay h
  have ex : x' = x := by have := hC.root; rw [hx'] at this; injection this with h1 _; omega
  subst ex
  have ek : k = some B := by
    cases k with
    | none => exact absurd (hK.symm.trans hk) (lay_ne B)
    | some B' => exact congrArg some (lay_inj (hk.2.1.symm.trans hK))
  refine ⟨x', l, r, s, B, hC, ek, hB, hK, hok, hsz, hgt_crown hC hB, ?_⟩
  rw [kv_crown hC]
  have h1 := tree_leaves hC.tree
  obtain ⟨x2, l2, R2, -, -, -, -, -, hl⟩ := kp_order h
  rw [hK, BT.lay_length] at hl
  have := B.lvs_size
  omega
theorem keys_none {t : NL} {k : Option BT} (h : (rootR t).2 = 4) (hk : Keyed t k) : k = none ∧ keysA t = [] := by
  have e : keysA t = [] := by unfold keysA; rw [if_neg (by omega)]
  refine ⟨?_, e⟩
  cases k with
  | none => rfl
  | some B => exact absurd (hk.2.1.symm.trans e) (lay_ne B)
theorem fit_of {t : NL} (he : keyE t = 0) (h : hgtA t ≤ bndA (((keysA t).length + 1) / 2 : Nat)) : fitA t = true := by
  unfold fitA
  rw [if_pos he]
  exact decide_eq_true h
theorem bound_facts {t : NL} {k : Option BT} (he : keyE t = 0) (hk : Keyed t k) (hs : sndB t k = true) : evB (sumsO k) = true ∧ 0 ≤ vioO k ∧ (vioO k = 0 → fitA t = true ∧ ((kvL t (theL t 0) = [] ∧ evS (sumsO k) = 0 ∧ hgtA t = 1) ∨ ∃ h : Nat, evS (sumsO k) = (h : Int) ∧ 1 ≤ h ∧ h ≤ 60 ∧ 2 ^ (h - 1) ≤ (kvL t (theL t 0)).length ∧ 1 ≤ (kvL t (theL t 0)).length ∧ hgtA t ≤ 2 * (h : Int))) := by
  have h0 : 0 ≤ vioO k := by
    obtain ⟨-, h2, -, h4⟩ := keys_ok hk
    have := (ovN_le h2 (keysA t).length (Nat.le_refl _)).1
    omega
  rcases keyE_cases he with h | h
  · obtain ⟨x, l, r, s, B, hC, rfl, hB, hK, hok, hsz, hg, hlv⟩ := keys_tree h hk
    have hpos := B.size_pos
    unfold sndB at hs
    rw [if_neg (by simp [he]), if_neg (by rw [hK, BT.lay_length]; omega), hK, Bool.and_eq_true, Bool.and_eq_true] at hs
    obtain ⟨h1, h2, h3⟩ := hs
    have h2 : (ndAt (B.lay 0) 0).wt = 1 := by simpa using h2
    have h3 : lightN (B.lay 0) (B.lay 0).length = false := by simpa using h3
    refine ⟨h1, h0, fun hv => ?_⟩
    have hv' : ((redsB B).length : Int) + ovN (B.lay 0) (B.lay 0).length = 0 := hv
    have ho0 : 0 ≤ ovN (B.lay 0) (B.lay 0).length := by
      obtain ⟨-, q2, -, -⟩ := keys_ok hk
      rw [hK] at q2
      exact (ovN_le q2 _ (Nat.le_refl _)).1
    have hov := ov_each _ (show ovN (B.lay 0) (B.lay 0).length = 0 by omega)
    have hred : redsB B = [] := List.length_eq_zero_iff.1 (by omega)
    have hlt := light_each _ h3
    rw [BT.lay_length] at hov hlt
    have heach : B.each okW := each_laid okW B 0 (laid_self B) fun j hj => by
      rw [Nat.zero_add]
      have q := (laid_each B hok (laid_self B) j hj).1
      rw [Nat.zero_add] at q
      refine ⟨q.2.1, hov j hj, fun hlf => ?_⟩
      have := hlt j hj
      intro w0
      have w0' : (ndAt (B.lay 0) j).wt = 0 := w0
      unfold lightB at this
      rw [rleafB_yes (of_decide_eq_true hlf), w0'] at this
      simp at this
    have hall := even_all h1 (sums_pos B 0)
    obtain ⟨hh, hc, hT⟩ := chr_of B 1 0 (evS (sumsO (some B))) heach hred hall
    obtain ⟨f1, f2, -, -⟩ := chr_full B 1 hh hc
    have f3 := chr_root hc (fun d l r e => by
      subst e
      obtain ⟨-, q, -, -⟩ := laid_node (laid_self (BT.node d l r))
      rw [q] at h2
      exact h2)
    have hls := B.lvs_size
    have h60 : hh ≤ 60 := by
      rcases Nat.lt_or_ge 60 hh with q | q
      · have : 2 ^ 60 ≤ 2 ^ (hh - 1) := Nat.pow_le_pow_right (by omega) (by omega)
        omega
      · exact q
    refine ⟨fit_of he ?_, Or.inr ⟨hh, by omega, f1, h60, by omega, by have := B.lvs_pos; omega, by omega⟩⟩
    have hn : ((keysA t).length + 1) / 2 = B.lvs := by rw [hK, BT.lay_length]; omega
    rw [hn]
    unfold bndA
    rw [if_neg (by omega)]
    have := bitAux_ge 64 hh (B.lvs + 1) f1 (by omega) (by omega)
    have e : ((B.lvs : Int) + 1).toNat = B.lvs + 1 := by omega
    rw [e]
    unfold Lib.bitLen
    omega
  · obtain ⟨rfl, e⟩ := keys_none h hk
    refine ⟨rfl, h0, fun _ => ⟨fit_of he ?_, Or.inl ⟨kv_bare h, rfl, hgt_bare h⟩⟩⟩
    rw [hgt_bare h, e]
    decide
end Go.Proofs.Ythdfpddijocfkaa
