
/- Layer 17, pure: a table's own weights change nothing. -/

import Derived.Test.YteddfecapbopcaaWHvR

namespace Go.Proofs.Yteddfecapbopcaa

/-- The weights of the keys, from the root on. -/
noncomputable def ownW (t : NL) : List Int := (kpL t).map fun p => (ndAt t p).wt
theorem ownW_length (t : NL) : (ownW t).length = (kpL t).length := by simp [ownW]
theorem ownW_at (t : NL) (k : Nat) (h : k < (kpL t).length) : (ownW t).getD k 0 = (ndAt t ((kpL t).getD k 0)).wt := by
  simp [ownW, List.getD_eq_getElem?_getD, List.getElem?_eq_getElem h]
theorem own_ok {t : NL} (he : formE t = 0) : (ownW t).any noW = false := by
  obtain ⟨-, hf⟩ := formE_ok he
  rw [List.any_eq_false]
  intro y hy
  simp only [ownW, List.mem_map] at hy
  obtain ⟨p, hp, rfl⟩ := hy
  have := (hf.good.node p (kp_lt p hp)).2.2
  unfold noW
  rw [dF (by omega), dF (by omega)]
  simp
theorem own_norm {t : NL} (he : keyE t = 0) : heavyE t (ownW t) = 0 ∧ heavyA t (ownW t) = normL t := by
  have hfe := keyE_form he
  have hE : heavyE t (ownW t) = 0 := by
    unfold heavyE
    rw [if_neg (by simp [he]), if_neg (by rw [← kp_len, own_ok hfe, ownW_length]; simp)]
  obtain ⟨h1, h2⟩ := heavy_both he (ownW_length t) (own_ok hfe)
  refine ⟨hE, ?_⟩
  rw [← h2]
  congr 1
  refine nl_ext' (wpN_length _ _ _ _) fun i _ => ?_
  by_cases q : ∃ k, k < (ownW t).length ∧ (kpL t).getD k 0 = i
  · obtain ⟨k, hk, rfl⟩ := q
    have hk' : k < (kpL t).length := by rw [ownW_length] at hk; exact hk
    have h : (rootR t).2 = 0 := by
      by_cases c : (rootR t).2 = 0
      · exact c
      · unfold kpL at hk'
        rw [if_neg c] at hk'
        simp at hk'
    obtain ⟨-, hf⟩ := formE_ok hfe
    obtain ⟨_, _, _, -, -, -, hT, hL, -⟩ := kp_order h
    have hN := (theL_form hf).2.1
    rw [hL] at hN
    have hNM : (kpL t).Nodup := (List.nodup_append.1 (List.nodup_cons.1 (List.nodup_cons.1 hN).2).2).1
    rw [wp_in hNM kp_lt hk (by rw [ownW_length]; exact Nat.le_refl _), ownW_at t k hk']
    rfl
  · exact wp_out (fun k hk e => q ⟨k, hk, e⟩)
end Go.Proofs.Yteddfecapbopcaa
