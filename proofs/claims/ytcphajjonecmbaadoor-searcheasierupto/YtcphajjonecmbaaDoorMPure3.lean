
/- Layer 6: neighbours and ends; what stands at a key's place. -/

import Derived.Test.YtcphajjonecmbaaDoorMPure2

namespace Go.Proofs.YtcphajjonecmbaaDoor

open Go.RowKit

/-- Step's loop for Successor, Predecessor, Min, Max behind j pairs: the pair it holds. -/
def nbN (ps : PL) (kind key : Int) : Nat → Option (Int × Int)
  | 0 => none
  | j + 1 =>
    if kind = 7 ∧ nbN ps kind key j = none ∨ kind = 5 ∧ nbN ps kind key j = none ∧ key < keyAt ps j ∨ kind = 8 ∨ kind = 6 ∧ keyAt ps j < key then some (keyAt ps j, valAt ps j) else nbN ps kind key j
theorem nbN_min (ps : PL) (key : Int) : ∀ j, j ≤ ps.length → nbN ps 7 key j = (ps.take j).head?
  | 0, _ => rfl
  | j + 1, h => by
    rw [take_next ps (by omega)]
    simp only [nbN, nbN_min ps key j (by omega)]
    cases ps.take j <;> simp
theorem nbN_max (ps : PL) (key : Int) : ∀ j, j ≤ ps.length → nbN ps 8 key j = (ps.take j).getLast?
  | 0, _ => rfl
  | j + 1, h => by
    rw [take_next ps (by omega)]
    simp [nbN]
theorem nbN_next (ps : PL) (key : Int) : ∀ j, j ≤ ps.length → nbN ps 5 key j = ((ps.take j).filter fun p => decide (key < p.1)).head?
  | 0, _ => rfl
  | j + 1, h => by
    rw [take_next ps (by omega), List.filter_append]
    simp only [nbN, nbN_next ps key j (by omega)]
    by_cases q : key < keyAt ps j
    · cases (ps.take j).filter fun p => decide (key < p.1) <;> simp [q]
    · cases (ps.take j).filter fun p => decide (key < p.1) <;> simp [q]
theorem nbN_back (ps : PL) (key : Int) : ∀ j, j ≤ ps.length → nbN ps 6 key j = ((ps.take j).filter fun p => decide (p.1 < key)).getLast?
  | 0, _ => rfl
  | j + 1, h => by
    rw [take_next ps (by omega), List.filter_append]
    simp only [nbN, nbN_back ps key j (by omega)]
    by_cases q : keyAt ps j < key
    · simp [q]
    · simp [q]
theorem nbN_not (ps : PL) (kind key : Int) (hk : kind < 5 ∨ 8 < kind) : ∀ j, nbN ps kind key j = none
  | 0 => rfl
  | j + 1 => by
    simp only [nbN, nbN_not ps kind key hk j]
    rw [if_neg (by omega)]

theorem posL_cons (key : Int) {p : Int × Int} {t : PL} (h : Srt (p :: t)) : posL key (p :: t) = if p.1 < key then posL key t + 1 else 0 := by
  split
  · rename_i q; simp [posL, q]
  · rename_i q
    have := (below_take key h).2 0 (by simp)
    have k0 : keyAt (p :: t) 0 = p.1 := by simp [keyAt]
    rw [k0] at this
    omega
/-- What is looked up stands at the key's place. -/
theorem getK_none (key : Int) : ∀ {ps : PL}, (∀ x ∈ ps, x.1 ≠ key) → getK key ps = none
  | [], _ => rfl
  | p :: t, h => by
    simp only [getK]
    rw [if_neg (h p (by simp)), getK_none key (fun x hx => h x (by simp [hx]))]
theorem key_cons (p : Int × Int) (t : PL) (i : Nat) : keyAt (p :: t) (i + 1) = keyAt t i := by simp [keyAt]
theorem val_cons (p : Int × Int) (t : PL) (i : Nat) : valAt (p :: t) (i + 1) = valAt t i := by simp [valAt]
theorem getK_pos (key : Int) : ∀ {ps : PL}, Srt ps → getK key ps = if posL key ps < ps.length ∧ keyAt ps (posL key ps) = key then some (valAt ps (posL key ps)) else none
  | [], _ => by simp [getK, posL]
  | p :: t, h => by
    obtain ⟨h1, h2⟩ := List.pairwise_cons.1 h
    rw [posL_cons key h]
    simp only [getK]
    by_cases q : p.1 < key
    · rw [if_neg (by omega), if_pos q, key_cons, val_cons, getK_pos key h2]
      simp only [List.length_cons, Nat.add_lt_add_iff_right]
    · rw [if_neg q]
      by_cases q2 : p.1 = key
      · simp [q2, keyAt, valAt]
      · rw [if_neg q2, getK_none key (fun x hx => by have := h1 x hx; omega), if_neg (by simp [keyAt, q2])]
/-- 1 if the key is there, 0 if it isn't. -/
def hasK (key : Int) (ps : PL) : Nat := match getK key ps with | some _ => 1 | none => 0
theorem hasK_ne {key : Int} {p : Int × Int} {t : PL} (h : ¬ p.1 = key) : hasK key (p :: t) = hasK key t := by
  unfold hasK
  simp only [getK, if_neg h]
theorem hasK_eq {key : Int} {p : Int × Int} {t : PL} (h : p.1 = key) : hasK key (p :: t) = 1 := by
  unfold hasK
  simp only [getK, if_pos h]
theorem hasK_none {key : Int} {t : PL} (h : ∀ x ∈ t, x.1 ≠ key) : hasK key t = 0 := by
  unfold hasK
  rw [getK_none key h]
theorem putL_pos (key val : Int) : ∀ {ps : PL}, Srt ps → putL key val ps = ps.take (posL key ps) ++ (key, val) :: ps.drop (posL key ps + hasK key ps)
  | [], _ => by simp [putL, posL]
  | p :: t, h => by
    obtain ⟨h1, h2⟩ := List.pairwise_cons.1 h
    rw [posL_cons key h]
    simp only [putL]
    by_cases q : p.1 < key
    · rw [if_pos q, if_pos q, hasK_ne (by omega), putL_pos key val h2, show posL key t + 1 + hasK key t = posL key t + hasK key t + 1 by omega]
      rfl
    · rw [if_neg q, if_neg q]
      by_cases q2 : p.1 = key
      · rw [if_pos q2, hasK_eq q2]; rfl
      · rw [if_neg q2, hasK_ne q2, hasK_none (fun x hx => by have := h1 x hx; omega)]
        rfl
theorem delL_pos (key : Int) : ∀ {ps : PL}, Srt ps → delL key ps = ps.take (posL key ps) ++ ps.drop (posL key ps + hasK key ps)
  | [], _ => by simp [delL]
  | p :: t, h => by
    obtain ⟨h1, h2⟩ := List.pairwise_cons.1 h
    have ih := delL_pos key h2
    rw [posL_cons key h]
    unfold delL at ih ⊢
    by_cases q : p.1 < key
    · have q2 : ¬ p.1 = key := by omega
      rw [List.filter_cons, if_pos (by simpa using q2), ih, if_pos q, hasK_ne q2, show posL key t + 1 + hasK key t = posL key t + hasK key t + 1 by omega]
      rfl
    · rw [if_neg q]
      have ha := del_above key t (fun x hx => by have := h1 x hx; omega)
      unfold delL at ha
      by_cases q2 : p.1 = key
      · rw [List.filter_cons, if_neg (by simpa using q2), ha, hasK_eq q2]
        rfl
      · rw [List.filter_cons, if_pos (by simpa using q2), ha, hasK_ne q2, hasK_none (fun x hx => by have := h1 x hx; omega)]
        rfl
/-- From lo to hi: what lies between two places. -/
theorem filter_from (key : Int) : ∀ {ps : PL}, Srt ps → ps.filter (fun p => decide (key ≤ p.1)) = ps.drop (posL key ps)
  | [], _ => by simp
  | p :: t, h => by
    obtain ⟨h1, h2⟩ := List.pairwise_cons.1 h
    rw [posL_cons key h, List.filter_cons]
    by_cases q : p.1 < key
    · rw [if_neg (by simp; omega), if_pos q, List.drop_succ_cons, filter_from key h2]
    · rw [if_pos (by simp; omega), if_neg q, List.drop_zero]
      congr 1
      rw [List.filter_eq_self]
      intro x hx
      have := h1 x hx
      simp; omega
theorem posL_mono {lo hi : Int} (h : lo ≤ hi) (ps : PL) : posL lo ps ≤ posL hi ps := by
  induction ps with
  | nil => simp [posL]
  | cons p t ih =>
    unfold posL at ih ⊢
    simp only [List.filter_cons]
    by_cases q : p.1 < lo
    · have : p.1 < hi := by omega
      simp [q, this]; exact ih
    · by_cases q2 : p.1 < hi
      · simp [q, q2]; omega
      · simp [q, q2]; exact ih
theorem inL_pos (lo hi : Int) {ps : PL} (h : Srt ps) : inL lo hi ps = (ps.take (posL (hi + 1) ps)).drop (posL lo ps) := by
  have e : inL lo hi ps = (ps.filter fun p => decide (p.1 < hi + 1)).filter fun p => decide (lo ≤ p.1) := by
    unfold inL
    rw [List.filter_filter]
    apply List.filter_congr
    intro x _
    by_cases q : lo ≤ x.1 <;> by_cases q2 : x.1 ≤ hi <;> simp [q, q2] <;> omega
  have hs : Srt (ps.take (posL (hi + 1) ps)) := h.sublist (List.take_sublist _ _)
  rw [e, (below_take (hi + 1) h).1, filter_from lo hs]
  by_cases q : lo ≤ hi + 1
  · congr 1
    rw [← (below_take (hi + 1) h).1]
    unfold posL
    rw [List.filter_filter]
    congr 1
    apply List.filter_congr
    intro x _
    by_cases q2 : x.1 < lo <;> simp [q2] <;> omega
  · have h1 : posL (hi + 1) ps ≤ posL lo ps := posL_mono (by omega) ps
    have h2 : (ps.take (posL (hi + 1) ps)).drop (posL lo ps) = [] := by rw [List.drop_eq_nil_iff, List.length_take]; omega
    rw [h2, List.drop_eq_nil_iff]
    have : posL lo (ps.take (posL (hi + 1) ps)) = (ps.take (posL (hi + 1) ps)).length := by
      unfold posL
      congr 1
      rw [List.filter_eq_self]
      intro x hx
      have hx2 : x ∈ ps.filter fun p => decide (p.1 < hi + 1) := by rw [(below_take (hi + 1) h).1]; exact hx
      simp at hx2
      simp; omega
    omega
end Go.Proofs.YtcphajjonecmbaaDoor
