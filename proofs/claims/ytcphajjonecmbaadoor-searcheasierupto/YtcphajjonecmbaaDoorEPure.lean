
/- Layer 5: histories as data: the operations' spans as a function of the events. No function of the program. -/

import Derived.Test.YtcphajjonecmbaaDoorMPure4

namespace Go.Proofs.YtcphajjonecmbaaDoor

open Go.RowKit

structure EvD where
  th : Int
  ret : Bool
  op : OpD
  rt : RetD
abbrev Sp := Nat × Int
def ev0 : EvD := ⟨0, false, ⟨0, 0, 0, 0⟩, RetD.zero⟩
def evAt (hs : List EvD) (i : Nat) : EvD := hs.getD i ev0
def spAt (l : List Sp) (i : Nat) : Sp := l.getD i (0, -1)
def opEq (a b : OpD) : Bool := decide (a.kind = b.kind ∧ a.key = b.key ∧ a.val = b.val ∧ a.hi = b.hi)
def isZ (r : RetD) : Bool := !r.ok && (decide (r.key = 0) && (decide (r.val = 0) && decide (r.pairs.length = 0)))
def isInv (e : EvD) : Bool := decide (1 ≤ e.op.kind) && (decide (e.op.kind ≤ 9) && isZ e.rt)
def ahd (a b : Sp) : Bool := decide (a.2 ≠ -1) && decide (a.2 < b.1)
structure St where
  spans : List Sp
  beg : Nat → Nat
def upd (f : Nat → Nat) (t v : Nat) : Nat → Nat := fun x => if x = t then v else f x
/-- Is it the return of what is under way? -/
def isBack (hs : List EvD) (s : St) (j : Nat) : Prop :=
  0 < s.beg (evAt hs j).th.toNat ∧ opEq (evAt hs (spAt s.spans (s.beg (evAt hs j).th.toNat - 1)).1).op (evAt hs j).op = true
instance (hs : List EvD) (s : St) (j : Nat) : Decidable (isBack hs s j) := inferInstanceAs (Decidable (_ ∧ _))
def backS (hs : List EvD) (s : St) (j : Nat) : St :=
  ⟨s.spans.set (s.beg (evAt hs j).th.toNat - 1) ((spAt s.spans (s.beg (evAt hs j).th.toNat - 1)).1, (j : Int)), upd s.beg (evAt hs j).th.toNat 0⟩
def goS (hs : List EvD) (s : St) (j : Nat) : St :=
  ⟨s.spans ++ [(j, -1)], upd s.beg (evAt hs j).th.toNat (s.spans.length + 1)⟩
def stepS (hs : List EvD) (s : St) (j : Nat) : Option St :=
  if 0 ≤ (evAt hs j).th ∧ (evAt hs j).th < 64 then
    if (evAt hs j).ret then
      if isBack hs s j then some (backS hs s j) else none
    else if s.beg (evAt hs j).th.toNat = 0 ∧ isInv (evAt hs j) = true then some (goS hs s j) else none
  else none
def stN (hs : List EvD) : Nat → Option St
  | 0 => some ⟨[], fun _ => 0⟩
  | j + 1 => (stN hs j).bind fun s => stepS hs s j
theorem stN_none {hs : List EvD} {j : Nat} (h : stN hs j = none) : ∀ m, stN hs (j + m) = none
  | 0 => h
  | m + 1 => by
    show (stN hs (j + m)).bind _ = none
    rw [stN_none h m]; rfl
theorem stN_fails {hs : List EvD} {j n : Nat} {s : St} (h : stN hs j = some s) (hf : stepS hs s j = none) (hn : j < n) : stN hs n = none := by
  have e : stN hs (j + 1) = none := by show (stN hs j).bind _ = none; rw [h]; exact hf
  have := stN_none e (n - (j + 1))
  rwa [show j + 1 + (n - (j + 1)) = n by omega] at this
theorem stN_next {hs : List EvD} {j : Nat} {s s' : St} (h : stN hs j = some s) (hf : stepS hs s j = some s') : stN hs (j + 1) = some s' := by
  show (stN hs j).bind _ = _; rw [h]; exact hf

theorem spAt_set (l : List Sp) (k i : Nat) (x : Sp) (hk : k < l.length) : spAt (l.set k x) i = if i = k then x else spAt l i := by
  unfold spAt
  rw [List.getD_eq_getElem?_getD, List.getD_eq_getElem?_getD, List.getElem?_set]
  by_cases h : i = k
  · subst h; simp [hk]
  · simp [h, Ne.symm h]
theorem spAt_append (l : List Sp) (i : Nat) (x : Sp) : spAt (l ++ [x]) i = if i = l.length then x else spAt l i := by
  unfold spAt
  rw [List.getD_eq_getElem?_getD, List.getD_eq_getElem?_getD]
  by_cases h : i = l.length
  · subst h; simp
  · rw [if_neg h]
    by_cases h2 : i < l.length
    · rw [List.getElem?_append_left h2]
    · rw [List.getElem?_eq_none (by simp; omega), List.getElem?_eq_none (by omega)]

/-- What holds of the state behind j events. -/
structure StOk (hs : List EvD) (j : Nat) (s : St) : Prop where
  len : s.spans.length ≤ j
  beg : ∀ t, s.beg t ≤ s.spans.length
  fr : ∀ k, k < s.spans.length → (spAt s.spans k).1 < j
  to : ∀ k, k < s.spans.length → (spAt s.spans k).2 = -1 ∨ ((spAt s.spans k).1 : Int) < (spAt s.spans k).2 ∧ (spAt s.spans k).2 < j
  rise : ∀ i k, i < k → k < s.spans.length → (spAt s.spans i).1 < (spAt s.spans k).1
  opn : ∀ t, 0 < s.beg t → (spAt s.spans (s.beg t - 1)).2 = -1 ∧ (evAt hs (spAt s.spans (s.beg t - 1)).1).th = t
  pend : ∀ k, k < s.spans.length → (spAt s.spans k).2 = -1 → s.beg (evAt hs (spAt s.spans k).1).th.toNat = k + 1
  inv : ∀ k, k < s.spans.length → (evAt hs (spAt s.spans k).1).ret = false ∧ isInv (evAt hs (spAt s.spans k).1) = true ∧ 0 ≤ (evAt hs (spAt s.spans k).1).th ∧ (evAt hs (spAt s.spans k).1).th < 64
  row : ∀ i k, i < k → k < s.spans.length → (evAt hs (spAt s.spans i).1).th = (evAt hs (spAt s.spans k).1).th → (spAt s.spans i).2 ≠ -1 ∧ (spAt s.spans i).2 < (spAt s.spans k).1
  back : ∀ k, k < s.spans.length → (spAt s.spans k).2 ≠ -1 → (evAt hs (spAt s.spans k).2.toNat).ret = true ∧ (evAt hs (spAt s.spans k).2.toNat).th = (evAt hs (spAt s.spans k).1).th ∧ opEq (evAt hs (spAt s.spans k).1).op (evAt hs (spAt s.spans k).2.toNat).op = true

theorem StOk.start (hs : List EvD) : StOk hs 0 ⟨[], fun _ => 0⟩ := by
  constructor <;> simp
theorem StOk.back_ {hs : List EvD} {j : Nat} {s : St} (h : StOk hs j s) (h0 : 0 ≤ (evAt hs j).th) (h64 : (evAt hs j).th < 64) (hr : (evAt hs j).ret = true) (hb : isBack hs s j) : StOk hs (j + 1) (backS hs s j) := by
  obtain ⟨b0, b1⟩ := hb
  have hl := h.beg (evAt hs j).th.toNat
  obtain ⟨t0, ht0⟩ : ∃ t0, t0 = (evAt hs j).th.toNat := ⟨_, rfl⟩
  have ho := h.opn t0 (by rw [ht0]; exact b0)
  have hth : ((t0 : Nat) : Int) = (evAt hs j).th := by rw [ht0]; omega
  rw [← ht0] at b0 hl
  obtain ⟨q, hq⟩ : ∃ q, q = s.beg t0 - 1 := ⟨_, rfl⟩
  have hql : q < s.spans.length := by omega
  have es : backS hs s j = ⟨s.spans.set q ((spAt s.spans q).1, (j : Int)), upd s.beg t0 0⟩ := by unfold backS; rw [← ht0, ← hq]
  rw [← hq] at ho
  have hfr := h.fr q hql
  have sp1 : ∀ k, (spAt (s.spans.set q ((spAt s.spans q).1, (j : Int))) k).1 = (spAt s.spans k).1 := by
    intro k
    rw [spAt_set _ _ _ _ hql]
    split
    · rename_i e; rw [e]
    · rfl
  have sp2 : ∀ k, (spAt (s.spans.set q ((spAt s.spans q).1, (j : Int))) k).2 = if k = q then (j : Int) else (spAt s.spans k).2 := by
    intro k
    rw [spAt_set _ _ _ _ hql]
    split <;> rfl
  rw [es]
  refine ⟨by simpa using Nat.le_succ_of_le h.len, ?_, ?_, ?_, ?_, ?_, ?_, ?_, ?_, ?_⟩
  · intro t; simp only [upd, List.length_set]; split
    · omega
    · exact h.beg t
  · intro k hk; rw [List.length_set] at hk; rw [sp1]; have := h.fr k hk; omega
  · intro k hk; rw [List.length_set] at hk; rw [sp1, sp2]
    by_cases e : k = q
    · subst e; rw [if_pos rfl]; right; omega
    · rw [if_neg e]
      rcases h.to k hk with g | g
      · exact Or.inl g
      · right; omega
  · intro i k hik hk; rw [List.length_set] at hk; rw [sp1, sp1]; exact h.rise i k hik hk
  · intro t ht
    simp only [upd] at ht ⊢
    by_cases e : t = t0
    · rw [if_pos e] at ht; omega
    · rw [if_neg e] at ht ⊢
      have hv := h.opn t ht
      have hne : s.beg t - 1 ≠ q := by
        intro hc
        rw [hc] at hv
        have := hv.2
        rw [ho.2] at this
        exact e (by omega)
      rw [sp1, sp2, if_neg hne]
      exact hv
  · intro k hk hp
    rw [List.length_set] at hk
    rw [sp2] at hp
    rw [sp1]
    by_cases e : k = q
    · rw [if_pos e] at hp; omega
    · rw [if_neg e] at hp
      have hv := h.pend k hk hp
      simp only [upd]
      by_cases e2 : (evAt hs (spAt s.spans k).1).th.toNat = t0
      · rw [e2] at hv; omega
      · rw [if_neg e2]; exact hv
  · intro k hk; rw [List.length_set] at hk; rw [sp1]; exact h.inv k hk
  · intro i k hik hk hth2
    rw [List.length_set] at hk
    rw [sp1, sp1] at hth2
    rw [sp1, sp2]
    have hv := h.row i k hik hk hth2
    by_cases e : i = q
    · exfalso
      rw [e] at hv
      exact hv.1 ho.1
    · rw [if_neg e]; exact hv
  · intro k hk hp
    rw [List.length_set] at hk
    rw [sp2] at hp ⊢
    rw [sp1]
    by_cases e : k = q
    · rw [if_pos e]
      subst e
      rw [Int.toNat_natCast]
      refine ⟨hr, ?_, ?_⟩
      · rw [ho.2]; exact hth.symm
      · rw [← ht0, ← hq] at b1; exact b1
    · rw [if_neg e] at hp ⊢
      exact h.back k hk hp
theorem StOk.go_ {hs : List EvD} {j : Nat} {s : St} (h : StOk hs j s) (h0 : 0 ≤ (evAt hs j).th) (h64 : (evAt hs j).th < 64) (hr : (evAt hs j).ret = false) (hb : s.beg (evAt hs j).th.toNat = 0) (hi : isInv (evAt hs j) = true) : StOk hs (j + 1) (goS hs s j) := by
  obtain ⟨t0, ht0⟩ : ∃ t0, t0 = (evAt hs j).th.toNat := ⟨_, rfl⟩
  have hth : ((t0 : Nat) : Int) = (evAt hs j).th := by rw [ht0]; omega
  have es : goS hs s j = ⟨s.spans ++ [(j, -1)], upd s.beg t0 (s.spans.length + 1)⟩ := by unfold goS; rw [← ht0]
  rw [← ht0] at hb
  have old : ∀ k, k < s.spans.length → spAt (s.spans ++ [(j, -1)]) k = spAt s.spans k := by
    intro k hk; rw [spAt_append, if_neg (by omega)]
  have new : spAt (s.spans ++ [(j, -1)]) s.spans.length = (j, -1) := by rw [spAt_append, if_pos rfl]
  rw [es]
  have hl : (s.spans ++ [((j : Nat), (-1 : Int))]).length = s.spans.length + 1 := by simp
  refine ⟨by rw [hl]; have := h.len; omega, ?_, ?_, ?_, ?_, ?_, ?_, ?_, ?_, ?_⟩
  · intro t; simp only [upd, hl]; split
    · omega
    · have := h.beg t; omega
  · intro k hk; simp only [hl] at hk
    by_cases e : k = s.spans.length
    · rw [e, new]; show j < j + 1; omega
    · rw [old k (by omega)]; have := h.fr k (by omega); omega
  · intro k hk; simp only [hl] at hk
    by_cases e : k = s.spans.length
    · rw [e, new]; left; rfl
    · rw [old k (by omega)]
      rcases h.to k (by omega) with g | g
      · exact Or.inl g
      · right; omega
  · intro i k hik hk; simp only [hl] at hk
    rw [old i (by omega)]
    by_cases e : k = s.spans.length
    · rw [e, new]; exact h.fr i (by omega)
    · rw [old k (by omega)]; exact h.rise i k hik (by omega)
  · intro t ht
    simp only [upd] at ht ⊢
    by_cases e : t = t0
    · rw [if_pos e, Nat.add_sub_cancel, new]
      exact ⟨rfl, by rw [e]; exact hth.symm⟩
    · rw [if_neg e] at ht ⊢
      have := h.beg t
      rw [old _ (by omega)]
      exact h.opn t ht
  · intro k hk hp; simp only [hl] at hk
    by_cases e : k = s.spans.length
    · rw [e, new]; show upd _ _ _ (evAt hs j).th.toNat = _; rw [← ht0]; simp [upd]
    · rw [old k (by omega)] at hp ⊢
      have hv := h.pend k (by omega) hp
      simp only [upd]
      by_cases e2 : (evAt hs (spAt s.spans k).1).th.toNat = t0
      · rw [e2, hb] at hv; omega
      · rw [if_neg e2]; exact hv
  · intro k hk; simp only [hl] at hk
    by_cases e : k = s.spans.length
    · rw [e, new]; exact ⟨hr, hi, h0, h64⟩
    · rw [old k (by omega)]; exact h.inv k (by omega)
  · intro i k hik hk hth2; simp only [hl] at hk
    rw [old i (by omega)] at hth2 ⊢
    by_cases e : k = s.spans.length
    · rw [e, new] at hth2 ⊢
      have hn : (spAt s.spans i).2 ≠ -1 := by
        intro hc
        have hv := h.pend i (by omega) hc
        rw [hth2, ← ht0, hb] at hv
        omega
      refine ⟨hn, ?_⟩
      rcases h.to i (by omega) with g | g
      · exact absurd g hn
      · exact g.2
    · rw [old k (by omega)] at hth2 ⊢
      exact h.row i k hik (by omega) hth2
  · intro k hk hp; simp only [hl] at hk
    by_cases e : k = s.spans.length
    · rw [e, new] at hp; exact absurd rfl hp
    · rw [old k (by omega)] at hp ⊢
      exact h.back k (by omega) hp
theorem stN_ok {hs : List EvD} : ∀ {j : Nat} {s : St}, stN hs j = some s → StOk hs j s
  | 0, s, h => by cases h; exact StOk.start hs
  | j + 1, s, h => by
    have h' : (stN hs j).bind (fun s => stepS hs s j) = some s := h
    cases hj : stN hs j with
    | none => rw [hj] at h'; cases h'
    | some s0 =>
      have ok := stN_ok hj
      rw [hj] at h'
      have h2 : stepS hs s0 j = some s := h'
      unfold stepS at h2
      split at h2
      · rename_i ht
        split at h2
        · rename_i hr
          split at h2
          · rename_i hb; cases h2; exact ok.back_ ht.1 ht.2 hr hb
          · cases h2
        · rename_i hr
          split at h2
          · rename_i hb; cases h2; exact ok.go_ ht.1 ht.2 (by simpa using hr) hb.1 hb.2
          · cases h2
      · cases h2
/-- The error of a list of events. -/
def hErr (hs : List EvD) : Int := if 100000 < hs.length then 2 else match stN hs hs.length with | some _ => 0 | none => 3
/-- The spans of a history. -/
def spansL (hs : List EvD) : List Sp := match stN hs hs.length with | some s => s.spans | none => []
theorem hErr_zero {hs : List EvD} (h : hErr hs = 0) : hs.length ≤ 100000 ∧ ∃ s, stN hs hs.length = some s ∧ spansL hs = s.spans := by
  unfold hErr at h
  split at h
  · omega
  · refine ⟨by omega, ?_⟩
    unfold spansL
    cases e : stN hs hs.length with
    | none => rw [e] at h; simp at h
    | some s => exact ⟨s, rfl, rfl⟩
end Go.Proofs.YtcphajjonecmbaaDoor
