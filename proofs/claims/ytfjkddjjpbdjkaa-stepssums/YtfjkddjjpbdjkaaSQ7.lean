
/- Layer 18, pure: the crown about the tree of the keys. -/

import Derived.Test.YtfjkddjjpbdjkaaSQ6

namespace Go.Proofs.Ytfjkddjjpbdjkaa

theorem end_is {n : NdD} (h : endB n = true) : n.inf = 1 ∧ n.wt = 1 ∧ n.l = -1 ∧ n.r = -1 := by
  simp only [endB, sentB, leafB, Bool.and_eq_true, decide_eq_true_eq] at h
  exact ⟨h.1.1, h.1.2, h.2⟩
theorem arch_is {t : NL} (hf : InForm t) {p : Nat} (hp : p < t.length) (h : archB t p = true) : ∃ l r : Nat, (ndAt t p).l = (l : Int) ∧ (ndAt t p).r = (r : Int) ∧ l < t.length ∧ r < t.length ∧ (ndAt t p).inf = 1 ∧ (ndAt t p).wt = 1 ∧ endB (ndAt t r) = true := by
  unfold archB at h
  rw [Bool.and_eq_true, Bool.and_eq_true] at h
  obtain ⟨h1, h2, h3⟩ := h
  obtain ⟨l, r, hl, hr, h4, h5⟩ := inner_lr hf hp (by simpa using h2)
  rw [hr, Int.toNat_natCast] at h3
  simp only [sentB, decide_eq_true_eq] at h1
  exact ⟨l, r, hl, hr, h4, h5, h1.1, h1.2, h3⟩
def BT.all (P : PD → Prop) : BT → Prop
  | .leaf d => P d
  | .node d l r => P d ∧ l.all P ∧ r.all P
/-- What the crown's nodes say. -/
def PD.cr (d : PD) : Prop := d.inf = 1 ∧ d.wt = 1
/-- A table with a crown: its root of the keys x, the arch l, the ends r and s, the tree of the keys K. -/
structure Crn (t : NL) (x l r s : Nat) (K : BT) : Prop where
  root : rootR t = ((x : Int), 0)
  form : formE t = 0
  lt : x < t.length ∧ l < t.length ∧ r < t.length ∧ s < t.length
  top : (ndAt t 0).l = (l : Int) ∧ (ndAt t 0).r = (r : Int) ∧ (ndP (ndAt t 0)).cr
  arch : (ndAt t l).l = (x : Int) ∧ (ndAt t l).r = (s : Int) ∧ (ndP (ndAt t l)).cr
  er : (ndAt t r).l = -1 ∧ (ndAt t r).r = -1 ∧ (ndP (ndAt t r)).cr
  es : (ndAt t s).l = -1 ∧ (ndAt t s).r = -1 ∧ (ndP (ndAt t s)).cr
  keys : Abs t x K
  nokey : K.all (fun d => d.inf = 0)
theorem all_of_tree {t : NL} {P : PD → Prop} {p : Nat} {b : BT} (h : Abs t p b) : ∀ {L : List Nat}, Tree t p L → ((∀ y ∈ L, P (ndP (ndAt t y))) ↔ b.all P) := by
  induction h with
  | leaf hp hl hr =>
    intro L hT
    cases hT with
    | inner _ hl' => omega
    | leaf => simp [BT.all]
  | node hp hl hr _ _ ih1 ih2 =>
    intro L hT
    cases hT with
    | leaf _ hl' => omega
    | inner _ hl' hr' t1 t2 =>
      obtain rfl := Int.ofNat.inj (hl.symm.trans hl')
      obtain rfl := Int.ofNat.inj (hr.symm.trans hr')
      simp only [BT.all, ← ih1 t1, ← ih2 t2, List.mem_cons, List.mem_append]
      constructor
      · intro h; exact ⟨h _ (Or.inl rfl), fun y hy => h y (Or.inr (Or.inl hy)), fun y hy => h y (Or.inr (Or.inr hy))⟩
      · rintro ⟨h1, h2, h3⟩ y (rfl | hy | hy)
        · exact h1
        · exact h2 y hy
        · exact h3 y hy
theorem crn_of {t : NL} (h : (rootR t).2 = 0) : ∃ x l r s K, Crn t x l r s K := by
  have h0 := h
  unfold rootR at h
  by_cases he : formE t ≠ 0
  · rw [if_pos he] at h; exact absurd h he
  rw [if_neg he] at h
  have he : formE t = 0 := by simpa using he
  obtain ⟨-, hf⟩ := formE_ok he
  by_cases q1 : archB t 0 = false
  · rw [if_pos q1] at h; simp at h
  rw [if_neg q1] at h
  by_cases q2 : endB (ndAt t (ndAt t 0).l.toNat) = true
  · rw [if_pos q2] at h; simp at h
  rw [if_neg q2] at h
  by_cases q3 : archB t (ndAt t 0).l.toNat = false
  · rw [if_pos q3] at h; simp at h
  rw [if_neg q3] at h
  obtain ⟨l, r, hl, hr, l1, l2, l3, l4, l5⟩ := arch_is hf hf.pos (by simpa using q1)
  have q3' := q3
  rw [hl, Int.toNat_natCast] at q3' h
  obtain ⟨x, s, hl', hs, s1, s2, s3, s4, s5⟩ := arch_is hf l1 (by simpa using q3')
  rw [hl', Int.toNat_natCast] at h
  by_cases q4 : ∀ y ∈ theL t x, (ndAt t y).inf = 0
  · obtain ⟨M, m1, -⟩ := form_at hf x s1
    obtain ⟨K, hK, -⟩ := m1.abs
    rw [theL_of m1] at q4
    have e1 := end_is l5
    have e2 := end_is s5
    refine ⟨x, l, r, s, K, ?_, he, ⟨s1, l1, l2, s2⟩, ⟨hl, hr, l3, l4⟩, ⟨hl', hs, s3, s4⟩, ⟨e1.2.2.1, e1.2.2.2, e1.1, e1.2.1⟩, ⟨e2.2.2.1, e2.2.2.2, e2.1, e2.2.1⟩, hK, (all_of_tree (P := fun d => d.inf = 0) hK m1).1 q4⟩
    unfold rootR
    rw [if_neg (by simp [he]), if_neg q1, if_neg q2, if_neg q3, hl, Int.toNat_natCast, hl', Int.toNat_natCast, theL_of m1, if_pos q4]
  · rw [if_neg q4] at h; simp at h
theorem root_is {t : NL} {x l r s : Nat} {K : BT} (he : formE t = 0) (h0 : (ndAt t 0).l = (l : Int) ∧ (ndAt t 0).r = (r : Int) ∧ (ndP (ndAt t 0)).cr) (h1 : (ndAt t l).l = (x : Int) ∧ (ndAt t l).r = (s : Int) ∧ (ndP (ndAt t l)).cr)
    (h2 : (ndAt t r).l = -1 ∧ (ndAt t r).r = -1 ∧ (ndP (ndAt t r)).cr) (h3 : (ndAt t s).l = -1 ∧ (ndAt t s).r = -1 ∧ (ndP (ndAt t s)).cr) (hK : Abs t x K) (hk : K.all (fun d => d.inf = 0)) : Crn t x l r s K := by
  obtain ⟨-, hf⟩ := formE_ok he
  have kid : ∀ {p c : Nat}, p < t.length → Child t p c → c < t.length := fun hp hc => (child_pos hf.good hp hc).2
  have l1 := kid hf.pos (Or.inl h0.1)
  have r1 := kid hf.pos (Or.inr h0.2.1)
  have x1 := kid l1 (Or.inl h1.1)
  have s1 := kid l1 (Or.inr h1.2.1)
  obtain ⟨M, m1, -⟩ := form_at hf x x1
  refine ⟨?_, he, ⟨x1, l1, r1, s1⟩, h0, h1, h2, h3, hK, hk⟩
  have sn : ∀ {n : NdD}, (ndP n).cr → sentB n = true := fun h => by simp only [sentB, decide_eq_true_eq]; exact h
  have en : ∀ {n : NdD}, n.l = -1 → n.r = -1 → (ndP n).cr → endB n = true := fun a b c => by unfold endB; rw [sn c, leafB_yes a b]; rfl
  have nl : ∀ {n : NdD} {c : Nat}, n.l = (c : Int) → leafB n = false := fun h => by simp only [leafB, decide_eq_false_iff_not]; omega
  have a0 : archB t 0 = true := by unfold archB; rw [sn h0.2.2, nl h0.1, h0.2.1, Int.toNat_natCast, en h2.1 h2.2.1 h2.2.2]; rfl
  have al : archB t l = true := by unfold archB; rw [sn h1.2.2, nl h1.1, h1.2.1, Int.toNat_natCast, en h3.1 h3.2.1 h3.2.2]; rfl
  have nend : endB (ndAt t l) = false := by unfold endB; rw [nl h1.1]; simp
  have hq : ∀ y ∈ M, (ndAt t y).inf = 0 := (all_of_tree (P := fun d => d.inf = 0) hK m1).2 hk
  unfold rootR
  rw [if_neg (by simp [he]), if_neg (by simp [a0]), h0.1, Int.toNat_natCast, if_neg (by simp [nend]), if_neg (by simp [al]), h1.1, Int.toNat_natCast, theL_of m1, if_pos hq]
/-- The whole as a tree. -/
theorem Crn.abs {t : NL} {x l r s : Nat} {K : BT} (h : Crn t x l r s K) : Abs t 0 (.node (ndP (ndAt t 0)) (.node (ndP (ndAt t l)) K (.leaf (ndP (ndAt t s)))) (.leaf (ndP (ndAt t r)))) := by
  obtain ⟨-, hf⟩ := formE_ok h.form
  exact Abs.node hf.pos h.top.1 h.top.2.1 (Abs.node h.lt.2.1 h.arch.1 h.arch.2.1 h.keys (Abs.leaf h.lt.2.2.2 h.es.1 h.es.2.1)) (Abs.leaf h.lt.2.2.1 h.er.1 h.er.2.1)
/-- A place of the keys lies in their tree. -/
theorem Crn.keyplace {t : NL} {x l r s : Nat} {K : BT} (h : Crn t x l r s K) {p : Int} (hp : ofK t p = true) : ∃ (n : Nat) (M : List Nat), p = (n : Int) ∧ n < t.length ∧ n ≠ 0 ∧ Tree t x M ∧ n ∈ M := by
  obtain ⟨-, hf⟩ := formE_ok h.form
  simp only [ofK, Bool.and_eq_true, decide_eq_true_eq, bne_iff_ne, ne_eq, h.top.1, h.top.2.1, Int.toNat_natCast, h.arch.2.1] at hp
  obtain ⟨p0, p1, p2, p3, p4⟩ := hp
  obtain ⟨n, rfl⟩ : ∃ n : Nat, p = (n : Int) := ⟨p.toNat, by omega⟩
  obtain ⟨L, t1, t2, t3⟩ := hf.tree
  have hn : n ∈ L := all_in t2 t1.all t3 n (by omega)
  cases t1 with
  | leaf _ h1 => have := h.top.1; omega
  | inner _ h1 h2 u1 u2 =>
    obtain rfl := Int.ofNat.inj (h1.symm.trans h.top.1)
    obtain rfl := Int.ofNat.inj (h2.symm.trans h.top.2.1)
    cases u2 with
    | inner _ h3 => have := h.er.1; omega
    | leaf =>
      cases u1 with
      | leaf _ h3 => have := h.arch.1; omega
      | inner _ h3 h4 u3 u4 =>
        obtain rfl := Int.ofNat.inj (h3.symm.trans h.arch.1)
        obtain rfl := Int.ofNat.inj (h4.symm.trans h.arch.2.1)
        cases u4 with
        | inner _ h5 => have := h.es.1; omega
        | leaf =>
          refine ⟨n, _, rfl, by omega, by omega, u3, ?_⟩
          simp only [List.mem_cons, List.mem_append, List.not_mem_nil, or_false] at hn
          rcases hn with hn | (hn | hn | hn) | hn
          · omega
          · omega
          · exact hn
          · omega
          · omega
end Go.Proofs.Ytfjkddjjpbdjkaa
