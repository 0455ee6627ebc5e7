
/- Layer 16, pure: trees without places; a table numbered from its root on. -/

import Derived.Test.YthdfpddijocfkaaTPure

namespace Go.Proofs.Ythdfpddijocfkaa

/-- What a node says beside its children. -/
structure PD where
  key : Int
  inf : Int
  wt : Int
  val : Int
/-- A tree, without places. -/
inductive BT
  | leaf (d : PD)
  | node (d : PD) (l r : BT)
def BT.size : BT → Nat
  | .leaf _ => 1
  | .node _ l r => 1 + (l.size + r.size)
theorem BT.size_pos : ∀ b : BT, 0 < b.size
  | .leaf _ => by simp [BT.size]
  | .node _ _ _ => by simp only [BT.size]; omega
def ndP (n : NdD) : PD := ⟨n.key, n.inf, n.wt, n.val⟩
/-- The tree that stands from a place on. -/
inductive Abs (t : NL) : Nat → BT → Prop
  | leaf {p : Nat} : p < t.length → (ndAt t p).l = -1 → (ndAt t p).r = -1 → Abs t p (.leaf (ndP (ndAt t p)))
  | node {p l r : Nat} {a b : BT} : p < t.length → (ndAt t p).l = (l : Int) → (ndAt t p).r = (r : Int) → Abs t l a → Abs t r b → Abs t p (.node (ndP (ndAt t p)) a b)
theorem Abs.det {t : NL} {p : Nat} {b : BT} (h : Abs t p b) : ∀ {b' : BT}, Abs t p b' → b = b' := by
  induction h with
  | leaf hp hl hr =>
    intro b' h'
    cases h' with
    | leaf => rfl
    | node _ hl' => omega
  | node hp hl hr _ _ ih1 ih2 =>
    intro b' h'
    cases h' with
    | leaf _ hl' => omega
    | node _ hl' hr' h1 h2 =>
      obtain rfl := Int.ofNat.inj (hl.symm.trans hl')
      obtain rfl := Int.ofNat.inj (hr.symm.trans hr')
      rw [ih1 h1, ih2 h2]
theorem Abs.lt {t : NL} {p : Nat} {b : BT} (h : Abs t p b) : p < t.length := by cases h <;> assumption
theorem Abs.tree {t : NL} {p : Nat} {b : BT} (h : Abs t p b) : ∃ L, Tree t p L ∧ L.length = b.size := by
  induction h with
  | leaf hp hl hr => exact ⟨_, Tree.leaf hp hl hr, rfl⟩
  | node hp hl hr _ _ ih1 ih2 =>
    obtain ⟨L1, t1, e1⟩ := ih1
    obtain ⟨L2, t2, e2⟩ := ih2
    exact ⟨_, Tree.inner hp hl hr t1 t2, by simp [BT.size, e1, e2]; omega⟩
theorem Tree.abs {t : NL} {p : Nat} {L : List Nat} (h : Tree t p L) : ∃ b, Abs t p b ∧ b.size = L.length := by
  induction h with
  | leaf hp hl hr => exact ⟨_, Abs.leaf hp hl hr, rfl⟩
  | inner hp hl hr _ _ ih1 ih2 =>
    obtain ⟨b1, t1, e1⟩ := ih1
    obtain ⟨b2, t2, e2⟩ := ih2
    exact ⟨_, Abs.node hp hl hr t1 t2, by simp [BT.size, e1, e2]; omega⟩
/-- The tree as a table, its first place o. -/
def BT.lay : BT → Nat → NL
  | .leaf d, _ => [⟨d.key, d.inf, d.wt, d.val, -1, -1⟩]
  | .node d l r, o => ⟨d.key, d.inf, d.wt, d.val, ((o + 1 : Nat) : Int), ((o + 1 + l.size : Nat) : Int)⟩ :: (l.lay (o + 1) ++ r.lay (o + 1 + l.size))
theorem BT.lay_length : ∀ (b : BT) (o : Nat), (b.lay o).length = b.size
  | .leaf _, _ => rfl
  | .node d l r, o => by simp only [BT.lay, BT.size, List.length_cons, List.length_append, BT.lay_length l, BT.lay_length r]; omega
theorem atN_idx {L : List Nat} (hN : L.Nodup) : ∀ (n i : Nat), i < n → n ≤ L.length → atN L n (L.getD i 0) = (i : Int)
  | 0, i, h, _ => by omega
  | n + 1, i, h, hl => by
    unfold atN
    by_cases e : i = n
    · rw [e, if_pos rfl]
    · rw [if_neg (fun q => ?_), atN_idx hN n i (by omega) (by omega)]
      rw [List.getD_eq_getElem?_getD, List.getD_eq_getElem?_getD, List.getElem?_eq_getElem (show i < L.length by omega), List.getElem?_eq_getElem (show n < L.length by omega)] at q
      exact List.pairwise_iff_getElem.1 hN i n (by omega) (by omega) (by omega) q
theorem atN_mid {A B : List Nat} {x : Nat} (hN : (A ++ x :: B).Nodup) : atN (A ++ x :: B) (A ++ x :: B).length x = (A.length : Int) := by
  have := atN_idx hN (A ++ x :: B).length A.length (by simp) (Nat.le_refl _)
  rwa [show (A ++ x :: B).getD A.length 0 = x by simp] at this
theorem Tree.head {t : NL} {p : Nat} {L : List Nat} (h : Tree t p L) : ∃ L', L = p :: L' := by cases h <;> exact ⟨_, rfl⟩
theorem part_lay_at {t : NL} {p : Nat} {L : List Nat} (h : Tree t p L) : ∀ {b : BT} {A B : List Nat}, Abs t p b → (A ++ (L ++ B)).Nodup → L.map (fun x => renD (atN (A ++ (L ++ B)) (A ++ (L ++ B)).length) (ndAt t x)) = b.lay A.length := by
  induction h with
  | @leaf p hp hl hr =>
    intro b A B hb hN
    cases hb with
    | node _ hl' => omega
    | leaf =>
      simp only [List.map_cons, List.map_nil, BT.lay, renD, hl, if_true, ndP]
      congr 1
      generalize ndAt t p = n at hl hr
      obtain ⟨_, _, _, _, _, _⟩ := n
      simp only at hl hr
      rw [hl, hr]
  | @inner p l r L1 L2 hp hl hr t1 t2 ih1 ih2 =>
    intro b A B hb hN
    cases hb with
    | leaf _ hl' => omega
    | @node _ l' r' x y _ hl' hr' a1 a2 =>
      obtain rfl := Int.ofNat.inj (hl.symm.trans hl')
      obtain rfl := Int.ofNat.inj (hr.symm.trans hr')
      have e1 : A ++ (p :: (L1 ++ L2) ++ B) = (A ++ [p]) ++ (L1 ++ (L2 ++ B)) := by simp
      have e2 : A ++ (p :: (L1 ++ L2) ++ B) = (A ++ p :: L1) ++ (L2 ++ B) := by simp
      have s1 : L1.length = x.size := by
        obtain ⟨L', q1, q2⟩ := a1.tree
        rw [t1.det q1]; exact q2
      have i1 := ih1 (A := A ++ [p]) (B := L2 ++ B) a1 (by rw [← e1]; exact hN)
      have i2 := ih2 (A := A ++ p :: L1) (B := B) a2 (by rw [← e2]; exact hN)
      rw [← e1] at i1
      rw [← e2] at i2
      obtain ⟨M1, rfl⟩ := t1.head
      obtain ⟨M2, rfl⟩ := t2.head
      have m1 : atN (A ++ (p :: (l :: M1 ++ r :: M2) ++ B)) (A ++ (p :: (l :: M1 ++ r :: M2) ++ B)).length l = ((A.length + 1 : Nat) : Int) := by
        have e3 : A ++ (p :: (l :: M1 ++ r :: M2) ++ B) = (A ++ [p]) ++ l :: (M1 ++ r :: (M2 ++ B)) := by simp
        rw [e3] at hN ⊢
        rw [atN_mid hN]
        simp
      have m2 : atN (A ++ (p :: (l :: M1 ++ r :: M2) ++ B)) (A ++ (p :: (l :: M1 ++ r :: M2) ++ B)).length r = ((A.length + 1 + x.size : Nat) : Int) := by
        have e3 : A ++ (p :: (l :: M1 ++ r :: M2) ++ B) = (A ++ p :: l :: M1) ++ r :: (M2 ++ B) := by simp
        rw [e3] at hN ⊢
        rw [atN_mid hN, ← s1]
        simp
        omega
      rw [List.map_cons, List.map_append, i1, i2]
      simp only [BT.lay]
      congr 1
      · unfold renD
        rw [if_neg (by omega)]
        simp only [hl, hr, Int.toNat_natCast, m1, m2, ndP]
      · simp only [List.length_append, List.length_cons, List.length_nil]
        rw [show A.length + (M1.length + 1 + 1) = A.length + 1 + x.size by rw [← s1]; simp; omega]
/-- A tree numbered from its root on is the tree as a table. -/
theorem part_lay {t : NL} {p : Nat} {L : List Nat} {b : BT} (h : Tree t p L) (hN : L.Nodup) (hb : Abs t p b) : partL t L = b.lay 0 := by
  have := part_lay_at h (A := []) (B := []) hb (by simpa using hN)
  simpa [partL] using this
theorem child_pos {t : NL} (hg : Good t) {p c : Nat} (hp : p < t.length) (h : Child t p c) : 1 ≤ c ∧ c < t.length := by
  rcases (hg.node p hp).1 with ⟨h1, h2⟩ | ⟨h1, h2, h3, h4, -, -⟩
  · rcases h with h | h <;> omega
  · rcases h with h | h <;> omega
/-- How many of the first n have it. -/
def cntB (f : Nat → Bool) : Nat → Nat
  | 0 => 0
  | n + 1 => cntB f n + if f n then 1 else 0
theorem nodup_cnt (f : Nat → Bool) : ∀ (n : Nat) (l : List Nat), l.Nodup → (∀ x ∈ l, x < n ∧ f x = true) → l.length ≤ cntB f n
  | 0, l, _, h => by
    cases l with
    | nil => simp
    | cons a _ => have := (h a (by simp)).1; omega
  | n + 1, l, hn, h => by
    have ih := nodup_cnt f n (l.erase n) (hn.erase n) (fun x hx => by
      have h1 := h x (List.mem_of_mem_erase hx)
      have h2 : x ≠ n := fun e => by subst e; exact (List.Nodup.not_mem_erase hn) hx
      exact ⟨by omega, h1.2⟩)
    have e := List.length_erase (a := n) (l := l)
    unfold cntB
    by_cases hm : n ∈ l
    · rw [if_pos hm] at e
      rw [if_pos (h n hm).2]
      omega
    · rw [if_neg hm] at e
      omega
theorem cntB_not (f : Nat → Bool) : ∀ n, cntB f n + cntB (fun x => !f x) n = n
  | 0 => rfl
  | n + 1 => by
    have := cntB_not f n
    unfold cntB
    cases f n <;> simp <;> omega
theorem filter_two (f : Nat → Bool) : ∀ l : List Nat, (l.filter f).length + (l.filter (fun x => !f x)).length = l.length
  | [] => rfl
  | a :: l => by
    have := filter_two f l
    cases h : f a <;> simp [h] <;> omega
/-- A list of all the first n places has as many of a kind as there are. -/
theorem nodup_count (f : Nat → Bool) {n : Nat} {l : List Nat} (hn : l.Nodup) (h : ∀ x ∈ l, x < n) (hl : l.length = n) : (l.filter f).length = cntB f n := by
  have a := nodup_cnt f n (l.filter f) (hn.filter _) (fun x hx => ⟨h x (List.mem_filter.1 hx).1, (List.mem_filter.1 hx).2⟩)
  have b := nodup_cnt (fun x => !f x) n (l.filter (fun x => !f x)) (hn.filter _) (fun x hx => ⟨h x (List.mem_filter.1 hx).1, (List.mem_filter.1 hx).2⟩)
  have c := cntB_not f n
  have d := filter_two f l
  omega
theorem all_in {n : Nat} {l : List Nat} (hn : l.Nodup) (h : ∀ x ∈ l, x < n) (hl : l.length = n) : ∀ c, c < n → c ∈ l := by
  intro c hc
  have h1 := nodup_count (fun x => x == c) hn h hl
  have h2 : ∀ m, c < m → 0 < cntB (fun x => x == c) m := by
    intro m
    induction m with
    | zero => intro q; omega
    | succ m ih =>
      intro q
      unfold cntB
      by_cases e : m = c
      · simp [e]
      · have := ih (by omega); omega
  have h3 := h2 n hc
  obtain ⟨y, hy⟩ := List.exists_mem_of_length_pos (l := l.filter (fun x => x == c)) (by omega)
  have := List.mem_filter.1 hy
  have e : y = c := by simpa using this.2
  exact e ▸ this.1
theorem tree_sub {t : NL} {p : Nat} {L : List Nat} (h : Tree t p L) : ∀ x ∈ L, ∃ M, Tree t x M ∧ M.Sublist L := by
  induction h with
  | @leaf p hp hl hr => intro x hx; simp at hx; subst hx; exact ⟨_, Tree.leaf hp hl hr, List.Sublist.refl _⟩
  | @inner p l r L R hp hl hr h1 h2 ih1 ih2 =>
    intro x hx
    simp only [List.mem_cons, List.mem_append] at hx
    rcases hx with rfl | hx | hx
    · exact ⟨_, Tree.inner hp hl hr h1 h2, List.Sublist.refl _⟩
    · obtain ⟨M, q1, q2⟩ := ih1 x hx
      exact ⟨M, q1, (q2.trans (List.sublist_append_left _ _)).cons _⟩
    · obtain ⟨M, q1, q2⟩ := ih2 x hx
      exact ⟨M, q1, (q2.trans (List.sublist_append_right _ _)).cons _⟩
/-- From each place of a table in form on stands a tree. -/
theorem form_at {t : NL} (hf : InForm t) (x : Nat) (hx : x < t.length) : ∃ M, Tree t x M ∧ M.Nodup ∧ M.length ≤ t.length ∧ ∀ y ∈ M, y < t.length := by
  obtain ⟨L, h1, h2, h3⟩ := hf.tree
  obtain ⟨M, q1, q2⟩ := tree_sub h1 x (all_in h2 h1.all h3 x hx)
  exact ⟨M, q1, q2.nodup h2, by rw [← h3]; exact q2.length_le, q1.all⟩
end Go.Proofs.Ythdfpddijocfkaa
