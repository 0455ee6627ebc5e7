
/- Layer 16, pure: tables as trees. No function of the program. -/

import Derived.Test.YthdfpddijocfkaaMPure

namespace Go.Proofs.Ythdfpddijocfkaa

structure NdD where
  key : Int
  inf : Int
  wt : Int
  val : Int
  l : Int
  r : Int
abbrev NL := List NdD
def nd0 : NdD := ⟨0, 0, 0, 0, 0, 0⟩
def ndAt (t : NL) (i : Nat) : NdD := t.getD i nd0
/-- A node that is right by itself, in a table of m. -/
def NodeOk (n : NdD) (m : Int) : Prop :=
  ((n.l = -1 ∧ n.r = -1) ∨ (1 ≤ n.l ∧ n.l < m ∧ 1 ≤ n.r ∧ n.r < m ∧ n.l ≠ n.r ∧ n.val = 0)) ∧ (n.inf = 0 ∨ n.inf = 1 ∧ n.key = 0 ∧ n.val = 0) ∧ 0 ≤ n.wt ∧ n.wt ≤ 1000000

/-- L: the places from p on down, a node ahead of what is below it, left ahead of right. -/
inductive Tree (t : NL) : Nat → List Nat → Prop
  | leaf {p : Nat} : p < t.length → (ndAt t p).l = -1 → (ndAt t p).r = -1 → Tree t p [p]
  | inner {p l r : Nat} {L R : List Nat} : p < t.length → (ndAt t p).l = (l : Int) → (ndAt t p).r = (r : Int) → Tree t l L → Tree t r R → Tree t p (p :: (L ++ R))
theorem Tree.det {t : NL} {p : Nat} {L : List Nat} (h : Tree t p L) : ∀ {L' : List Nat}, Tree t p L' → L = L' := by
  induction h with
  | leaf hp hl hr =>
    intro L' h'
    cases h' with
    | leaf => rfl
    | inner _ hl' => omega
  | inner hp hl hr _ _ ih1 ih2 =>
    intro L' h'
    cases h' with
    | leaf _ hl' => omega
    | inner _ hl' hr' h1 h2 =>
      have e1 := hl.symm.trans hl'
      have e2 := hr.symm.trans hr'
      obtain rfl := Int.ofNat.inj e1
      obtain rfl := Int.ofNat.inj e2
      rw [ih1 h1, ih2 h2]
theorem Tree.lt {t : NL} {p : Nat} {L : List Nat} (h : Tree t p L) : p < t.length := by cases h <;> assumption
theorem Tree.all {t : NL} {p : Nat} {L : List Nat} (h : Tree t p L) : ∀ x ∈ L, x < t.length := by
  induction h with
  | leaf hp => intro x hx; simp at hx; omega
  | inner hp _ _ _ _ ih1 ih2 =>
    intro x hx
    simp at hx
    rcases hx with rfl | hx | hx
    · exact hp
    · exact ih1 x hx
    · exact ih2 x hx
theorem Tree.pos {t : NL} {p : Nat} {L : List Nat} (h : Tree t p L) : 0 < L.length := by cases h <;> simp
theorem Tree.ne {t : NL} {p : Nat} {L : List Nat} (h : Tree t p L) : L ≠ [] := by cases h <;> simp
/-- Each place of a tree is a leaf, or has both its children. -/
theorem Tree.each {t : NL} {p : Nat} {L : List Nat} (h : Tree t p L) : ∀ x ∈ L, ((ndAt t x).l = -1 ∧ (ndAt t x).r = -1) ∨ ∃ l r : Nat, (ndAt t x).l = (l : Int) ∧ (ndAt t x).r = (r : Int) ∧ l < t.length ∧ r < t.length ∧ l ∈ L ∧ r ∈ L := by
  induction h with
  | leaf hp hl hr => intro x hx; simp at hx; subst hx; exact Or.inl ⟨hl, hr⟩
  | @inner p l r L R hp hl hr h1 h2 ih1 ih2 =>
    have ml : l ∈ L := by cases h1 <;> simp
    have mr : r ∈ R := by cases h2 <;> simp
    intro x hx
    simp at hx
    rcases hx with rfl | hx | hx
    · exact Or.inr ⟨l, r, hl, hr, h1.lt, h2.lt, by simp [ml], by simp [mr]⟩
    · rcases ih1 x hx with e | ⟨a, b, h3, h4, h5, h6, h7, h8⟩
      · exact Or.inl e
      · exact Or.inr ⟨a, b, h3, h4, h5, h6, by simp [h7], by simp [h8]⟩
    · rcases ih2 x hx with e | ⟨a, b, h3, h4, h5, h6, h7, h8⟩
      · exact Or.inl e
      · exact Or.inr ⟨a, b, h3, h4, h5, h6, by simp [h7], by simp [h8]⟩

/-- What is still to be gone to (the next one first), and the places that will be passed. -/
def Todo (t : NL) : List Nat → List Nat → Prop
  | [], R => R = []
  | s :: S, R => ∃ L R', Tree t s L ∧ Todo t S R' ∧ R = L ++ R'
theorem todo_one {t : NL} {p : Nat} {L : List Nat} (h : Tree t p L) : Todo t [p] L := ⟨L, [], h, rfl, by simp⟩
theorem todo_length {t : NL} : ∀ {S R : List Nat}, Todo t S R → S.length ≤ R.length
  | [], R, h => by simp
  | s :: S, R, ⟨L, R', h1, h2, h3⟩ => by
    have := todo_length h2
    have := h1.pos
    subst h3
    simp; omega
/-- One step of the walk. -/
theorem todo_step {t : NL} {s : Nat} {S R : List Nat} (h : Todo t (s :: S) R) : s < t.length ∧ ((∃ R', R = s :: R' ∧ (ndAt t s).l = -1 ∧ (ndAt t s).r = -1 ∧ Todo t S R') ∨
    (∃ (l r : Nat) (R' R'' : List Nat), R = s :: R' ∧ (ndAt t s).l = (l : Int) ∧ (ndAt t s).r = (r : Int) ∧ l < t.length ∧ r < t.length ∧ Todo t (l :: r :: S) R' ∧ Todo t (r :: l :: S) R'' ∧ R''.length = R'.length)) := by
  obtain ⟨L, R', h1, h2, rfl⟩ := h
  refine ⟨h1.lt, ?_⟩
  cases h1 with
  | leaf hp hl hr => exact Or.inl ⟨R', rfl, hl, hr, h2⟩
  | @inner _ l r L1 L2 hp hl hr g1 g2 =>
    refine Or.inr ⟨l, r, L1 ++ (L2 ++ R'), L2 ++ (L1 ++ R'), by simp, hl, hr, g1.lt, g2.lt, ⟨L1, _, g1, ⟨L2, R', g2, h2, rfl⟩, rfl⟩, ⟨L2, _, g2, ⟨L1, R', g1, h2, rfl⟩, rfl⟩, ?_⟩
    simp; omega

/-- How many of the first i nodes have c for a child. -/
def cntN (t : NL) (c : Nat) : Nat → Nat
  | 0 => 0
  | i + 1 => cntN t c i + (if (ndAt t i).l = (c : Int) then 1 else 0) + (if (ndAt t i).r = (c : Int) then 1 else 0)
def Child (t : NL) (p c : Nat) : Prop := (ndAt t p).l = (c : Int) ∨ (ndAt t p).r = (c : Int)
theorem cnt_mono (t : NL) (c : Nat) : ∀ {i j : Nat}, i ≤ j → cntN t c i ≤ cntN t c j := by
  intro i j h
  obtain ⟨k, rfl⟩ := Nat.le.dest h
  clear h
  induction k with
  | zero => simp
  | succ k ih => exact Nat.le_trans ih (by show cntN t c (i + k) ≤ cntN t c (i + k) + _ + _; omega)
theorem cnt_child {t : NL} {c p : Nat} (h : Child t p c) : cntN t c p + 1 ≤ cntN t c (p + 1) := by
  show _ ≤ cntN t c p + _ + _
  rcases h with h | h
  · rw [if_pos h]; omega
  · rw [if_pos h]; omega
theorem cnt_uniq {t : NL} {c n i j : Nat} (h : cntN t c n = 1) (hi : i < n) (hj : j < n) (ci : Child t i c) (cj : Child t j c) : i = j := by
  have one : ∀ {i j : Nat}, i < j → j < n → Child t i c → Child t j c → False := by
    intro i j hij hj ci cj
    have a := cnt_child ci
    have b := cnt_child cj
    have d := cnt_mono t c (i := i + 1) (j := j) hij
    have e := cnt_mono t c (i := j + 1) (j := n) hj
    omega
  rcases Nat.lt_trichotomy i j with h1 | h1 | h1
  · exact (one h1 hj ci cj).elim
  · exact h1
  · exact (one h1 hi cj ci).elim
/-- A list of unlike numbers below n has at most n of them. -/
theorem nodup_le : ∀ (n : Nat) (l : List Nat), l.Nodup → (∀ x ∈ l, x < n) → l.length ≤ n
  | 0, l, _, h => by
    cases l with
    | nil => simp
    | cons a _ => have := h a (by simp); omega
  | n + 1, l, hn, h => by
    have ih := nodup_le n (l.erase n) (hn.erase n) (fun x hx => by
      have h1 := h x (List.mem_of_mem_erase hx)
      have h2 : x ≠ n := fun e => by subst e; exact (List.Nodup.not_mem_erase hn) hx
      omega)
    have e := List.length_erase (a := n) (l := l)
    split at e <;> omega

/-- Nodes right by themselves, each place but 0 the child of just one. -/
structure Good (t : NL) : Prop where
  node : ∀ i, i < t.length → NodeOk (ndAt t i) t.length
  one : ∀ c, 1 ≤ c → c < t.length → cntN t c t.length = 1
theorem good_walk {t : NL} (hg : Good t) : ∀ (fuel : Nat) (V S : List Nat), (V ++ S).Nodup → (∀ x ∈ V ++ S, x < t.length) → (∀ c ∈ V ++ S, c = 0 ∨ ∃ p ∈ V, Child t p c) → t.length ≤ V.length + fuel →
    ∃ R, Todo t S R ∧ (V ++ R).Nodup ∧ ∀ x ∈ V ++ R, x < t.length := by
  intro fuel
  induction fuel with
  | zero =>
    intro V S hn hlt hp hf
    cases S with
    | nil => exact ⟨[], rfl, hn, hlt⟩
    | cons s S =>
      have := nodup_le _ _ hn hlt
      simp at this
      omega
  | succ fuel ih =>
    intro V S hn hlt hp hf
    cases S with
    | nil => exact ⟨[], rfl, hn, hlt⟩
    | cons s S =>
      have hs : s < t.length := hlt s (by simp)
      have e : (V ++ [s]) ++ S = V ++ s :: S := by simp
      have sV : s ∉ V := by
        intro q
        rw [List.nodup_append] at hn
        exact hn.2.2 s q s (by simp) rfl
      by_cases hleaf : (ndAt t s).l = -1 ∧ (ndAt t s).r = -1
      · obtain ⟨R, h1, h2, h3⟩ := ih (V ++ [s]) S (by rw [e]; exact hn) (by rw [e]; exact hlt) (by
          rw [e]; intro c hc
          rcases hp c hc with h | ⟨p, hp, hc⟩
          · exact Or.inl h
          · exact Or.inr ⟨p, by simp [hp], hc⟩) (by simp; omega)
        have e2 : (V ++ [s]) ++ R = V ++ s :: R := by simp
        rw [e2] at h2 h3
        exact ⟨s :: R, ⟨[s], R, Tree.leaf hs hleaf.1 hleaf.2, h1, rfl⟩, h2, h3⟩
      · have ho := (hg.node s hs).1
        rcases ho with h | ⟨l1, l2, r1, r2, hne, _⟩
        · exact absurd h hleaf
        · obtain ⟨l, hl⟩ := Int.eq_ofNat_of_zero_le (show 0 ≤ (ndAt t s).l by omega)
          obtain ⟨r, hr⟩ := Int.eq_ofNat_of_zero_le (show 0 ≤ (ndAt t s).r by omega)
          have hl' : (ndAt t s).l = (l : Int) := hl
          have hr' : (ndAt t s).r = (r : Int) := hr
          have out : ∀ c : Nat, 1 ≤ c → c < t.length → Child t s c → c ∉ V ++ s :: S := by
            intro c c1 c2 hc q
            rcases hp c q with h | ⟨p, hpV, hpc⟩
            · omega
            · have := cnt_uniq (hg.one c c1 c2) hs (hlt p (by simp [hpV])) hc hpc
              subst this
              exact sV hpV
          have ol := out l (by omega) (by omega) (Or.inl hl')
          have or' := out r (by omega) (by omega) (Or.inr hr')
          have lr : l ≠ r := fun q => hne (by rw [hl', hr', q])
          have hperm : ((V ++ [s]) ++ (l :: r :: S)).Nodup := by
            have hbase : (l :: r :: (V ++ s :: S)).Nodup := by
              rw [List.nodup_cons, List.nodup_cons]
              exact ⟨by simp only [List.mem_cons, not_or]; exact ⟨lr, ol⟩, or', hn⟩
            refine (List.Perm.nodup_iff ?_).1 hbase
            have p1 : (V ++ s :: S) = (V ++ [s]) ++ S := by simp
            rw [p1]
            exact ((List.perm_middle (a := r) (l₁ := V ++ [s]) (l₂ := S)).symm.cons l).trans (List.perm_middle (a := l) (l₁ := V ++ [s]) (l₂ := r :: S)).symm
          obtain ⟨R, h1, h2, h3⟩ := ih (V ++ [s]) (l :: r :: S) hperm (by
              intro x hx
              simp at hx
              rcases hx with h | h | h | h | h
              · exact hlt x (by simp [h])
              · omega
              · omega
              · omega
              · exact hlt x (by simp [h])) (by
              intro c hc
              simp at hc
              have old : c ∈ V ++ s :: S → c = 0 ∨ ∃ p ∈ V ++ [s], Child t p c := by
                intro q
                rcases hp c q with h | ⟨p, hpV, hpc⟩
                · exact Or.inl h
                · exact Or.inr ⟨p, by simp [hpV], hpc⟩
              rcases hc with h | h | h | h | h
              · exact old (by simp [h])
              · exact old (by simp [h])
              · exact Or.inr ⟨s, by simp, by rw [h]; exact Or.inl hl'⟩
              · exact Or.inr ⟨s, by simp, by rw [h]; exact Or.inr hr'⟩
              · exact old (by simp [h])) (by simp; omega)
          obtain ⟨L1, R1, t1, ⟨L2, R2, t2, h4, rfl⟩, rfl⟩ := h1
          refine ⟨(s :: (L1 ++ L2)) ++ R2, ⟨_, _, Tree.inner hs hl' hr' t1 t2, h4, rfl⟩, ?_, ?_⟩
          · have e2 : (V ++ [s]) ++ (L1 ++ (L2 ++ R2)) = V ++ (s :: (L1 ++ L2) ++ R2) := by simp
            rw [e2] at h2; exact h2
          · have e2 : (V ++ [s]) ++ (L1 ++ (L2 ++ R2)) = V ++ (s :: (L1 ++ L2) ++ R2) := by simp
            rw [e2] at h3; exact h3
/-- What can be reached from the root of a good table is a tree. -/
theorem good_tree {t : NL} (hg : Good t) (h0 : 0 < t.length) : ∃ L, Tree t 0 L ∧ L.Nodup ∧ L.length ≤ t.length := by
  obtain ⟨R, h1, h2, h3⟩ := good_walk hg t.length [] [0] (by simp) (by simp; exact h0) (by simp) (by simp)
  obtain ⟨L, R', h4, h5, rfl⟩ := h1
  have : R' = [] := h5
  subst this
  simp only [List.nil_append, List.append_nil] at h2 h3
  exact ⟨L, h4, h2, nodup_le _ _ h2 h3⟩

/-- In form, but for the number of nodes. -/
structure InForm (t : NL) : Prop where
  pos : 0 < t.length
  good : Good t
  whole : ∃ L, Tree t 0 L ∧ L.length = t.length
open Classical in
/-- Check's answer. -/
noncomputable def formE (t : NL) : Int := if 100000 < t.length then 2 else if InForm t then 0 else 3
theorem formE_ok {t : NL} (h : formE t = 0) : t.length ≤ 100000 ∧ InForm t := by
  unfold formE at h
  split at h
  · omega
  · split at h
    · exact ⟨by omega, by assumption⟩
    · omega
theorem formE_of {t : NL} (h1 : t.length ≤ 100000) (h2 : InForm t) : formE t = 0 := by
  unfold formE
  rw [if_neg (by omega), if_pos h2]
theorem formE_big {t : NL} (h1 : 100000 < t.length) : formE t = 2 := by unfold formE; rw [if_pos h1]
theorem formE_not {t : NL} (h1 : t.length ≤ 100000) (h2 : ¬ InForm t) : formE t = 3 := by
  unfold formE
  rw [if_neg (by omega), if_neg h2]
theorem InForm.tree {t : NL} (h : InForm t) : ∃ L, Tree t 0 L ∧ L.Nodup ∧ L.length = t.length := by
  obtain ⟨L, h1, h2⟩ := h.whole
  obtain ⟨L', h3, h4, h5⟩ := good_tree h.good h.pos
  obtain rfl := h1.det h3
  exact ⟨_, h1, h4, h2⟩

/-- Each place's new one, behind i rows. -/
def atN (L : List Nat) : Nat → Nat → Int
  | 0, _ => 0
  | i + 1, x => if x = L.getD i 0 then (i : Int) else atN L i x
/-- A node with its children's new places. -/
def renD (f : Nat → Int) (n : NdD) : NdD := if n.l = -1 then n else { n with l := f n.l.toNat, r := f n.r.toNat }
/-- The tree, numbered from its root on. -/
def partL (t : NL) (L : List Nat) : NL := L.map (fun p => renD (atN L L.length) (ndAt t p))
theorem partL_length (t : NL) (L : List Nat) : (partL t L).length = L.length := by simp [partL]
end Go.Proofs.Ythdfpddijocfkaa
