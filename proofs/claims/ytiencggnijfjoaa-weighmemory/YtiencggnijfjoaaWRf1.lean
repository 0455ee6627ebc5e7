
/- Layer 17, pure: what is handed down by places (the reference's arrays) is what is handed down a tree. Layer 17: the reference's sums. -/

import Derived.Test.YtiencggnijfjoaaWBdP

import Derived.Test.YtiencggnijfjoaaWSnd

namespace Go.Proofs.Ytiencggnijfjoaa

def two {α : Type} (A : Nat → α) (l r : Nat) (u v : α) : Nat → α := fun z => if z = r then v else if z = l then u else A z
def lN (t : NL) (y : Nat) : Nat := (ndAt t y).l.toNat
def rN (t : NL) (y : Nat) : Nat := (ndAt t y).r.toNat
/-- One step: what a node hands to its children. -/
def dn1 {α : Type} (f : Nat → α → Nat → α) (t : NL) (A : Nat → α) (y : Nat) : Nat → α := if (ndAt t y).l = -1 then A else two A (lN t y) (rN t y) (f y (A y) (lN t y)) (f y (A y) (rN t y))
def dn {α : Type} (f : Nat → α → Nat → α) (t : NL) : (Nat → α) → List Nat → Nat → α
  | A, [] => A
  | A, y :: M => dn f t (dn1 f t A y) M
theorem dn_append {α : Type} (f : Nat → α → Nat → α) (t : NL) : ∀ (M R : List Nat) (A : Nat → α), dn f t A (M ++ R) = dn f t (dn f t A M) R
  | [], _, _ => rfl
  | _ :: M, R, _ => dn_append f t M R _
theorem dn_snoc {α : Type} (f : Nat → α → Nat → α) (t : NL) (M : List Nat) (y : Nat) (A : Nat → α) : dn f t A (M ++ [y]) = dn1 f t (dn f t A M) y := by rw [dn_append]; rfl
/-- It changes nothing but what stands below. -/
theorem dn_out {α : Type} (f : Nat → α → Nat → α) {t : NL} {p : Nat} {L : List Nat} (h : Tree t p L) : ∀ (A : Nat → α) (z : Nat), z ∉ L.tail → dn f t A L z = A z := by
  induction h with
  | leaf hp hl hr => intro A z _; simp [dn, dn1, hl]
  | @inner p l r L R hp hl hr h1 h2 ih1 ih2 =>
    intro A z hz
    simp only [List.tail_cons, List.mem_append, not_or] at hz
    obtain ⟨L', rfl⟩ := h1.head
    obtain ⟨R', rfl⟩ := h2.head
    simp only [List.mem_cons, not_or] at hz
    show dn f t (dn1 f t A p) (l :: L' ++ r :: R') z = A z
    rw [dn_append, ih2 _ z (by simpa using hz.2.2), ih1 _ z (by simpa using hz.1.2)]
    unfold dn1
    rw [if_neg (by omega)]
    unfold two lN rN
    rw [hl, hr, Int.toNat_natCast, Int.toNat_natCast, if_neg hz.2.1, if_neg hz.1.1]
theorem dn_inner {α : Type} (f : Nat → α → Nat → α) {t : NL} {p l r : Nat} {L R : List Nat} (hl : (ndAt t p).l = (l : Int)) (hr : (ndAt t p).r = (r : Int)) (h1 : Tree t l L) (h2 : Tree t r R) (hN : (p :: (L ++ R)).Nodup) (A : Nat → α) :
    ∃ A1 A2 : Nat → α, A1 l = f p (A p) l ∧ A2 r = f p (A p) r ∧ A1 p = A p ∧ (∀ z, z ≠ l → z ≠ r → A1 z = A z) ∧ (∀ z ∈ R, z ≠ r → A2 z = A z) ∧ (∀ z ∈ L, dn f t A (p :: (L ++ R)) z = dn f t A1 L z) ∧ (∀ z ∈ R, dn f t A (p :: (L ++ R)) z = dn f t A2 R z) ∧ dn f t A (p :: (L ++ R)) p = A p ∧ dn f t A (p :: (L ++ R)) = dn f t A2 R ∧ A2 = dn f t A1 L ∧ A1 = dn1 f t A p := by
  obtain ⟨L', rfl⟩ := h1.head
  obtain ⟨R', rfl⟩ := h2.head
  rw [List.nodup_cons, List.nodup_append] at hN
  obtain ⟨n1, n2, n3, n4⟩ := hN
  have n5 : p ≠ l := fun q => n1 (by simp [q])
  have n6 : p ≠ r := fun q => n1 (by simp [q])
  have n7 : l ≠ r := n4 l (by simp) r (by simp)
  have e1 : dn1 f t A p = two A l r (f p (A p) l) (f p (A p) r) := by
    unfold dn1 lN rN
    rw [if_neg (by omega), hl, hr, Int.toNat_natCast, Int.toNat_natCast]
  have tl : ∀ z, z ∈ r :: R' → z ∉ (l :: L').tail := fun z hz q => n4 z (List.mem_of_mem_tail q) z hz rfl
  have tr : ∀ z, z ∈ l :: L' → z ∉ (r :: R').tail := fun z hz q => n4 z hz z (List.mem_of_mem_tail q) rfl
  have e2 : dn f t A (p :: (l :: L' ++ r :: R')) = dn f t (dn f t (dn1 f t A p) (l :: L')) (r :: R') := by
    show dn f t (dn1 f t A p) (l :: L' ++ r :: R') = _
    rw [dn_append]
  refine ⟨dn1 f t A p, dn f t (dn1 f t A p) (l :: L'), ?_, ?_, ?_, ?_, ?_, ?_, ?_, ?_, e2, rfl, rfl⟩
  · rw [e1]; simp [two, n7]
  · rw [dn_out f h1 _ r (tl r (by simp)), e1]; simp [two]
  · rw [e1]; simp [two, n5, n6]
  · intro z z1 z2; rw [e1]; simp [two, z1, z2]
  · intro z hz z2
    rw [dn_out f h1 _ z (tl z hz), e1]
    have z1 : z ≠ l := fun q => n4 l (by simp) z hz q.symm
    simp [two, z1, z2]
  · intro z hz; rw [e2, dn_out f h2 _ z (tr z hz)]
  · intro z _; rw [e2]
  · rw [e2, dn_out f h2 _ p (fun q => n1 (List.mem_append_right _ (List.mem_of_mem_tail q))), dn_out f h1 _ p (fun q => n1 (List.mem_append_left _ (List.mem_of_mem_tail q))), e1]; simp [two, n5, n6]
theorem nam_wt {t : NL} {p : Nat} (hp : p < t.length) : (ndP (ndAt (namL t) p)).wt = (ndAt t p).wt := by
  rw [namL_at t p hp]
  exact (namD_lr p (ndAt t p)).2.2.2.1
theorem nam_key {t : NL} {p : Nat} (hp : p < t.length) (h : (ndAt t p).inf = 0) : (ndP (ndAt (namL t) p)).key = (p : Int) := by
  rw [namL_at t p hp]
  unfold namD
  rw [if_pos h]
  rfl
/-- The children of a named tree are the table's. -/
theorem nam_cases {t : NL} {p : Nat} {b : BT} (h : Abs (namL t) p b) : (∃ d, b = .leaf d ∧ d = ndP (ndAt (namL t) p) ∧ (ndAt t p).l = -1) ∨ ∃ (d : PD) (l r : Nat) (x y : BT), b = .node d x y ∧ d = ndP (ndAt (namL t) p) ∧ (ndAt t p).l = (l : Int) ∧ (ndAt t p).r = (r : Int) ∧ Abs (namL t) l x ∧ Abs (namL t) r y := by
  cases h with
  | leaf hp hl hr =>
    rw [namL_length] at hp
    rw [namL_at t p hp, (namD_lr _ _).1] at hl
    exact Or.inl ⟨_, rfl, rfl, hl⟩
  | @node _ l r x y hp hl hr h1 h2 =>
    rw [namL_length] at hp
    rw [namL_at t p hp, (namD_lr _ _).1] at hl
    rw [namL_at t p hp, (namD_lr _ _).2.1] at hr
    exact Or.inr ⟨_, l, r, x, y, rfl, rfl, hl, hr, h1, h2⟩

/-- The reference's sums. -/
def sF (t : NL) (_ : Nat) (a : Int) (c : Nat) : Int := a + (ndAt t c).wt
theorem sums_inh {t : NL} {p : Nat} {L : List Nat} (h : Tree t p L) : ∀ (b : BT) (A : Nat → Int) (a : Int), L.Nodup → Abs (namL t) p b → A p = a + (ndAt t p).wt → (lvL t L).map (dn (sF t) t A L) = inh sumF sumO b a := by
  induction h with
  | @leaf p hp hl hr =>
    intro b A a _ hb hA
    rcases nam_cases hb with ⟨d, rfl, rfl, -⟩ | ⟨d, l, r, x, y, -, -, q, -⟩
    · have e := nam_wt hp
      simp [lvL, lfB, hl, dn, dn1, hA, inh, sumO, e]
    · omega
  | @inner p l r L R hp hl hr h1 h2 ih1 ih2 =>
    intro b A a hN hb hA
    rcases nam_cases hb with ⟨d, -, -, q⟩ | ⟨d, l', r', x, y, rfl, rfl, q1, q2, q3, q4⟩
    · omega
    obtain rfl : l' = l := by omega
    obtain rfl : r' = r := by omega
    obtain ⟨A1, A2, a1, a2, -, -, -, d1, d2, -, -, -, -⟩ := dn_inner (sF t) hl hr h1 h2 hN A
    have hN' := hN
    rw [List.nodup_cons, List.nodup_append] at hN'
    have e := nam_wt hp
    have e0 : lvL t (p :: (L ++ R)) = lvL t L ++ lvL t R := by
      rw [← lv_append]
      unfold lvL
      rw [List.filter_cons_of_neg (by simp [lfB]; omega)]
    have m1 : (lvL t L).map (dn (sF t) t A (p :: (L ++ R))) = (lvL t L).map (dn (sF t) t A1 L) := List.map_congr_left fun z hz => d1 z (List.mem_filter.1 hz).1
    have m2 : (lvL t R).map (dn (sF t) t A (p :: (L ++ R))) = (lvL t R).map (dn (sF t) t A2 R) := List.map_congr_left fun z hz => d2 z (List.mem_filter.1 hz).1
    rw [e0, List.map_append, m1, m2, ih1 x A1 (sumF (ndP (ndAt (namL t) p)) a) hN'.2.1 q3 (by rw [a1, hA]; simp only [sF, sumF, e]), ih2 y A2 (sumF (ndP (ndAt (namL t) p)) a) hN'.2.2.1 q4 (by rw [a2, hA]; simp only [sF, sumF, e])]
    simp [inh, sumO]
theorem sums_bound {t : NL} (hw : ∀ y, y < t.length → 0 ≤ (ndAt t y).wt ∧ (ndAt t y).wt ≤ 1000000) {p : Nat} {L : List Nat} (h : Tree t p L) : ∀ (A : Nat → Int) (K : Nat), L.Nodup → 0 ≤ A p → A p ≤ 1000000 * (K : Int) → ∀ z ∈ L, 0 ≤ dn (sF t) t A L z ∧ dn (sF t) t A L z ≤ 1000000 * ((K : Int) + L.length) := by
  induction h with
  | @leaf p hp hl hr =>
    intro A K _ h0 h1 z hz
    simp at hz
    subst hz
    simp [dn, dn1, hl]
    omega
  | @inner p l r L R hp hl hr h1 h2 ih1 ih2 =>
    intro A K hN h0 hK z hz
    obtain ⟨A1, A2, a1, a2, -, -, -, d1, d2, d3, -, -, -⟩ := dn_inner (sF t) hl hr h1 h2 hN A
    have hN' := hN
    rw [List.nodup_cons, List.nodup_append] at hN'
    have w1 := hw l h1.lt
    have w2 := hw r h2.lt
    simp only [sF] at a1 a2
    simp only [List.mem_cons, List.mem_append] at hz
    simp only [List.length_cons, List.length_append]
    rcases hz with rfl | hz | hz
    · rw [d3]; omega
    · rw [d1 z hz]
      have := ih1 A1 (K + 1) hN'.2.1 (by omega) (by omega) z hz
      omega
    · rw [d2 z hz]
      have := ih2 A2 (K + 1) hN'.2.2.1 (by omega) (by omega) z hz
      omega

/-- The reference's depths. -/
def eF (_ : Nat) (a : Int) (_ : Nat) : Int := a + 1
def mostL (t : NL) : (Nat → Int) → List Nat → Int → Int
  | _, [], m => m
  | A, y :: M, m => mostL t (dn1 eF t A y) M (max m (A y))
theorem most_append (t : NL) : ∀ (M R : List Nat) (A : Nat → Int) (m : Int), mostL t A (M ++ R) m = mostL t (dn eF t A M) R (mostL t A M m)
  | [], _, _, _ => rfl
  | _ :: M, R, _, _ => most_append t M R _ _
theorem most_snoc (t : NL) (M : List Nat) (y : Nat) (A : Nat → Int) (m : Int) : mostL t A (M ++ [y]) m = max (mostL t A M m) (dn eF t A M y) := by rw [most_append]; rfl
theorem most_dep {t : NL} {p : Nat} {L : List Nat} (h : Tree t p L) : ∀ (b : BT) (A : Nat → Int) (m : Int), L.Nodup → Abs t p b → mostL t A L m = max m (A p + b.dep) := by
  induction h with
  | @leaf p hp hl hr =>
    intro b A m _ hb
    cases hb with
    | leaf => simp [mostL, BT.dep]
    | node _ q => omega
  | @inner p l r L R hp hl hr h1 h2 ih1 ih2 =>
    intro b A m hN hb
    cases hb with
    | leaf _ q => omega
    | @node _ l' r' x y _ q1 q2 q3 q4 =>
      obtain rfl : l' = l := by omega
      obtain rfl : r' = r := by omega
      obtain ⟨A1, A2, a1, a2, -, -, -, d1, d2, -, -, eA2, eA1⟩ := dn_inner eF hl hr h1 h2 hN A
      have hN' := hN
      rw [List.nodup_cons, List.nodup_append] at hN'
      show mostL t (dn1 eF t A p) (L ++ R) (max m (A p)) = _
      rw [most_append, ← eA1, ← eA2, ih1 x A1 _ hN'.2.1 q3, ih2 y A2 _ hN'.2.2.1 q4, a1, a2]
      simp only [eF, BT.dep]
      omega
theorem dn_bound (t : NL) : ∀ (M : List Nat) (A : Nat → Int) (K : Nat), (∀ z, 0 ≤ A z ∧ A z ≤ (K : Int)) → ∀ z, 0 ≤ dn eF t A M z ∧ dn eF t A M z ≤ ((K + M.length : Nat) : Int)
  | [], A, K, h, z => by have := h z; simp only [dn, List.length_nil]; omega
  | y :: M, A, K, h, z => by
    have h' : ∀ z, 0 ≤ dn1 eF t A y z ∧ dn1 eF t A y z ≤ ((K + 1 : Nat) : Int) := fun z => by
      have a := h z
      have b := h y
      unfold dn1
      split
      · omega
      · simp only [two, eF]
        split
        · omega
        · split <;> omega
    have := dn_bound t M _ (K + 1) h' z
    simp only [dn, List.length_cons]
    omega

/-- The reference's reds. -/
def rF (t : NL) (y : Nat) (_ : Bool) (c : Nat) : Bool := redQ (ndAt t y).wt (ndAt t c).wt
theorem reds_inh {t : NL} {p : Nat} {L : List Nat} (h : Tree t p L) : ∀ (b : BT) (A : Nat → Bool) (a : Int), L.Nodup → (∀ y ∈ L, (ndAt t y).inf = 0) → Abs (namL t) p b → A p = redQ a (ndAt t p).wt → (L.filter (dn (rF t) t A L)).map (fun x : Nat => (x : Int)) = inh redF redO b a := by
  induction h with
  | @leaf p hp hl hr =>
    intro b A a _ hi hb hA
    rcases nam_cases hb with ⟨d, rfl, rfl, -⟩ | ⟨d, l, r, x, y, -, -, q, -⟩
    · have e := nam_wt hp
      have e2 := nam_key hp (hi p (by simp))
      have e3 : dn (rF t) t A [p] p = redQ a (ndAt t p).wt := by simp [dn, dn1, hl, hA]
      simp only [inh, redO, e, e2]
      cases hq : redQ a (ndAt t p).wt
      · rw [List.filter_cons_of_neg (by rw [e3, hq]; simp)]; rfl
      · rw [List.filter_cons_of_pos (by rw [e3, hq])]; rfl
    · omega
  | @inner p l r L R hp hl hr h1 h2 ih1 ih2 =>
    intro b A a hN hi hb hA
    rcases nam_cases hb with ⟨d, -, -, q⟩ | ⟨d, l', r', x, y, rfl, rfl, q1, q2, q3, q4⟩
    · omega
    obtain rfl : l' = l := by omega
    obtain rfl : r' = r := by omega
    obtain ⟨A1, A2, a1, a2, -, -, -, d1, d2, d3, -, -, -⟩ := dn_inner (rF t) hl hr h1 h2 hN A
    have hN' := hN
    rw [List.nodup_cons, List.nodup_append] at hN'
    have e := nam_wt hp
    have e2 := nam_key hp (hi p (by simp))
    have m1 : L.filter (dn (rF t) t A (p :: (L ++ R))) = L.filter (dn (rF t) t A1 L) := List.filter_congr fun z hz => d1 z hz
    have m2 : R.filter (dn (rF t) t A (p :: (L ++ R))) = R.filter (dn (rF t) t A2 R) := List.filter_congr fun z hz => d2 z hz
    have i1 := ih1 x A1 (ndAt t p).wt hN'.2.1 (fun z hz => hi z (by simp [hz])) q3 a1
    have i2 := ih2 y A2 (ndAt t p).wt hN'.2.2.1 (fun z hz => hi z (by simp [hz])) q4 a2
    simp only [inh, redO, redF, e, e2]
    rw [← i1, ← i2]
    cases hq : redQ a (ndAt t p).wt
    · rw [List.filter_cons_of_neg (by rw [d3, hA, hq]; simp), List.filter_append, m1, m2, List.map_append]; simp
    · rw [List.filter_cons_of_pos (by rw [d3, hA, hq]), List.filter_append, m1, m2, List.map_cons, List.map_append]; simp
/-- A tree's children lie below it, each once. -/
theorem tree_child {t : NL} {x : Nat} {M : List Nat} (h : Tree t x M) (hN : M.Nodup) {y : Nat} (hy : y ∈ M) (hl : (ndAt t y).l ≠ -1) : ∃ l r : Nat, (ndAt t y).l = (l : Int) ∧ (ndAt t y).r = (r : Int) ∧ l < t.length ∧ r < t.length ∧ l ≠ y ∧ r ≠ y ∧ l ≠ r ∧ l ∈ M ∧ r ∈ M := by
  obtain ⟨My, hMy, hs⟩ := tree_sub h y hy
  have hn := hs.nodup hN
  cases hMy with
  | leaf _ q => exact absurd q hl
  | @inner _ l r L R _ h1 h2 t1 t2 =>
    obtain ⟨L', rfl⟩ := t1.head
    obtain ⟨R', rfl⟩ := t2.head
    rw [List.nodup_cons, List.nodup_append] at hn
    exact ⟨l, r, h1, h2, t1.lt, t2.lt, fun q => hn.1 (by simp [q]), fun q => hn.1 (by simp [q]), hn.2.2.2 l (by simp) r (by simp), hs.subset (by simp), hs.subset (by simp)⟩
end Go.Proofs.Ytiencggnijfjoaa

namespace Go.Proofs.Ytiencggnijfjoaa

open Go.RowKit

attribute [local go_sem ↓] Go.wp_at_zero Go.wp_at_succ

theorem bx_apart {w : World} {bx g k : Nat} {v : Value} {k0 k1 k2 k3 k4 k5 : Int} (h : Bx w bx k0 k1 k2 k3 k4 k5) (hg : g ≠ bx) : Bx (w.setCell ⟨g, k, none⟩ v).drew bx k0 k1 k2 k3 k4 k5 := by
  have e : ∀ i, (w.setCell ⟨g, k, none⟩ v).drew.cell? ⟨bx, i, none⟩ = w.cell? ⟨bx, i, none⟩ := fun i => by
    show (w.setCell ⟨g, k, none⟩ v).cell? ⟨bx, i, none⟩ = _
    exact World.cell?_setCell_far _ _ _ _ hg
  exact ⟨by simpa using h.lt, by simp only [e]; exact h.c⟩
/-- A new row of numbers, the first block behind w0. -/
structure ArI (w0 x : World) (n : Nat) (A : Nat → Int) : Prop where
  ab : Ints x w0.heap.size n A
  lt : w0.heap.size < x.heap.size
  below : Below w0.heap.size w0 x
theorem ArI.quiet {w0 x y : World} {n : Nat} {A : Nat → Int} (h : ArI w0 x n A) (hb : Below x.heap.size x y) : ArI w0 y n A := ⟨h.ab.below h.lt hb, Nat.lt_of_lt_of_le h.lt hb.size, h.below.trans (hb.mono h.below.size)⟩
theorem ArI.drew {w0 x : World} {n : Nat} {A : Nat → Int} (h : ArI w0 x n A) : ArI w0 x.drew n A := ⟨h.ab, h.lt, h.below.drew⟩
theorem ArI.set {w0 x : World} {n : Nat} {A : Nat → Int} (h : ArI w0 x n A) {l : Nat} (a : Int) (hl : l < n) : ArI w0 (x.setCell ⟨w0.heap.size, l, none⟩ (.int .i64 a)) n (fun z => if z = l then a else A z) :=
  ⟨h.ab.set l a hl, by simpa using h.lt, h.below.setCell (Nat.le_refl _) _⟩
theorem ArI.fn {w0 x : World} {n : Nat} {A A' : Nat → Int} (h : ArI w0 x n A) (e : ∀ j, j < n → A j = A' j) : ArI w0 x n A' := ⟨h.ab.fn e, h.lt, h.below⟩
/-- Places of a tree: each a leaf, or with children of its own. -/
def TreeOk (t : NL) (M : List Nat) : Prop := ∀ y ∈ M, y < t.length ∧ (((ndAt t y).l = -1 ∧ (ndAt t y).r = -1) ∨ ∃ l r : Nat, (ndAt t y).l = (l : Int) ∧ (ndAt t y).r = (r : Int) ∧ l < t.length ∧ r < t.length ∧ l ≠ y ∧ r ≠ y ∧ l ≠ r)
theorem treeOk_of {t : NL} {x : Nat} {M : List Nat} (h : Tree t x M) (hN : M.Nodup) : TreeOk t M := fun y hy => by
  refine ⟨h.all y hy, ?_⟩
  rcases h.each y hy with q | ⟨l, r, q, -⟩
  · exact Or.inl q
  · obtain ⟨l', r', h1, h2, h3, h4, h5, h6, h7, -, -⟩ := tree_child h hN hy (by omega)
    exact Or.inr ⟨l', r', h1, h2, h3, h4, h5, h6, h7⟩
/-- The array of sums behind m rounds. -/
def sA0 (t : NL) (M : List Nat) : Nat → Int := fun z => if z = M.getD 0 0 then (ndAt t (M.getD 0 0)).wt else 0
def bA (t : NL) (M : List Nat) (m : Nat) : Nat → Int := dn (sF t) t (sA0 t M) (M.take m)
def sA (t : NL) (M : List Nat) (m : Nat) : Nat → Int := if m = 0 then fun _ => 0 else bA t M m
theorem sdn_bound {t : NL} (hw : ∀ c, 0 ≤ (ndAt t c).wt ∧ (ndAt t c).wt ≤ 1000000) : ∀ (M : List Nat) (A : Nat → Int) (K : Nat), (∀ z, 0 ≤ A z ∧ A z ≤ 1000000 * (K : Int)) → ∀ z, 0 ≤ dn (sF t) t A M z ∧ dn (sF t) t A M z ≤ 1000000 * ((K + M.length : Nat) : Int)
  | [], A, K, h, z => by have := h z; simp only [dn, List.length_nil]; omega
  | y :: M, A, K, h, z => by
    have h' : ∀ z, 0 ≤ dn1 (sF t) t A y z ∧ dn1 (sF t) t A y z ≤ 1000000 * ((K + 1 : Nat) : Int) := fun z => by
      have a := h z
      have b := h y
      have c1 := hw (lN t y)
      have c2 := hw (rN t y)
      unfold dn1
      split
      · omega
      · simp only [two, sF]
        split
        · omega
        · split <;> omega
    have := sdn_bound hw M _ (K + 1) h' z
    simp only [dn, List.length_cons]
    omega
theorem bA_bound {t : NL} (hw : ∀ c, 0 ≤ (ndAt t c).wt ∧ (ndAt t c).wt ≤ 1000000) (M : List Nat) (m : Nat) (hM : M.length ≤ 100000) (z : Nat) : 0 ≤ bA t M m z ∧ bA t M m z ≤ 1000000 * 100001 := by
  have h := sdn_bound hw (M.take m) (sA0 t M) 1 (fun z => by
    have := hw (M.getD 0 0)
    unfold sA0
    split <;> omega) z
  have : (M.take m).length ≤ M.length := by rw [List.length_take]; omega
  unfold bA
  omega
theorem bA_leaf {t : NL} {M : List Nat} {m : Nat} (h : m < M.length) (hl : (ndAt t (M.getD m 0)).l = -1) : bA t M (m + 1) = bA t M m := by
  unfold bA
  rw [take_snoc h, dn_snoc]
  unfold dn1
  rw [if_pos hl]
theorem bA_inner {t : NL} {M : List Nat} {m l r : Nat} (h : m < M.length) (hl : (ndAt t (M.getD m 0)).l = (l : Int)) (hr : (ndAt t (M.getD m 0)).r = (r : Int)) : bA t M (m + 1) = two (bA t M m) l r (bA t M m (M.getD m 0) + (ndAt t l).wt) (bA t M m (M.getD m 0) + (ndAt t r).wt) := by
  unfold bA
  rw [take_snoc h, dn_snoc]
  unfold dn1
  rw [if_neg (by omega)]
  unfold lN rN
  rw [hl, hr, Int.toNat_natCast, Int.toNat_natCast]
  rfl
set_option maxRecDepth 100000 in
set_option maxHeartbeats 4000000 in
theorem vsums_any (base : Option Addr) (b o c : Nat) (t : NL) (a1 : Option Addr) (g1 c1 : Nat) (M : List Nat) (w : World) (h : NodesAt w base b o t) (hp : PlsAt w a1 g1 M) (hpos : 0 < t.length) (hbig : t.length ≤ 100000) (hMl : M.length ≤ 100000) (hM : TreeOk t M) (hw : ∀ c, 0 ≤ (ndAt t c).wt ∧ (ndAt t c).wt ≤ 1000000) :
    Calls Try.prog 47 #[.slice base t.length c, .slice a1 M.length c1] w fun e w' => ∃ g, e = .returned (.slice (some ⟨g, 0, none⟩) t.length t.length) ∧ Ints w' g t.length (sA t M M.length) ∧ w.heap.size ≤ g ∧ g < w'.heap.size ∧ Below w.heap.size w w' := by
  obtain rfl : base = some ⟨b, o, none⟩ := h.base (by omega)
  have hbl := h.lt (by omega)
  have HA : Hid (NodesAt _ _ _ _ _) := h
  have HP : Hid (PlsAt w a1 g1 M) := hp
  have HM : Hid (TreeOk t M) := hM
  have HW : Hid (∀ m z, 0 ≤ bA t M m z ∧ bA t M m z ≤ 1000000 * 100001) := fun m z => bA_bound hw M m hMl z
  have HWT : Hid (∀ c, 0 ≤ (ndAt t c).wt ∧ (ndAt t c).wt ≤ 1000000) := hw
  have hp0 : (0 : Int) < (t.length : Int) := by omega
  clear h hp hM hw
  have hmi := run_make_known (P := Try.prog) 23 3 (.int .i64 0) 1 8 ins_under in_info t.length (by omega) (by omega)
  have Z0 : Hid (Ints (w.alloc (.cells (Array.replicate t.length (.int .i64 0)) 3)) w.heap.size t.length (fun _ => 0)) := zeros_ints w 3 t.length
  go_enter Try.func47, Try.ntmps47
  go_wp2_with fail
  go_loopw [6] (fun i wr => ∃ j : Nat, j ≤ M.length ∧ i = .int .i64 j ∧ ArI w wr t.length (sA t M j)) (fun i _ => M.length - (intOf i).toNat)
  case atStart =>
    refine ⟨0, Nat.zero_le _, rfl, ?_, ?_, ?_⟩
    · rw [made_zeros]; exact Z0.out
    · simp
    · exact below_alloc _ _
  case round =>
    obtain ⟨j, hj, rfl, hI⟩ := hrel
    have S0 : Hid (ArI w wr t.length (sA t M j)) := hI
    have hlt0 := hI.lt
    have hbw := hI.below
    by_cases hlt : j < M.length
    · obtain rfl : a1 = some ⟨g1, 0, none⟩ := HP.out.base (by omega)
      have hg1 := HP.out.lt (by omega)
      have r1 := (HP.out.below hbw).cells j hlt
      have hbr : b < wr.heap.size := by omega
      have hgr : g1 < wr.heap.size := by omega
      have gne : g1 ≠ w.heap.size := by omega
      have bne : b ≠ w.heap.size := by omega
      have gne' : w.heap.size ≠ g1 := by omega
      have bne' : w.heap.size ≠ b := by omega
      have hym : M.getD j 0 ∈ M := by rw [List.getD_eq_getElem?_getD, List.getElem?_eq_getElem hlt]; exact List.getElem_mem hlt
      obtain ⟨hyl, hcase⟩ := HM.out _ hym
      have HC : Hid _ := (HA.out.below hbw).cells _ hyl
      have NC : Hid (∀ p, p < t.length → wr.cell? ⟨b, o + p * 6 + 2, none⟩ = some (.int .i64 (ndAt t p).wt)) := fun p hp => ((HA.out.below hbw).cells p hp).2.2.1
      have j0 : (0 : Int) ≤ (j : Int) := Int.natCast_nonneg _
      have j1 : (j : Int) < (M.length : Int) := by omega
      have y0 : (0 : Int) ≤ ((M.getD j 0 : Nat) : Int) := Int.natCast_nonneg _
      have y1 : ((M.getD j 0 : Nat) : Int) < (t.length : Int) := by omega
      have HSS : Hid (sA t M (j + 1) = bA t M (j + 1)) := by show sA t M (j + 1) = _; unfold sA; rw [if_neg (by omega)]
      have HS1 : Hid (j ≠ 0 → sA t M j = bA t M j) := fun q => by unfold sA; rw [if_neg q]
      have HS0 : Hid (j = 0 → sA t M j = (fun _ => 0) ∧ bA t M j = fun z => if z = M.getD j 0 then (ndAt t (M.getD j 0)).wt else 0) := fun q => by
        subst q
        exact ⟨rfl, rfl⟩
      clear hI hbw
      by_cases hj0 : j = 0
      · have d0 : ((j : Int) == 0) = true := by simp [hj0]
        obtain ⟨u1, u2⟩ := HS0.out hj0
        clear hj0
        rw [u1] at S0
        have f1 := (S0.out.ab _ hyl).2
        generalize hy : M.getD j 0 = y at *
        generalize hnd : ndAt t y = nd at *
        obtain ⟨k0, k1, k2, k3, k4, k5⟩ := nd
        simp only at HC u2 hcase
        obtain ⟨z0, z1, z2, z3, z4, z5⟩ := HC.out
        go_wp2_with fail
        generalize hW1 : wr.alloc (.cells #[.int .i64 k0, .int .i64 k1, .int .i64 k2, .int .i64 k3, .int .i64 k4, .int .i64 k5] 54) = W1
        have B1 : Hid (Below wr.heap.size wr W1) := by rw [← hW1]; exact below_alloc _ _
        have S1 : Hid (ArI w W1 t.length (fun _ => 0)) := S0.out.quiet B1.out
        have X1 : Hid (Bx W1 wr.heap.size k0 k1 k2 k3 k4 k5) := bx_new (hW1 ▸ heap_alloc_at wr _ wr.heap.size rfl)
        have f2 := (S1.out.ab _ hyl).2
        have f3 := (S1.out.ab _ hyl).1
        have x2 := X1.out.c.2.2.1
        have x3 := X1.out.lt
        have l1 := S1.out.lt
        have r2 := (B1.out.cell (p := ⟨g1, j, none⟩) hgr).trans r1
        have hs1 := B1.out.size
        clear hW1 f1 z0 z1 z2 z3 z4 z5
        go_region
        have S2 : Hid (ArI w (W1.setCell ⟨w.heap.size, y, none⟩ (.int .i64 k2)).drew t.length (bA t M j)) := ((S1.out.set k2 hyl).fn fun z _ => by rw [u2]).drew
        have B2 : Hid (∀ blk off, blk < wr.heap.size → blk ≠ w.heap.size → ((W1.setCell ⟨w.heap.size, y, none⟩ (.int .i64 k2)).drew).cell? ⟨blk, off, none⟩ = wr.cell? ⟨blk, off, none⟩) := fun blk off h1 h2 => by
          show (W1.setCell ⟨w.heap.size, y, none⟩ (.int .i64 k2)).cell? ⟨blk, off, none⟩ = _
          rw [World.cell?_setCell_far _ _ _ _ (Ne.symm h2)]
          exact B1.out.cell (p := ⟨blk, off, none⟩) h1
        have X2 : Hid (Bx (W1.setCell ⟨w.heap.size, y, none⟩ (.int .i64 k2)).drew wr.heap.size k0 k1 k2 k3 k4 k5) := bx_apart X1.out (by omega)
        clear f2 f3 x2 x3 l1 r2 S1 X1 B1 u1 u2 S0
        generalize (W1.setCell ⟨w.heap.size, y, none⟩ (.int .i64 k2)).drew = W2 at *
        obtain ⟨x0, x1, x2, x3, x4, x5⟩ := X2.out.c
        have xl := X2.out.lt
        rcases hcase with ⟨hl, hr⟩ | ⟨l, r, hl, hr, l2, r2, ly, ry, lr⟩
        · have HLF : Hid (leafB ⟨k0, k1, k2, k3, k4, k5⟩ = true) := leafB_yes hl hr
          have HE : Hid (bA t M (j + 1) = bA t M j) := bA_leaf hlt (by rw [hy, hnd]; exact hl)
          clear hl hr
          go_wp2_with (first | (go_at_call 48; refine (vLeaf_any _ _ _ _ _ _ _).mono ?_; rintro e w3 ⟨rfl, hb3⟩; rw [HLF.out]; have S3 : Hid (ArI w w3 t.length (bA t M j)) := S2.out.quiet hb3; clear hb3))
          exact ⟨⟨j + 1, by omega, by go_num, by rw [HSS.out, HE.out]; exact S3.out⟩, by simp [intOf]; omega⟩
        · have HLF : Hid (leafB ⟨k0, k1, k2, k3, k4, k5⟩ = false) := leafB_no (by show k4 ≠ -1; omega)
          have HE : Hid (bA t M (j + 1) = two (bA t M j) l r (bA t M j y + (ndAt t l).wt) (bA t M j y + (ndAt t r).wt)) := by
            have q := bA_inner (t := t) (M := M) (m := j) (l := l) (r := r) hlt (by rw [hy, hnd]; exact hl) (by rw [hy, hnd]; exact hr)
            rw [hy] at q
            exact q
          have l0 : (0 : Int) ≤ (l : Int) := Int.natCast_nonneg _
          have r0' : (0 : Int) ≤ (r : Int) := Int.natCast_nonneg _
          have l3 : (l : Int) < (t.length : Int) := by omega
          have r3 : (r : Int) < (t.length : Int) := by omega
          subst hl hr
          have nl := NC.out l l2
          have nr := NC.out r r2
          have wl := HWT.out l
          have wr' := HWT.out r
          have ay := HW.out j y
          have py := S2.out.ab y hyl
          have HSN : Hid (∀ W, ArI w W t.length (bA t M j) → ∀ u v : Int, u = bA t M j y + (ndAt t l).wt → v = bA t M j y + (ndAt t r).wt → ArI w ((W.setCell ⟨w.heap.size, l, none⟩ (.int .i64 u)).setCell ⟨w.heap.size, r, none⟩ (.int .i64 v)) t.length (bA t M (j + 1))) := fun W hW u v hu hv => by
            rw [HE.out, ← hu, ← hv]
            exact ((hW.set u l2).set v r2).fn fun z _ => rfl
          generalize (ndAt t l).wt = ql at *
          generalize (ndAt t r).wt = qr at *
          generalize hAj : bA t M j = A at *
          generalize hAy : A y = ay' at *
          have e1 : IntKind.i64.wrap (ay' + ql) = ay' + ql := wrap_ok _ (by omega) (by omega)
          have e2 : IntKind.i64.wrap (ay' + qr) = ay' + qr := wrap_ok _ (by omega) (by omega)
          go_wp2_with (first | (go_at_call 48; refine (vLeaf_any _ _ _ _ _ _ _).mono ?_; rintro e w3 ⟨rfl, hb3⟩; rw [HLF.out]; have S3 : Hid (ArI w w3 t.length A) := S2.out.quiet hb3; have lt3 := S3.out.lt; have X3 : Hid (Bx w3 wr.heap.size k0 k1 k2 k3 (l : Int) (r : Int)) := X2.out.below hb3; have xl3 := X3.out.lt; obtain ⟨x0', x1', x2', x3', x4', x5'⟩ := X3.out.c; have vy := (S3.out.ab y hyl).1; rw [hAy] at vy; have fl := (S3.out.ab l l2).2; have fr := (S3.out.ab r r2).2; have vl := (S3.out.ab l l2).1; have vr := (S3.out.ab r r2).1; have p3 := ((hb3.cell (p := ⟨g1, j, none⟩) (show g1 < W2.heap.size by omega)).trans (B2.out g1 j hgr gne)).trans r1; have nl3 := ((hb3.cell (p := ⟨b, o + l * 6 + 2, none⟩) (show b < W2.heap.size by omega)).trans (B2.out b _ hbr bne)).trans nl; have nr3 := ((hb3.cell (p := ⟨b, o + r * 6 + 2, none⟩) (show b < W2.heap.size by omega)).trans (B2.out b _ hbr bne)).trans nr; clear hb3))
          go_region
          go_wp2_with fail
          go_region
          go_wp2_with fail
          exact ⟨⟨j + 1, by omega, by go_num, by rw [HSS.out]; first | exact (HSN.out _ S3.out _ _ rfl rfl).drew.drew | exact (HSN.out _ S3.out _ _ rfl rfl).drew | exact HSN.out _ S3.out _ _ rfl rfl⟩, by simp [intOf]; omega⟩
      · have d0 : ((j : Int) == 0) = false := by rw [beq_eq_false_iff_ne]; omega
        have u1 := HS1.out hj0
        clear hj0
        rw [u1] at S0
        generalize hy : M.getD j 0 = y at *
        generalize hnd : ndAt t y = nd at *
        obtain ⟨k0, k1, k2, k3, k4, k5⟩ := nd
        simp only at HC hcase
        obtain ⟨z0, z1, z2, z3, z4, z5⟩ := HC.out
        go_wp2_with fail
        generalize hW2 : wr.alloc (.cells #[.int .i64 k0, .int .i64 k1, .int .i64 k2, .int .i64 k3, .int .i64 k4, .int .i64 k5] 54) = W2
        have B1 : Hid (Below wr.heap.size wr W2) := by rw [← hW2]; exact below_alloc _ _
        have S2 : Hid (ArI w W2 t.length (bA t M j)) := S0.out.quiet B1.out
        have X2 : Hid (Bx W2 wr.heap.size k0 k1 k2 k3 k4 k5) := bx_new (hW2 ▸ heap_alloc_at wr _ wr.heap.size rfl)
        have B2 : Hid (∀ blk off, blk < wr.heap.size → blk ≠ w.heap.size → W2.cell? ⟨blk, off, none⟩ = wr.cell? ⟨blk, off, none⟩) := fun blk off h1 _ => B1.out.cell (p := ⟨blk, off, none⟩) h1
        clear hW2 z0 z1 z2 z3 z4 z5 u1 S0 B1
        obtain ⟨x0, x1, x2, x3, x4, x5⟩ := X2.out.c
        have xl := X2.out.lt
        rcases hcase with ⟨hl, hr⟩ | ⟨l, r, hl, hr, l2, r2, ly, ry, lr⟩
        · have HLF : Hid (leafB ⟨k0, k1, k2, k3, k4, k5⟩ = true) := leafB_yes hl hr
          have HE : Hid (bA t M (j + 1) = bA t M j) := bA_leaf hlt (by rw [hy, hnd]; exact hl)
          clear hl hr
          go_wp2_with (first | (go_at_call 48; refine (vLeaf_any _ _ _ _ _ _ _).mono ?_; rintro e w3 ⟨rfl, hb3⟩; rw [HLF.out]; have S3 : Hid (ArI w w3 t.length (bA t M j)) := S2.out.quiet hb3; clear hb3))
          exact ⟨⟨j + 1, by omega, by go_num, by rw [HSS.out, HE.out]; exact S3.out⟩, by simp [intOf]; omega⟩
        · have HLF : Hid (leafB ⟨k0, k1, k2, k3, k4, k5⟩ = false) := leafB_no (by show k4 ≠ -1; omega)
          have HE : Hid (bA t M (j + 1) = two (bA t M j) l r (bA t M j y + (ndAt t l).wt) (bA t M j y + (ndAt t r).wt)) := by
            have q := bA_inner (t := t) (M := M) (m := j) (l := l) (r := r) hlt (by rw [hy, hnd]; exact hl) (by rw [hy, hnd]; exact hr)
            rw [hy] at q
            exact q
          have l0 : (0 : Int) ≤ (l : Int) := Int.natCast_nonneg _
          have r0' : (0 : Int) ≤ (r : Int) := Int.natCast_nonneg _
          have l3 : (l : Int) < (t.length : Int) := by omega
          have r3 : (r : Int) < (t.length : Int) := by omega
          subst hl hr
          have nl := NC.out l l2
          have nr := NC.out r r2
          have wl := HWT.out l
          have wr' := HWT.out r
          have ay := HW.out j y
          have py := S2.out.ab y hyl
          have HSN : Hid (∀ W, ArI w W t.length (bA t M j) → ∀ u v : Int, u = bA t M j y + (ndAt t l).wt → v = bA t M j y + (ndAt t r).wt → ArI w ((W.setCell ⟨w.heap.size, l, none⟩ (.int .i64 u)).setCell ⟨w.heap.size, r, none⟩ (.int .i64 v)) t.length (bA t M (j + 1))) := fun W hW u v hu hv => by
            rw [HE.out, ← hu, ← hv]
            exact ((hW.set u l2).set v r2).fn fun z _ => rfl
          generalize (ndAt t l).wt = ql at *
          generalize (ndAt t r).wt = qr at *
          generalize hAj : bA t M j = A at *
          generalize hAy : A y = ay' at *
          have e1 : IntKind.i64.wrap (ay' + ql) = ay' + ql := wrap_ok _ (by omega) (by omega)
          have e2 : IntKind.i64.wrap (ay' + qr) = ay' + qr := wrap_ok _ (by omega) (by omega)
          go_wp2_with (first | (go_at_call 48; refine (vLeaf_any _ _ _ _ _ _ _).mono ?_; rintro e w3 ⟨rfl, hb3⟩; rw [HLF.out]; have S3 : Hid (ArI w w3 t.length A) := S2.out.quiet hb3; have lt3 := S3.out.lt; have X3 : Hid (Bx w3 wr.heap.size k0 k1 k2 k3 (l : Int) (r : Int)) := X2.out.below hb3; have xl3 := X3.out.lt; obtain ⟨x0', x1', x2', x3', x4', x5'⟩ := X3.out.c; have vy := (S3.out.ab y hyl).1; rw [hAy] at vy; have fl := (S3.out.ab l l2).2; have fr := (S3.out.ab r r2).2; have vl := (S3.out.ab l l2).1; have vr := (S3.out.ab r r2).1; have p3 := ((hb3.cell (p := ⟨g1, j, none⟩) (show g1 < W2.heap.size by omega)).trans (B2.out g1 j hgr gne)).trans r1; have nl3 := ((hb3.cell (p := ⟨b, o + l * 6 + 2, none⟩) (show b < W2.heap.size by omega)).trans (B2.out b _ hbr bne)).trans nl; have nr3 := ((hb3.cell (p := ⟨b, o + r * 6 + 2, none⟩) (show b < W2.heap.size by omega)).trans (B2.out b _ hbr bne)).trans nr; clear hb3))
          go_region
          go_wp2_with fail
          go_region
          go_wp2_with fail
          exact ⟨⟨j + 1, by omega, by go_num, by rw [HSS.out]; first | exact (HSN.out _ S3.out _ _ rfl rfl).drew.drew | exact (HSN.out _ S3.out _ _ rfl rfl).drew | exact HSN.out _ S3.out _ _ rfl rfl⟩, by simp [intOf]; omega⟩
    · obtain rfl : j = M.length := by omega
      clear hI
      go_wp2_with fail
      go_ret
      exact ⟨_, rfl, S0.out.ab, Nat.le_refl _, hlt0, S0.out.below⟩
end Go.Proofs.Ytiencggnijfjoaa
