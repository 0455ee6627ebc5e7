
/- Layer 17, pure: what is handed down by places (the reference's arrays) is what is handed down a tree. Layer 17: the reference's sums. -/

import Derived.Test.YthdfpddijocfkaaWBdP

import Derived.Test.YthdfpddijocfkaaWSnd

namespace Go.Proofs.Ythdfpddijocfkaa

def two {α : Type} (A : Nat → α) (l r : Nat) (u v : α) : Nat → α := fun z => if z = r then v else if z = l then u else A z
def lN (t : NL) (y : Nat) : Nat := (ndAt t y).l.toNat
def rN (t : NL) (y : Nat) : Nat := (ndAt t y).r.toNat
/-- One step: what a node hands to its children. -/
def dn1 {α : Type} (f : Nat → α → Nat → α) (t : NL) (A : Nat → α) (y : Nat) : Nat → α := if (ndAt t y).l = -1 then A else two A (lN t y) (rN t y) (f y (A y) (lN t y)) (f y (A y) (rN t y))
def dn {α : Type} (f : Nat → α → Nat → α) (t : NL) : (Nat → α) → List Nat → Nat → α
  | A, [] => A
  | A, y :: M => dn f t (dn1 f t A y) M
theorem dn_append {α : Type} (f : Nat → α → Nat → α) (t : NL) : ∀ (M R : List Nat) (A : Nat → α), dn f t A (M ++ R) = dn f t (dn f t A M) R
  | [], _, _ => rfl
  | _ :: M, R, _ => dn_append f t M R _
theorem dn_snoc {α : Type} (f : Nat → α → Nat → α) (t : NL) (M : List Nat) (y : Nat) (A : Nat → α) : dn f t A (M ++ [y]) = dn1 f t (dn f t A M) y := by rw [dn_append]; rfl
/-- It changes nothing but what stands below. -/
theorem dn_out {α : Type} (f : Nat → α → Nat → α) {t : NL} {p : Nat} {L : List Nat} (h : Tree t p L) : ∀ (A : Nat → α) (z : Nat), z ∉ L.tail → dn f t A L z = A z := by
  induction h with
  | leaf hp hl hr => intro A z _; simp [dn, dn1, hl]
  | @inner p l r L R hp hl hr h1 h2 ih1 ih2 =>
    intro A z hz
    simp only [List.tail_cons, List.mem_append, not_or] at hz
    obtain ⟨L', rfl⟩ := h1.head
    obtain ⟨R', rfl⟩ := h2.head
    simp only [List.mem_cons, not_or] at hz
    show dn f t (dn1 f t A p) (l :: L' ++ r :: R') z = A z
    rw [dn_append, ih2 _ z (by simpa using hz.2.2), ih1 _ z (by simpa using hz.1.2)]
    unfold dn1
    rw [if_neg (by omega)]
    unfold two lN rN
    rw [hl, hr, Int.toNat_natCast, Int.toNat_natCast, if_neg hz.2.1, if_neg hz.1.1]
theorem dn_inner {α : Type} (f : Nat → α → Nat → α) {t : NL} {p l r : Nat} {L R : List Nat} (hl : (ndAt t p).l = (l : Int)) (hr : (ndAt t p).r = (r : Int)) (h1 : Tree t l L) (h2 : Tree t r R) (hN : (p :: (L ++ R)).Nodup) (A : Nat → α) :
    ∃ A1 A2 : Nat → α, A1 l = f p (A p) l ∧ A2 r = f p (A p) r ∧ A1 p = A p ∧ (∀ z, z ≠ l → z ≠ r → A1 z = A z) ∧ (∀ z ∈ R, z ≠ r → A2 z = A z) ∧ (∀ z ∈ L, dn f t A (p :: (L ++ R)) z = dn f t A1 L z) ∧ (∀ z ∈ R, dn f t A (p :: (L ++ R)) z = dn f t A2 R z) ∧ dn f t A (p :: (L ++ R)) p = A p ∧ dn f t A (p :: (L ++ R)) = dn f t A2 R ∧ A2 = dn f t A1 L ∧ A1 = dn1 f t A p := by
  obtain ⟨L', rfl⟩ := h1.head
  obtain ⟨R', rfl⟩ := h2.head
  rw [List.nodup_cons, List.nodup_append] at hN
  obtain ⟨n1, n2, n3, n4⟩ := hN
  have n5 : p ≠ l := fun q => n1 (by simp [q])
  have n6 : p ≠ r := fun q => n1 (by simp [q])
  have n7 : l ≠ r := n4 l (by simp) r (by simp)
  have e1 : dn1 f t A p = two A l r (f p (A p) l) (f p (A p) r) := by
    unfold dn1 lN rN
    rw [if_neg (by omega), hl, hr, Int.toNat_natCast, Int.toNat_natCast]
  have tl : ∀ z, z ∈ r :: R' → z ∉ (l :: L').tail := fun z hz q => n4 z (List.mem_of_mem_tail q) z hz rfl
  have tr : ∀ z, z ∈ l :: L' → z ∉ (r :: R').tail := fun z hz q => n4 z hz z (List.mem_of_mem_tail q) rfl
  have e2 : dn f t A (p :: (l :: L' ++ r :: R')) = dn f t (dn f t (dn1 f t A p) (l :: L')) (r :: R') := by
    show dn f t (dn1 f t A p) (l :: L' ++ r :: R') = _
    rw [dn_append]
  refine ⟨dn1 f t A p, dn f t (dn1 f t A p) (l :: L'), ?_, ?_, ?_, ?_, ?_, ?_, ?_, ?_, e2, rfl, rfl⟩
  · rw [e1]; simp [two, n7]
  · rw [dn_out f h1 _ r (tl r (by simp)), e1]; simp [two]
  · rw [e1]; simp [two, n5, n6]
  · intro z z1 z2; rw [e1]; simp [two, z1, z2]
  · intro z hz z2
    rw [dn_out f h1 _ z (tl z hz), e1]
    have z1 : z ≠ l := fun q => n4 l (by simp) z hz q.symm
    simp [two, z1, z2]
  · intro z hz; rw [e2, dn_out f h2 _ z (tr z hz)]
  · intro z _; rw [e2]
  · rw [e2, dn_out f h2 _ p (fun q => n1 (List.mem_append_right _ (List.mem_of_mem_tail q))), dn_out f h1 _ p (fun q => n1 (List.mem_append_left _ (List.mem_of_mem_tail q))), e1]; simp [two, n5, n6]
theorem nam_wt {t : NL} {p : Nat} (hp : p < t.length) : (ndP (ndAt (namL t) p)).wt = (ndAt t p).wt := by
  rw [namL_at t p hp]
  exact (namD_lr p (ndAt t p)).2.2.2.1
theorem nam_key {t : NL} {p : Nat} (hp : p < t.length) (h : (ndAt t p).inf = 0) : (ndP (ndAt (namL t) p)).key = (p : Int) := by
  rw [namL_at t p hp]
  unfold namD
  rw [if_pos h]
  rfl
/-- The children of a named tree are the table's. -/
theorem nam_cases {t : NL} {p : Nat} {b : BT} (h : Abs (namL t) p b) : (∃ d, b = .leaf d ∧ d = ndP (ndAt (namL t) p) ∧ (ndAt t p).l = -1) ∨ ∃ (d : PD) (l r : Nat) (x y : BT), b = .node d x y ∧ d = ndP (ndAt (namL t) p) ∧ (ndAt t p).l = (l : Int) ∧ (ndAt t p).r = (r : Int) ∧ Abs (namL t) l x ∧ Abs (namL t) r y := by
  cases h with
  | leaf hp hl hr =>
    rw [namL_length] at hp
    rw [namL_at t p hp, (namD_lr _ _).1] at hl
    exact Or.inl ⟨_, rfl, rfl, hl⟩
  | @node _ l r x y hp hl hr h1 h2 =>
    rw [namL_length] at hp
    rw [namL_at t p hp, (namD_lr _ _).1] at hl
    rw [namL_at t p hp, (namD_lr _ _).2.1] at hr
    exact Or.inr ⟨_, l, r, x, y, rfl, rfl, hl, hr, h1, h2⟩

/-- The reference's sums. -/
def sF (t : NL) (_ : Nat) (a : Int) (c : Nat) : Int := a + (ndAt t c).wt
theorem sums_inh {t : NL} {p : Nat} {L : List Nat} (h : Tree t p L) : ∀ (b : BT) (A : Nat → Int) (a : Int), L.Nodup → Abs (namL t) p b → A p = a + (ndAt t p).wt → (lvL t L).map (dn (sF t) t A L) = inh sumF sumO b a := by
  induction h with
  | @leaf p hp hl hr =>
    intro b A a _ hb hA
    rcases nam_cases hb with ⟨d, rfl, rfl, -⟩ | ⟨d, l, r, x, y, -, -, q, -⟩
    · have e := nam_wt hp
      simp [lvL, lfB, hl, dn, dn1, hA, inh, sumO, e]
    · omega
  | @inner p l r L R hp hl hr h1 h2 ih1 ih2 =>
    intro b A a hN hb hA
    rcases nam_cases hb with ⟨d, -, -, q⟩ | ⟨d, l', r', x, y, rfl, rfl, q1, q2, q3, q4⟩
    · omega
    obtain rfl : l' = l := by omega
    obtain rfl : r' = r := by omega
    obtain ⟨A1, A2, a1, a2, -, -, -, d1, d2, -, -, -, -⟩ := dn_inner (sF t) hl hr h1 h2 hN A
    have hN' := hN
    rw [List.nodup_cons, List.nodup_append] at hN'
    have e := nam_wt hp
    have e0 : lvL t (p :: (L ++ R)) = lvL t L ++ lvL t R := by
      rw [← lv_append]
      unfold lvL
      rw [List.filter_cons_of_neg (by simp [lfB]; omega)]
    have m1 : (lvL t L).map (dn (sF t) t A (p :: (L ++ R))) = (lvL t L).map (dn (sF t) t A1 L) := List.map_congr_left fun z hz => d1 z (List.mem_filter.1 hz).1
    have m2 : (lvL t R).map (dn (sF t) t A (p :: (L ++ R))) = (lvL t R).map (dn (sF t) t A2 R) := List.map_congr_left fun z hz => d2 z (List.mem_filter.1 hz).1
    rw [e0, List.map_append, m1, m2, ih1 x A1 (sumF (ndP (ndAt (namL t) p)) a) hN'.2.1 q3 (by rw [a1, hA]; simp only [sF, sumF, e]), ih2 y A2 (sumF (ndP (ndAt (namL t) p)) a) hN'.2.2.1 q4 (by rw [a2, hA]; simp only [sF, sumF, e])]
    simp [inh, sumO]
theorem sums_bound {t : NL} (hw : ∀ y, y < t.length → 0 ≤ (ndAt t y).wt ∧ (ndAt t y).wt ≤ 1000000) {p : Nat} {L : List Nat} (h : Tree t p L) : ∀ (A : Nat → Int) (K : Nat), L.Nodup → 0 ≤ A p → A p ≤ 1000000 * (K : Int) → ∀ z ∈ L, 0 ≤ dn (sF t) t A L z ∧ dn (sF t) t A L z ≤ 1000000 * ((K : Int) + L.length) := by
  induction h with
  | @leaf p hp hl hr =>
    intro A K _ h0 h1 z hz
    simp at hz
    subst hz
    simp [dn, dn1, hl]
    omega
  | @inner p l r L R hp hl hr h1 h2 ih1 ih2 =>
    intro A K hN h0 hK z hz
    obtain ⟨A1, A2, a1, a2, -, -, -, d1, d2, d3, -, -, -⟩ := dn_inner (sF t) hl hr h1 h2 hN A
    have hN' := hN
    rw [List.nodup_cons, List.nodup_append] at hN'
    have w1 := hw l h1.lt
    have w2 := hw r h2.lt
    simp only [sF] at a1 a2
    simp only [List.mem_cons, List.mem_append] at hz
    simp only [List.length_cons, List.length_append]
    rcases hz with rfl | hz | hz
    · rw [d3]; omega
    · rw [d1 z hz]
      have := ih1 A1 (K + 1) hN'.2.1 (by omega) (by omega) z hz
      omega
    · rw [d2 z hz]
      have := ih2 A2 (K + 1) hN'.2.2.1 (by omega) (by omega) z hz
      omega

/-- The reference's depths. -/
def eF (_ : Nat) (a : Int) (_ : Nat) : Int := a + 1
def mostL (t : NL) : (Nat → Int) → List Nat → Int → Int
  | _, [], m => m
  | A, y :: M, m => mostL t (dn1 eF t A y) M (max m (A y))
theorem most_append (t : NL) : ∀ (M R : List Nat) (A : Nat → Int) (m : Int), mostL t A (M ++ R) m = mostL t (dn eF t A M) R (mostL t A M m)
  | [], _, _, _ => rfl
  | _ :: M, R, _, _ => most_append t M R _ _
theorem most_snoc (t : NL) (M : List Nat) (y : Nat) (A : Nat → Int) (m : Int) : mostL t A (M ++ [y]) m = max (mostL t A M m) (dn eF t A M y) := by rw [most_append]; rfl
theorem most_dep {t : NL} {p : Nat} {L : List Nat} (h : Tree t p L) : ∀ (b : BT) (A : Nat → Int) (m : Int), L.Nodup → Abs t p b → mostL t A L m = max m (A p + b.dep) := by
  induction h with
  | @leaf p hp hl hr =>
    intro b A m _ hb
    cases hb with
    | leaf => simp [mostL, BT.dep]
    | node _ q => omega
  | @inner p l r L R hp hl hr h1 h2 ih1 ih2 =>
    intro b A m hN hb
    cases hb with
    | leaf _ q => omega
    | @node _ l' r' x y _ q1 q2 q3 q4 =>
      obtain rfl : l' = l := by omega
      obtain rfl : r' = r := by omega
      obtain ⟨A1, A2, a1, a2, -, -, -, d1, d2, -, -, eA2, eA1⟩ := dn_inner eF hl hr h1 h2 hN A
      have hN' := hN
      rw [List.nodup_cons, List.nodup_append] at hN'
      show mostL t (dn1 eF t A p) (L ++ R) (max m (A p)) = _
      rw [most_append, ← eA1, ← eA2, ih1 x A1 _ hN'.2.1 q3, ih2 y A2 _ hN'.2.2.1 q4, a1, a2]
      simp only [eF, BT.dep]
      omega
theorem dn_bound (t : NL) : ∀ (M : List Nat) (A : Nat → Int) (K : Nat), (∀ z, 0 ≤ A z ∧ A z ≤ (K : Int)) → ∀ z, 0 ≤ dn eF t A M z ∧ dn eF t A M z ≤ ((K + M.length : Nat) : Int)
  | [], A, K, h, z => by have := h z; simp only [dn, List.length_nil]; omega
  | y :: M, A, K, h, z => by
    have h' : ∀ z, 0 ≤ dn1 eF t A y z ∧ dn1 eF t A y z ≤ ((K + 1 : Nat) : Int) := fun z => by
      have a := h z
      have b := h y
      unfold dn1
      split
      · omega
      · simp only [two, eF]
        split
        · omega
        · split <;> omega
    have := dn_bound t M _ (K + 1) h' z
    simp only [dn, List.length_cons]
    omega

/-- The reference's reds. -/
def rF (t : NL) (y : Nat) (_ : Bool) (c : Nat) : Bool := redQ (ndAt t y).wt (ndAt t c).wt
theorem reds_inh {t : NL} {p : Nat} {L : List Nat} (h : Tree t p L) : ∀ (b : BT) (A : Nat → Bool) (a : Int), L.Nodup → (∀ y ∈ L, (ndAt t y).inf = 0) → Abs (namL t) p b → A p = redQ a (ndAt t p).wt → (L.filter (dn (rF t) t A L)).map (fun x : Nat => (x : Int)) = inh redF redO b a := by
  induction h with
  | @leaf p hp hl hr =>
    intro b A a _ hi hb hA
    rcases nam_cases hb with ⟨d, rfl, rfl, -⟩ | ⟨d, l, r, x, y, -, -, q, -⟩
    · have e := nam_wt hp
      have e2 := nam_key hp (hi p (by simp))
      have e3 : dn (rF t) t A [p] p = redQ a (ndAt t p).wt := by simp [dn, dn1, hl, hA]
      simp only [inh, redO, e, e2]
      cases hq : redQ a (ndAt t p).wt
      · rw [List.filter_cons_of_neg (by rw [e3, hq]; simp)]; rfl
      · rw [List.filter_cons_of_pos (by rw [e3, hq])]; rfl
    · omega
  | @inner p l r L R hp hl hr h1 h2 ih1 ih2 =>
    intro b A a hN hi hb hA
    rcases nam_cases hb with ⟨d, -, -, q⟩ | ⟨d, l', r', x, y, rfl, rfl, q1, q2, q3, q4⟩
    · omega
    obtain rfl : l' = l := by omega
    obtain rfl : r' = r := by omega
    obtain ⟨A1, A2, a1, a2, -, -, -, d1, d2, d3, -, -, -⟩ := dn_inner (rF t) hl hr h1 h2 hN A
    have hN' := hN
    rw [List.nodup_cons, List.nodup_append] at hN'
    have e := nam_wt hp
    have e2 := nam_key hp (hi p (by simp))
    have m1 : L.filter (dn (rF t) t A (p :: (L ++ R))) = L.filter (dn (rF t) t A1 L) := List.filter_congr fun z hz => d1 z hz
    have m2 : R.filter (dn (rF t) t A (p :: (L ++ R))) = R.filter (dn (rF t) t A2 R) := List.filter_congr fun z hz => d2 z hz
    have i1 := ih1 x A1 (ndAt t p).wt hN'.2.1 (fun z hz => hi z (by simp [hz])) q3 a1
    have i2 := ih2 y A2 (ndAt t p).wt hN'.2.2.1 (fun z hz => hi z (by simp [hz])) q4 a2
    simp only [inh, redO, redF, e, e2]
    rw [← i1, ← i2]
    cases hq : redQ a (ndAt t p).wt
    · rw [List.filter_cons_of_neg (by rw [d3, hA, hq]; simp), List.filter_append, m1, m2, List.map_append]; simp
    · rw [List.filter_cons_of_pos (by rw [d3, hA, hq]), List.filter_append, m1, m2, List.map_cons, List.map_append]; simp
/-- A tree's children lie below it, each once. -/
theorem tree_child {t : NL} {x : Nat} {M : List Nat} (h : Tree t x M) (hN : M.Nodup) {y : Nat} (hy : y ∈ M) (hl : (ndAt t y).l ≠ -1) : ∃ l r : Nat, (ndAt t y).l = (l : Int) ∧ (ndAt t y).r = (r : Int) ∧ l < t.length ∧ r < t.length ∧ l ≠ y ∧ r ≠ y ∧ l ≠ r ∧ l ∈ M ∧ r ∈ M := by
  obtain ⟨My, hMy, hs⟩ := tree_sub h y hy
  have hn := hs.nodup hN
  cases hMy with
  | leaf _ q => exact absurd q hl
  | @inner _ l r L R _ h1 h2 t1 t2 =>
    obtain ⟨L', rfl⟩ := t1.head
    obtain ⟨R', rfl⟩ := t2.head
    rw [List.nodup_cons, List.nodup_append] at hn
    exact ⟨l, r, h1, h2, t1.lt, t2.lt, fun q => hn.1 (by simp [q]), fun q => hn.1 (by simp [q]), hn.2.2.2 l (by simp) r (by simp), hs.subset (by simp), hs.subset (by simp)⟩
end Go.Proofs.Ythdfpddijocfkaa

namespace Go.Proofs.Ythdfpddijocfkaa

open Go.RowKit

attribute [local go_sem ↓] Go.wp_at_zero Go.wp_at_succ

theorem bx_apart {w : World} {bx g k : Nat} {v : Value} {k0 k1 k2 k3 k4 k5 : Int} (h : Bx w bx k0 k1 k2 k3 k4 k5) (hg : g ≠ bx) : Bx (w.setCell ⟨g, k, none⟩ v).drew bx k0 k1 k2 k3 k4 k5 := by
  have e : ∀ i, (w.setCell ⟨g, k, none⟩ v).drew.cell? ⟨bx, i, none⟩ = w.cell? ⟨bx, i, none⟩ := fun i => by
    show (w.setCell ⟨g, k, none⟩ v).cell? ⟨bx, i, none⟩ = _
    exact World.cell?_setCell_far _ _ _ _ hg
  exact ⟨by simpa using h.lt, by simp only [e]; exact h.c⟩
/-- A new row of numbers, the first block behind w0. -/
structure ArI (w0 x : World) (n : Nat) (A : Nat → Int) : Prop where
  ab : Ints x w0.heap.size n A
  lt : w0.heap.size < x.heap.size
  below : Below w0.heap.size w0 x
theorem ArI.quiet {w0 x y : World} {n : Nat} {A : Nat → Int} (h : ArI w0 x n A) (hb : Below x.heap.size x y) : ArI w0 y n A := ⟨h.ab.below h.lt hb, Nat.lt_of_lt_of_le h.lt hb.size, h.below.trans (hb.mono h.below.size)⟩
theorem ArI.drew {w0 x : World} {n : Nat} {A : Nat → Int} (h : ArI w0 x n A) : ArI w0 x.drew n A := ⟨h.ab, h.lt, h.below.drew⟩
theorem ArI.set {w0 x : World} {n : Nat} {A : Nat → Int} (h : ArI w0 x n A) {l : Nat} (a : Int) (hl : l < n) : ArI w0 (x.setCell ⟨w0.heap.size, l, none⟩ (.int .i64 a)) n (fun z => if z = l then a else A z) :=
  ⟨h.ab.set l a hl, by simpa using h.lt, h.below.setCell (Nat.le_refl _) _⟩
theorem ArI.fn {w0 x : World} {n : Nat} {A A' : Nat → Int} (h : ArI w0 x n A) (e : ∀ j, j < n → A j = A' j) : ArI w0 x n A' := ⟨h.ab.fn e, h.lt, h.below⟩
/-- Places of a tree: each a leaf, or with children of its own. -/
def TreeOk (t : NL) (M : List Nat) : Prop := ∀ y ∈ M, y < t.length ∧ (((ndAt t y).l = -1 ∧ (ndAt t y).r = -1) ∨ ∃ l r : Nat, (ndAt t y).l = (l : Int) ∧ (ndAt t y).r = (r : Int) ∧ l < t.length ∧ r < t.length ∧ l ≠ y ∧ r ≠ y ∧ l ≠ r)
theorem treeOk_of {t : NL} {x : Nat} {M : List Nat} (h : Tree t x M) (hN : M.Nodup) : TreeOk t M := fun y hy => by
  refine ⟨h.all y hy, ?_⟩
  rcases h.each y hy with q | ⟨l, r, q, -⟩
  · exact Or.inl q
  · obtain ⟨l', r', h1, h2, h3, h4, h5, h6, h7, -, -⟩ := tree_child h hN hy (by omega)
    exact Or.inr ⟨l', r', h1, h2, h3, h4, h5, h6, h7⟩
/-- The array of sums behind m rounds. -/
def sA0 (t : NL) (M : List Nat) : Nat → Int := fun z => if z = M.getD 0 0 then (ndAt t (M.getD 0 0)).wt else 0
def bA (t : NL) (M : List Nat) (m : Nat) : Nat → Int := dn (sF t) t (sA0 t M) (M.take m)
def sA (t : NL) (M : List Nat) (m : Nat) : Nat → Int := if m = 0 then fun _ => 0 else bA t M m
theorem sdn_bound {t : NL} (hw : ∀ c, 0 ≤ (ndAt t c).wt ∧ (ndAt t c).wt ≤ 1000000) : ∀ (M : List Nat) (A : Nat → Int) (K : Nat), (∀ z, 0 ≤ A z ∧ A z ≤ 1000000 * (K : Int)) → ∀ z, 0 ≤ dn (sF t) t A M z ∧ dn (sF t) t A M z ≤ 1000000 * ((K + M.length : Nat) : Int)
  | [], A, K, h, z => by have := h z; simp only [dn, List.length_nil]; omega
  | y :: M, A, K, h, z => by
    have h' : ∀ z, 0 ≤ dn1 (sF t) t A y z ∧ dn1 (sF t) t A y z ≤ 1000000 * ((K + 1 : Nat) : Int) := fun z => by
      have a := h z
      have b := h y
      have c1 := hw (lN t y)
      have c2 := hw (rN t y)
      unfold dn1
      split
      · omega
      · simp only [two, sF]
        split
        · omega
        · split <;> omega
    have := sdn_bound hw M _ (K + 1) h' z
    simp only [dn, List.length_cons]
    omega
theorem bA_bound {t : NL} (hw : ∀ c, 0 ≤ (ndAt t c).wt ∧ (ndAt t c).wt ≤ 1000000) (M : List Nat) (m : Nat) (hM : M.length ≤ 100000) (z : Nat) : 0 ≤ bA t M m z ∧ bA t M m z ≤ 1000000 * 100001 := by
  have h := sdn_bound hw (M.take m) (sA0 t M) 1 (fun z => by
    have := hw (M.getD 0 0)
    unfold sA0
    split <;> omega) z
  have : (M.take m).length ≤ M.length := by rw [List.length_take]; omega
  unfold bA
  omega
theorem bA_leaf {t : NL} {M : List Nat} {m : Nat} (h : m < M.length) (hl : (ndAt t (M.getD m 0)).l = -1) : bA t M (m + 1) = bA t M m := by
  unfold bA
  rw [take_snocL h, dn_snoc]
  unfold dn1
  rw [if_pos hl]
theorem bA_inner {t : NL} {M : List Nat} {m l r : Nat} (h : m < M.length) (hl : (ndAt t (M.getD m 0)).l = (l : Int)) (hr : (ndAt t (M.getD m 0)).r = (r : Int)) : bA t M (m + 1) = two (bA t M m) l r (bA t M m (M.getD m 0) + (ndAt t l).wt) (bA t M m (M.getD m 0) + (ndAt t r).wt) := by
  unfold bA
  rw [take_snocL h, dn_snoc]
  unfold dn1
  rw [if_neg (by omega)]
  unfold lN rN
  rw [hl, hr, Int.toNat_natCast, Int.toNat_natCast]
  rfl
end Go.Proofs.Ythdfpddijocfkaa
