
/- Layer 16, pure: tables numbered from the root on are in form; parts, grafts and mirrors of trees. -/

import Derived.Test.YthdfpddijocfkaaTGrP

namespace Go.Proofs.Ythdfpddijocfkaa

def kids (t : NL) (x : Nat) : List Nat := if (ndAt t x).l = -1 then [] else [(ndAt t x).l.toNat, (ndAt t x).r.toNat]
theorem tree_kids {t : NL} {p : Nat} {L : List Nat} (h : Tree t p L) : L.Perm (p :: L.flatMap (kids t)) := by
  induction h with
  | @leaf p hp hl hr => simp [kids, hl]
  | @inner p l r L R hp hl hr _ _ ih1 ih2 =>
    have hk : kids t p = [l, r] := by unfold kids; rw [if_neg (by omega), hl, hr]; simp
    rw [List.flatMap_cons, List.flatMap_append, hk]
    refine List.Perm.cons p ((ih1.append ih2).trans ?_)
    simp only [List.cons_append, List.nil_append]
    exact List.Perm.cons l List.perm_middle
theorem cnt_kids {t : NL} (hok : ∀ i, i < t.length → NodeOk (ndAt t i) t.length) (c : Nat) : ∀ n, n ≤ t.length → cntN t c n = ((List.range n).flatMap (kids t)).count c
  | 0, _ => rfl
  | n + 1, h => by
    rw [List.range_succ, List.flatMap_append, List.count_append, ← cnt_kids hok c n (by omega)]
    show cntN t c n + _ + _ = _
    rw [Nat.add_assoc]
    congr 1
    rw [List.flatMap_cons, List.flatMap_nil, List.append_nil]
    rcases (hok n (by omega)).1 with ⟨h1, h2⟩ | ⟨h1, h2, h3, h4, -, -⟩
    · have hk : kids t n = [] := by unfold kids; rw [if_pos h1]
      rw [hk, if_neg (by omega), if_neg (by omega)]; rfl
    · have hk : kids t n = [(ndAt t n).l.toNat, (ndAt t n).r.toNat] := by unfold kids; rw [if_neg (by omega)]
      rw [hk, List.count_cons, List.count_cons, List.count_nil]
      have e1 : ((ndAt t n).l.toNat == c) = decide ((ndAt t n).l = (c : Int)) := by
        by_cases q : (ndAt t n).l = (c : Int)
        · rw [decide_eq_true q, q]; simp
        · rw [decide_eq_false q]; exact beq_eq_false_iff_ne.2 (by omega)
      have e2 : ((ndAt t n).r.toNat == c) = decide ((ndAt t n).r = (c : Int)) := by
        by_cases q : (ndAt t n).r = (c : Int)
        · rw [decide_eq_true q, q]; simp
        · rw [decide_eq_false q]; exact beq_eq_false_iff_ne.2 (by omega)
      rw [e1, e2]
      by_cases q1 : (ndAt t n).l = (c : Int) <;> by_cases q2 : (ndAt t n).r = (c : Int) <;> simp [q1, q2]
/-- A table all of whose places make one tree is in form. -/
theorem form_of_tree {t : NL} {L : List Nat} (hok : ∀ i, i < t.length → NodeOk (ndAt t i) t.length) (h : Tree t 0 L) (hN : L.Nodup) (hl : L.length = t.length) : InForm t := by
  refine ⟨by have := h.pos; omega, ⟨hok, fun c h1 h2 => ?_⟩, ⟨L, h, hl⟩⟩
  have hp : L.Perm (List.range t.length) := (List.perm_ext_iff_of_nodup hN List.nodup_range).2 fun a => ⟨fun q => List.mem_range.2 (h.all a q), fun q => all_in hN h.all hl a (List.mem_range.1 q)⟩
  rw [cnt_kids hok c t.length (Nat.le_refl _)]
  have e1 := (hp.flatMap_right (kids t)).count_eq c
  have e2 := (tree_kids h).count_eq c
  rw [List.count_cons, beq_eq_false_iff_ne.2 (by omega)] at e2
  have e3 : L.count c = 1 := by
    have a := List.nodup_iff_count.1 hN c
    have b := List.count_pos_iff.2 (all_in hN h.all hl c h2)
    omega
  simp only [Bool.false_eq_true, if_false, Nat.add_zero] at e2
  omega
/-- What a node may say. -/
def PD.ok (d : PD) : Prop := (d.inf = 0 ∨ d.inf = 1 ∧ d.key = 0 ∧ d.val = 0) ∧ 0 ≤ d.wt ∧ d.wt ≤ 1000000
def BT.ok : BT → Prop
  | .leaf d => d.ok
  | .node d l r => d.ok ∧ d.val = 0 ∧ l.ok ∧ r.ok
theorem abs_ok {t : NL} (hf : InForm t) {p : Nat} {b : BT} (h : Abs t p b) : b.ok := by
  induction h with
  | leaf hp hl hr => exact (hf.good.node _ hp).2
  | @node p l r a b hp hl hr _ _ ih1 ih2 =>
    have := hf.good.node _ hp
    refine ⟨this.2, ?_, ih1, ih2⟩
    rcases this.1 with h | h
    · omega
    · exact h.2.2.2.2.2
/-- T holds the tree from o on, place by place. -/
def LaidT (T : NL) (o : Nat) (b : BT) : Prop := o + b.size ≤ T.length ∧ ∀ k, k < b.size → ndAt T (o + k) = ndAt (b.lay o) k
theorem laid_self (b : BT) : LaidT (b.lay 0) 0 b := ⟨by rw [BT.lay_length]; omega, fun k _ => by rw [Nat.zero_add]⟩
theorem laid_node {T : NL} {o : Nat} {d : PD} {l r : BT} (h : LaidT T o (.node d l r)) : o < T.length ∧ ndAt T o = ⟨d.key, d.inf, d.wt, d.val, ((o + 1 : Nat) : Int), ((o + 1 + l.size : Nat) : Int)⟩ ∧ LaidT T (o + 1) l ∧ LaidT T (o + 1 + l.size) r := by
  obtain ⟨h1, h2⟩ := h
  simp only [BT.size] at h1 h2
  refine ⟨by omega, by have := h2 0 (by omega); simpa [BT.lay, ndAt] using this, ⟨by omega, fun k hk => ?_⟩, ⟨by omega, fun k hk => ?_⟩⟩
  · have := h2 (k + 1) (by omega)
    rw [show o + 1 + k = o + (k + 1) by omega, this]
    unfold ndAt
    rw [show (BT.node d l r).lay o = ⟨d.key, d.inf, d.wt, d.val, ((o + 1 : Nat) : Int), ((o + 1 + l.size : Nat) : Int)⟩ :: (l.lay (o + 1) ++ r.lay (o + 1 + l.size)) from rfl, List.getD_cons_succ, List.getD_eq_getElem?_getD, List.getElem?_append_left (by rw [BT.lay_length]; exact hk), ← List.getD_eq_getElem?_getD]
  · have := h2 (l.size + k + 1) (by omega)
    rw [show o + 1 + l.size + k = o + (l.size + k + 1) by omega, this]
    unfold ndAt
    rw [show (BT.node d l r).lay o = ⟨d.key, d.inf, d.wt, d.val, ((o + 1 : Nat) : Int), ((o + 1 + l.size : Nat) : Int)⟩ :: (l.lay (o + 1) ++ r.lay (o + 1 + l.size)) from rfl, List.getD_cons_succ, List.getD_eq_getElem?_getD, List.getElem?_append_right (by rw [BT.lay_length]; omega), BT.lay_length, Nat.add_sub_cancel_left, ← List.getD_eq_getElem?_getD]
theorem laid_leaf {T : NL} {o : Nat} {d : PD} (h : LaidT T o (.leaf d)) : o < T.length ∧ ndAt T o = ⟨d.key, d.inf, d.wt, d.val, -1, -1⟩ := by
  obtain ⟨h1, h2⟩ := h
  simp only [BT.size] at h1 h2
  exact ⟨by omega, by have := h2 0 (by omega); simpa [BT.lay, ndAt] using this⟩
theorem laid_abs {T : NL} : ∀ (b : BT) {o : Nat}, LaidT T o b → Abs T o b
  | .leaf d, o, h => by
    obtain ⟨h1, h2⟩ := laid_leaf h
    have := Abs.leaf (t := T) h1 (by rw [h2]) (by rw [h2])
    rw [h2] at this
    exact this
  | .node d l r, o, h => by
    obtain ⟨h1, h2, h3, h4⟩ := laid_node h
    have := Abs.node (t := T) h1 (by rw [h2]) (by rw [h2]) (laid_abs l h3) (laid_abs r h4)
    rw [h2] at this
    exact this
theorem laid_tree {T : NL} : ∀ (b : BT) {o : Nat}, LaidT T o b → Tree T o (List.range' o b.size)
  | .leaf d, o, h => by
    obtain ⟨h1, h2⟩ := laid_leaf h
    exact Tree.leaf (t := T) h1 (by rw [h2]) (by rw [h2])
  | .node d l r, o, h => by
    obtain ⟨h1, h2, h3, h4⟩ := laid_node h
    have := Tree.inner (t := T) h1 (by rw [h2]) (by rw [h2]) (laid_tree l h3) (laid_tree r h4)
    have e : List.range' o (BT.node d l r).size = o :: (List.range' (o + 1) l.size ++ List.range' (o + 1 + l.size) r.size) := by
      simp only [BT.size]
      rw [Nat.add_comm 1, List.range'_succ, ← List.range'_append_1]
    rw [e]
    exact this
/-- Each place of a table that is numbered from the root on. -/
theorem laid_each {T : NL} : ∀ (b : BT) {o : Nat}, b.ok → LaidT T o b → ∀ k, k < b.size → (ndP (ndAt T (o + k))).ok ∧ (((ndAt T (o + k)).l = -1 ∧ (ndAt T (o + k)).r = -1) ∨ ((ndAt T (o + k)).l = ((o + k + 1 : Nat) : Int) ∧ ((o + k + 1 : Nat) : Int) < (ndAt T (o + k)).r ∧ (ndAt T (o + k)).r < ((o + b.size : Nat) : Int) ∧ (ndAt T (o + k)).val = 0))
  | .leaf d, o, hb, h, k, hk => by
    obtain ⟨h1, h2⟩ := laid_leaf h
    simp only [BT.size] at hk
    obtain rfl : k = 0 := by omega
    rw [Nat.add_zero, h2]
    exact ⟨hb, Or.inl ⟨rfl, rfl⟩⟩
  | .node d l r, o, hb, h, k, hk => by
    obtain ⟨h1, h2, h3, h4⟩ := laid_node h
    simp only [BT.size] at hk
    have ls := l.size_pos
    have rs := r.size_pos
    cases k with
    | zero =>
      rw [Nat.add_zero, h2]
      refine ⟨hb.1, Or.inr ⟨rfl, ?_, ?_, hb.2.1⟩⟩
      · show ((o + 0 + 1 : Nat) : Int) < ((o + 1 + l.size : Nat) : Int)
        omega
      · show ((o + 1 + l.size : Nat) : Int) < _
        simp only [BT.size]
        omega
    | succ k =>
      by_cases c : k < l.size
      · have := laid_each l hb.2.2.1 h3 k c
        rw [show o + (k + 1) = o + 1 + k by omega]
        refine ⟨this.1, this.2.imp id fun q => ⟨q.1, q.2.1, ?_, q.2.2.2⟩⟩
        simp only [BT.size]
        omega
      · have := laid_each r hb.2.2.2 h4 (k - l.size) (by omega)
        rw [show o + 1 + l.size + (k - l.size) = o + (k + 1) by omega] at this
        refine ⟨this.1, this.2.imp id fun q => ⟨q.1, q.2.1, ?_, q.2.2.2⟩⟩
        simp only [BT.size]
        omega
theorem lay_form {b : BT} (hb : b.ok) : InForm (b.lay 0) := by
  have hT := laid_tree b (laid_self b)
  refine form_of_tree (fun i hi => ?_) hT List.nodup_range' (by rw [List.length_range', BT.lay_length])
  rw [BT.lay_length] at hi
  have := laid_each b hb (laid_self b) i hi
  rw [Nat.zero_add] at this
  refine ⟨?_, this.1⟩
  rw [BT.lay_length]
  rcases this.2 with h | h
  · exact Or.inl h
  · refine Or.inr ⟨by omega, by omega, by omega, by omega, by omega, h.2.2.2⟩
theorem lay_formE {b : BT} (hb : b.ok) (hs : b.size ≤ 100000) : formE (b.lay 0) = 0 := formE_of (by rw [BT.lay_length]; exact hs) (lay_form hb)
theorem lay_abs0 (b : BT) : Abs (b.lay 0) 0 b := laid_abs b (laid_self b)
theorem graft_self {t : NL} {q : Nat} {bq : BT} (hq : Abs t q bq) {p : Nat} {b : BT} (h : GraftR t q bq p b) : Abs t p b := by
  induction h with
  | here => exact hq
  | leaf hn hp hl hr => exact Abs.leaf hp hl hr
  | node hn hp hl hr _ _ ih1 ih2 => exact Abs.node hp hl hr ih1 ih2
theorem graft_ok {t : NL} (hf : InForm t) {q : Nat} {u : BT} (hu : u.ok) {p : Nat} {b : BT} (h : GraftR t q u p b) : b.ok := by
  induction h with
  | here => exact hu
  | leaf hn hp hl hr => exact (hf.good.node _ hp).2
  | @node p l r a b hn hp hl hr _ _ ih1 ih2 =>
    have := hf.good.node _ hp
    refine ⟨this.2, ?_, ih1, ih2⟩
    rcases this.1 with h | h
    · omega
    · exact h.2.2.2.2.2
/-- Another tree at the i-th place. -/
def BT.put : BT → Nat → BT → BT
  | _, 0, u => u
  | .leaf d, _ + 1, _ => .leaf d
  | .node d l r, i + 1, u => if i < l.size then .node d (l.put i u) r else .node d l (r.put (i - l.size) u)
theorem put_abs {T : NL} {u : BT} : ∀ (b : BT) {o i : Nat}, i < b.size → LaidT T o (b.put i u) → Abs T (o + i) u
  | b, o, 0, _, h => by
    have e : b.put 0 u = u := by cases b <;> rfl
    rw [e] at h
    exact laid_abs u h
  | .leaf d, o, i + 1, hi, _ => by simp [BT.size] at hi
  | .node d l r, o, i + 1, hi, h => by
    simp only [BT.size] at hi
    unfold BT.put at h
    by_cases c : i < l.size
    · rw [if_pos c] at h
      have := put_abs l c (laid_node h).2.2.1
      rwa [show o + 1 + i = o + (i + 1) by omega] at this
    · rw [if_neg c] at h
      have := put_abs r (i := i - l.size) (by omega) (laid_node h).2.2.2
      rwa [show o + 1 + l.size + (i - l.size) = o + (i + 1) by omega] at this
theorem graft_none {T : NL} {q : Nat} {u : BT} : ∀ (b : BT) {o : Nat}, LaidT T o b → (q < o ∨ o + b.size ≤ q) → GraftR T q u o b
  | .leaf d, o, h, hq => by
    obtain ⟨h1, h2⟩ := laid_leaf h
    simp only [BT.size] at hq
    have := GraftR.leaf (t := T) (q := q) (u := u) (p := o) (by omega) h1 (by rw [h2]) (by rw [h2])
    rw [h2] at this
    exact this
  | .node d l r, o, h, hq => by
    obtain ⟨h1, h2, h3, h4⟩ := laid_node h
    simp only [BT.size] at hq
    have := GraftR.node (t := T) (q := q) (u := u) (p := o) (by omega) h1 (by rw [h2]) (by rw [h2]) (graft_none l h3 (by omega)) (graft_none r h4 (by omega))
    rw [h2] at this
    exact this
theorem graft_put {T : NL} {u : BT} : ∀ (b : BT) {o i : Nat}, i < b.size → LaidT T o b → GraftR T (o + i) u o (b.put i u)
  | b, o, 0, _, h => by
    have e : b.put 0 u = u := by cases b <;> rfl
    rw [e]
    exact GraftR.here
  | .leaf d, o, i + 1, hi, _ => by simp [BT.size] at hi
  | .node d l r, o, i + 1, hi, h => by
    obtain ⟨h1, h2, h3, h4⟩ := laid_node h
    simp only [BT.size] at hi
    unfold BT.put
    by_cases c : i < l.size
    · rw [if_pos c]
      have ih := graft_put (u := u) l c h3
      rw [show o + 1 + i = o + (i + 1) by omega] at ih
      have := GraftR.node (t := T) (q := o + (i + 1)) (u := u) (p := o) (by omega) h1 (by rw [h2]) (by rw [h2]) ih (graft_none r h4 (by omega))
      rw [h2] at this
      exact this
    · rw [if_neg c]
      have ih := graft_put (u := u) r (i := i - l.size) (by omega) h4
      rw [show o + 1 + l.size + (i - l.size) = o + (i + 1) by omega] at ih
      have := GraftR.node (t := T) (q := o + (i + 1)) (u := u) (p := o) (by omega) h1 (by rw [h2]) (by rw [h2]) (graft_none l h3 (by omega)) ih
      rw [h2] at this
      exact this
def BT.mir : BT → BT
  | .leaf d => .leaf d
  | .node d l r => .node d r.mir l.mir
theorem BT.mir_mir : ∀ b : BT, b.mir.mir = b
  | .leaf _ => rfl
  | .node d l r => by simp only [BT.mir, BT.mir_mir l, BT.mir_mir r]
theorem BT.mir_size : ∀ b : BT, b.mir.size = b.size
  | .leaf _ => rfl
  | .node d l r => by simp only [BT.mir, BT.size, BT.mir_size l, BT.mir_size r]; omega
theorem BT.mir_ok : ∀ {b : BT}, b.ok → b.mir.ok
  | .leaf _, h => h
  | .node _ _ _, h => ⟨h.1, h.2.1, BT.mir_ok h.2.2.2, BT.mir_ok h.2.2.1⟩
def BT.prs : BT → PL
  | .leaf d => if d.inf = 0 then [(d.key, d.val)] else []
  | .node _ l r => l.prs ++ r.prs
theorem BT.mir_prs : ∀ b : BT, b.mir.prs = b.prs.reverse
  | .leaf d => by simp only [BT.mir, BT.prs]; split <;> rfl
  | .node d l r => by simp only [BT.mir, BT.prs, BT.mir_prs l, BT.mir_prs r, List.reverse_append]
end Go.Proofs.Ythdfpddijocfkaa
