
/- Layer 17, pure: places for keys; the tree of the keys as a table; what is handed down a tree. -/

import Derived.Test.YthdfpddijocfkaaTRoot

import Derived.Test.YthdfpddijocfkaaTBt2

import Derived.Test.YthdfpddijocfkaaTMir

namespace Go.Proofs.Ythdfpddijocfkaa

/-- A node with its place for its key. -/
def namD (i : Nat) (n : NdD) : NdD := if n.inf = 0 then ⟨(i : Int), n.inf, n.wt, n.val, n.l, n.r⟩ else n
/-- The first m nodes named. -/
def namN (t : NL) (m : Nat) : NL := (List.range t.length).map fun i => if i < m then namD i (ndAt t i) else ndAt t i
def namL (t : NL) : NL := namN t t.length
theorem namN_length (t : NL) (m : Nat) : (namN t m).length = t.length := by simp [namN]
theorem namN_at (t : NL) (m i : Nat) (h : i < t.length) : ndAt (namN t m) i = if i < m then namD i (ndAt t i) else ndAt t i := by
  conv => lhs; unfold ndAt namN
  rw [List.getD_eq_getElem?_getD, List.getElem?_map, List.getElem?_range h]
  rfl
theorem nl_ext' {a b : NL} (hl : a.length = b.length) (h : ∀ i, i < a.length → ndAt a i = ndAt b i) : a = b := by
  apply List.ext_getElem hl
  intro i h1 h2
  have := h i h1
  simpa [ndAt, List.getD_eq_getElem?_getD, List.getElem?_eq_getElem h1, List.getElem?_eq_getElem h2] using this
theorem namN_zero (t : NL) : namN t 0 = t := nl_ext' (namN_length t 0) fun i hi => by
  rw [namN_length] at hi
  rw [namN_at t 0 i hi, if_neg (by omega)]
/-- Its key set. -/
def setK (T : NL) (i : Nat) (a : Int) : NL := T.set i ⟨a, (ndAt T i).inf, (ndAt T i).wt, (ndAt T i).val, (ndAt T i).l, (ndAt T i).r⟩
theorem namN_same (t : NL) (m : Nat) (h : m < t.length) (hi : (ndAt t m).inf ≠ 0) : namN t (m + 1) = namN t m := by
  refine nl_ext' (by rw [namN_length, namN_length]) fun i hi' => ?_
  rw [namN_length] at hi'
  rw [namN_at t _ i hi', namN_at t _ i hi']
  by_cases e : i = m
  · subst e
    rw [if_pos (by omega), if_neg (by omega)]
    unfold namD
    rw [if_neg hi]
  · by_cases c : i < m
    · rw [if_pos (by omega), if_pos c]
    · rw [if_neg (by omega), if_neg c]
theorem namN_succ (t : NL) (m : Nat) (h : m < t.length) (hi : (ndAt t m).inf = 0) : setK (namN t m) m (m : Int) = namN t (m + 1) := by
  have hl : m < (namN t m).length := by rw [namN_length]; exact h
  refine nl_ext' (by unfold setK; rw [List.length_set, namN_length, namN_length]) fun i hi' => ?_
  have hi2 : i < t.length := by unfold setK at hi'; rwa [List.length_set, namN_length] at hi'
  rw [namN_at t _ i hi2]
  unfold setK
  by_cases e : i = m
  · subst e
    rw [ndAt_set _ _ _ hl, namN_at t _ i h, if_neg (by omega), if_pos (by omega)]
    unfold namD
    rw [if_pos hi]
  · have : ndAt ((namN t m).set m ⟨(m : Int), (ndAt (namN t m) m).inf, (ndAt (namN t m) m).wt, (ndAt (namN t m) m).val, (ndAt (namN t m) m).l, (ndAt (namN t m) m).r⟩) i = ndAt (namN t m) i := by
      unfold ndAt
      rw [List.getD_eq_getElem?_getD, List.getElem?_set_ne (Ne.symm e), ← List.getD_eq_getElem?_getD]
    rw [this, namN_at t _ i hi2]
    by_cases c : i < m
    · rw [if_pos c, if_pos (by omega)]
    · rw [if_neg c, if_neg (by omega)]
theorem namL_length (t : NL) : (namL t).length = t.length := namN_length _ _
theorem namL_at (t : NL) (i : Nat) (h : i < t.length) : ndAt (namL t) i = namD i (ndAt t i) := by
  unfold namL
  rw [namN_at t _ i h, if_pos h]
theorem namD_lr (i : Nat) (n : NdD) : (namD i n).l = n.l ∧ (namD i n).r = n.r ∧ (namD i n).inf = n.inf ∧ (namD i n).wt = n.wt ∧ (namD i n).val = n.val := by
  unfold namD
  split <;> exact ⟨rfl, rfl, rfl, rfl, rfl⟩
theorem namL_tree {t : NL} {p : Nat} {L : List Nat} (h : Tree t p L) : Tree (namL t) p L := by
  induction h with
  | @leaf p hp hl hr =>
    have e := namD_lr p (ndAt t p)
    exact Tree.leaf (by rw [namL_length]; exact hp) (by rw [namL_at t p hp, e.1]; exact hl) (by rw [namL_at t p hp, e.2.1]; exact hr)
  | @inner p l r L R hp hl hr _ _ ih1 ih2 =>
    have e := namD_lr p (ndAt t p)
    exact Tree.inner (by rw [namL_length]; exact hp) (by rw [namL_at t p hp, e.1]; exact hl) (by rw [namL_at t p hp, e.2.1]; exact hr) ih1 ih2
theorem namL_form {t : NL} (hf : InForm t) : InForm (namL t) := by
  obtain ⟨L, h1, h2, h3⟩ := hf.tree
  refine form_of_tree (fun i hi => ?_) (namL_tree h1) h2 (by rw [namL_length]; exact h3)
  rw [namL_length] at hi ⊢
  rw [namL_at t i hi]
  have h := hf.good.node i hi
  unfold namD
  split
  · rename_i q
    exact ⟨h.1, Or.inl q, h.2.2⟩
  · exact h
theorem namL_formE {t : NL} (he : formE t = 0) : formE (namL t) = 0 := by
  obtain ⟨h1, h2⟩ := formE_ok he
  exact formE_of (by rw [namL_length]; exact h1) (namL_form h2)
/-- keysOf's answer: the error, the table. -/
noncomputable def keyE (t : NL) : Int := if (rootR t).2 = 4 then 0 else (rootR t).2
open Classical in
noncomputable def keysA (t : NL) : NL := if (rootR t).2 = 0 then subL (namL t) (rootR t).1 else []
theorem rootR_form {t : NL} (h : (rootR t).2 = 0) : formE t = 0 := by
  unfold rootR at h
  split at h
  · rename_i q
    exact absurd h q
  · rename_i q
    simpa using q
theorem root_at {t : NL} (h : (rootR t).2 = 0) : ∃ x : Nat, rootR t = ((x : Int), 0) ∧ x < t.length := by
  rcases rootR_cases (rootR_form h) with e | e | e
  · rw [e] at h; simp at h
  · rw [e] at h; simp at h
  · exact e
/-- The tree of the keys. -/
theorem keys_lay {t : NL} (h : (rootR t).2 = 0) : ∃ (x : Nat) (b : BT), rootR t = ((x : Int), 0) ∧ x < t.length ∧ Abs (namL t) x b ∧ keysA t = b.lay 0 ∧ b.ok ∧ b.size ≤ 100000 := by
  have he := rootR_form h
  obtain ⟨hb, hf⟩ := formE_ok he
  obtain ⟨x, hx, hxl⟩ := root_at h
  obtain ⟨M, h1, h2, h3, -⟩ := form_at hf x hxl
  obtain ⟨b, hb1, hb2⟩ := (namL_tree h1).abs
  refine ⟨x, b, hx, hxl, hb1, ?_, abs_ok (namL_form hf) hb1, by omega⟩
  unfold keysA
  rw [if_pos h, hx]
  unfold subL
  rw [if_pos ⟨namL_formE he, by simp, by rw [namL_length]; simpa using hxl⟩]
  simp only [Int.toNat_natCast]
  rw [theL_of (namL_tree h1)]
  exact part_lay (namL_tree h1) h2 hb1
/-- What is handed down: f to the children, out at each node. -/
def inh (f : PD → Int → Int) (out : Bool → PD → Int → List Int) : BT → Int → List Int
  | .leaf d, a => out true d a
  | .node d l r, a => out false d a ++ (inh f out l (f d a) ++ inh f out r (f d a))
/-- What a walk over a table that is numbered from the root on has still to pass from i on, with what is handed to each. -/
def Pend (K : NL) (A : Nat → Int) : Nat → List (BT × Int) → Prop
  | i, [] => i = K.length
  | i, (b, a) :: S => LaidT K i b ∧ A i = a ∧ Pend K A (i + b.size) S
def inhS (f : PD → Int → Int) (out : Bool → PD → Int → List Int) : List (BT × Int) → List Int
  | [] => []
  | (b, a) :: S => inh f out b a ++ inhS f out S
theorem pend_first (b : BT) (A : Nat → Int) : Pend (b.lay 0) A 0 [(b, A 0)] := ⟨laid_self b, rfl, by show 0 + b.size = _; rw [BT.lay_length]; omega⟩
theorem pend_congr {K : NL} {A A' : Nat → Int} : ∀ {S : List (BT × Int)} {i : Nat}, (∀ x, i ≤ x → A' x = A x) → Pend K A i S → Pend K A' i S
  | [], _, _, h => h
  | (b, a) :: S, i, hA, h => ⟨h.1, (hA i (Nat.le_refl _)).trans h.2.1, pend_congr (fun x hx => hA x (by omega)) h.2.2⟩
/-- One step. -/
theorem pend_step {K : NL} {A : Nat → Int} {f : PD → Int → Int} {out : Bool → PD → Int → List Int} {i : Nat} {S : List (BT × Int)} (h : Pend K A i S) (hi : i < K.length) :
    (∃ S', (ndAt K i).l = -1 ∧ (ndAt K i).r = -1 ∧ Pend K A (i + 1) S' ∧ inhS f out S = out true (ndP (ndAt K i)) (A i) ++ inhS f out S') ∨
    (∃ (l r : Nat) (S' : List (BT × Int)), (ndAt K i).l = (l : Int) ∧ (ndAt K i).r = (r : Int) ∧ l = i + 1 ∧ i + 1 < r ∧ r < K.length ∧ Pend K (fun x => if x = r then f (ndP (ndAt K i)) (A i) else if x = l then f (ndP (ndAt K i)) (A i) else A x) (i + 1) S' ∧ inhS f out S = out false (ndP (ndAt K i)) (A i) ++ inhS f out S') := by
  cases S with
  | nil => exact absurd h (by show ¬ i = K.length; omega)
  | cons e S =>
    obtain ⟨b, a⟩ := e
    obtain ⟨h1, rfl, h3⟩ := h
    cases b with
    | leaf d =>
      obtain ⟨-, q⟩ := laid_leaf h1
      refine Or.inl ⟨S, by rw [q], by rw [q], h3, ?_⟩
      rw [q]
      rfl
    | node d l r =>
      obtain ⟨-, q, q1, q2⟩ := laid_node h1
      have ls := l.size_pos
      have rs := r.size_pos
      refine Or.inr ⟨i + 1, i + 1 + l.size, (l, f d (A i)) :: (r, f d (A i)) :: S, by rw [q], by rw [q], rfl, by omega, by have := q2.1; omega, ?_, ?_⟩
      · have e1 : ndP (ndAt K i) = d := by rw [q]; rfl
        rw [e1]
        refine ⟨q1, ?_, q2, ?_, ?_⟩
        · simp
        · simp
        · have e2 : i + (BT.node d l r).size = i + 1 + l.size + r.size := by simp only [BT.size]; omega
          rw [e2] at h3
          exact pend_congr (fun x hx => by
            show (if x = i + 1 + l.size then _ else if x = i + 1 then _ else A x) = A x
            rw [if_neg (by omega), if_neg (by omega)]) h3
      · have e1 : ndP (ndAt K i) = d := by rw [q]; rfl
        rw [e1]
        simp [inhS, inh]
end Go.Proofs.Ythdfpddijocfkaa
