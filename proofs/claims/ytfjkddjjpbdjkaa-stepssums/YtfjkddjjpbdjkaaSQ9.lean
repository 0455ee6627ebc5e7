
/- Layer 18, pure: what Do makes, with its crown. -/

import Derived.Test.YtfjkddjjpbdjkaaSDo

import Derived.Test.YtfjkddjjpbdjkaaSQ8

namespace Go.Proofs.Ytfjkddjjpbdjkaa

theorem BT.mt_prs_rev (mi : Bool) (b : BT) : (b.mt mi).prs = if mi then b.prs.reverse else b.prs := by
  cases mi
  · rfl
  · exact b.mir_prs
theorem BT.mir_all {P : PD → Prop} : ∀ b : BT, b.mir.all P ↔ b.all P
  | .leaf _ => Iff.rfl
  | .node _ l r => by simp only [BT.mir, BT.all, BT.mir_all l, BT.mir_all r]; constructor <;> (rintro ⟨a, b, c⟩; exact ⟨a, c, b⟩)
theorem BT.mt_all {P : PD → Prop} (mi : Bool) (b : BT) : (b.mt mi).all P ↔ b.all P := by
  cases mi
  · exact Iff.rfl
  · exact b.mir_all
/-- Where q isn't, nothing is changed. -/
theorem graft_off {t : NL} {q : Nat} {u : BT} {p : Nat} {K : BT} {L : List Nat} (hT : Tree t p L) (hq : q ∉ L) (hK : Abs t p K) {K' : BT} (h : GraftR t q u p K') : K' = K := by
  induction h generalizing K L with
  | here => obtain ⟨M, rfl⟩ := hT.head; simp at hq
  | leaf hn hp hl hr => exact (Abs.leaf hp hl hr).det hK
  | node hn hp hl hr _ _ ih1 ih2 =>
    cases hT with
    | leaf _ hl' => omega
    | inner _ hl' hr' t1 t2 =>
      obtain rfl := Int.ofNat.inj (hl.symm.trans hl')
      obtain rfl := Int.ofNat.inj (hr.symm.trans hr')
      cases hK with
      | leaf _ hl'' => omega
      | node _ hl'' hr'' k1 k2 =>
        obtain rfl := Int.ofNat.inj (hl.symm.trans hl'')
        obtain rfl := Int.ofNat.inj (hr.symm.trans hr'')
        simp only [List.mem_cons, List.mem_append, not_or] at hq
        rw [ih1 t1 hq.2.1 k1, ih2 t2 hq.2.2 k2]
/-- What holds of the two trees in a place holds of the wholes, if nodes above keep it. -/
theorem graft_ind {t : NL} {q : Nat} {b u : BT} (P : BT → BT → Prop) (hb : Abs t q b) (h0 : P b u) (hl : ∀ d l l' r, P l l' → P (.node d l r) (.node d l' r)) (hr : ∀ d l r r', P r r' → P (.node d l r) (.node d l r'))
    {p : Nat} {K : BT} {L : List Nat} (hT : Tree t p L) (hN : L.Nodup) (hq : q ∈ L) (hK : Abs t p K) {K' : BT} (h : GraftR t q u p K') : P K K' := by
  induction h generalizing K L with
  | here => obtain rfl := hb.det hK; exact h0
  | @leaf p hn hp hl' hr' =>
    cases hT with
    | inner _ hl'' => omega
    | leaf => simp at hq; exact absurd hq.symm hn
  | @node p l r a c hn hp hl' hr' g1 g2 ih1 ih2 =>
    cases hT with
    | leaf _ hl'' => omega
    | inner _ e1 e2 t1 t2 =>
      obtain rfl := Int.ofNat.inj (hl'.symm.trans e1)
      obtain rfl := Int.ofNat.inj (hr'.symm.trans e2)
      cases hK with
      | leaf _ hl'' => omega
      | node _ e1 e2 k1 k2 =>
        obtain rfl := Int.ofNat.inj (hl'.symm.trans e1)
        obtain rfl := Int.ofNat.inj (hr'.symm.trans e2)
        rw [List.nodup_cons, List.nodup_append] at hN
        simp only [List.mem_cons, List.mem_append] at hq
        rcases hq with e | hq | hq
        · exact absurd e.symm hn
        · have hq2 : q ∉ _ := fun m => hN.2.2.2 q hq q m rfl
          rw [graft_off t2 hq2 k2 g2]
          exact hl _ _ _ _ (ih1 t1 hN.2.1 hq k1)
        · have hq2 : q ∉ _ := fun m => hN.2.2.2 q m q hq rfl
          rw [graft_off t1 hq2 k1 g1]
          exact hr _ _ _ _ (ih2 t2 hN.2.2.1 hq k2)
/-- A tree with its crown. -/
def crnB (t : NL) (l r s : Nat) (K : BT) : BT := .node (ndP (ndAt t 0)) (.node (ndP (ndAt t l)) K (.leaf (ndP (ndAt t s)))) (.leaf (ndP (ndAt t r)))
theorem graft_crn {t : NL} {x l r s : Nat} {K : BT} (h : Crn t x l r s K) {n : Nat} (h0 : n ≠ 0) (h1 : n ≠ l) (h2 : n ≠ r) (h3 : n ≠ s) {u B : BT} (hg : GraftR t n u 0 B) : ∃ K', B = crnB t l r s K' ∧ GraftR t n u x K' := by
  cases hg with
  | here => exact absurd rfl h0
  | leaf _ _ q => have := h.top.1; omega
  | node _ _ q1 q2 g1 g2 =>
    obtain rfl := Int.ofNat.inj (h.top.1.symm.trans q1)
    obtain rfl := Int.ofNat.inj (h.top.2.1.symm.trans q2)
    cases g2 with
    | here => exact absurd rfl h2
    | node _ _ q => have := h.er.1; omega
    | leaf =>
      cases g1 with
      | here => exact absurd rfl h1
      | leaf _ _ q => have := h.arch.1; omega
      | node _ _ q3 q4 g3 g4 =>
        obtain rfl := Int.ofNat.inj (h.arch.1.symm.trans q3)
        obtain rfl := Int.ofNat.inj (h.arch.2.1.symm.trans q4)
        cases g4 with
        | here => exact absurd rfl h3
        | node _ _ q => have := h.es.1; omega
        | leaf => exact ⟨_, rfl, g3⟩
theorem laid_at {T : NL} {o : Nat} {d : PD} {l r : BT} (h : LaidT T o (.node d l r)) : (ndAt T o).l = ((o + 1 : Nat) : Int) ∧ (ndAt T o).r = ((o + 1 + l.size : Nat) : Int) ∧ ndP (ndAt T o) = d := by
  obtain ⟨-, h2, -, -⟩ := laid_node h
  rw [h2]; exact ⟨rfl, rfl, rfl⟩
theorem laid_end {T : NL} {o : Nat} {d : PD} (h : LaidT T o (.leaf d)) : (ndAt T o).l = -1 ∧ (ndAt T o).r = -1 ∧ ndP (ndAt T o) = d := by
  obtain ⟨-, h2⟩ := laid_leaf h
  rw [h2]; exact ⟨rfl, rfl, rfl⟩
/-- What steps.Do makes, where it can be done. -/
structure DoF (t : NL) (p k : Int) (mi : Bool) (x l r s : Nat) (K : BT) (n : Nat) (b c C K' : BT) (u : NL) : Prop where
  crn : Crn t x l r s K
  pl : p = (n : Int)
  lt : n < t.length
  abs : Abs t n b
  keyM : ∃ M, Tree t x M ∧ M.Nodup ∧ n ∈ M
  kind : 1 ≤ k ∧ k ≤ 12
  mv : mvB k mi = true
  step : StepR (decide (n = x)) k (b.mt mi) c
  new : C = (if n = x then c.wset 1 else c).mt mi
  wt : (if n = x then c.wset 1 else c).wt ≤ 1000000
  keys : GraftR t n C x K'
  whole : GraftR t n C 0 (crnB t l r s K')
  ans : u = (crnB t l r s K').lay 0
  doe : doE t p k mi = 0
  dol : doL t p k mi = u
  bok : (crnB t l r s K').ok
  size : (crnB t l r s K').size = t.length
  nokey : K'.all (fun d => d.inf = 0)
  form : formE u = 0
  crnU : Crn u 2 1 (3 + K'.size) (2 + K'.size) K'
  len : u.length = t.length
theorem dof_of {t : NL} {p k : Int} {mi : Bool} (h : doE t p k mi = 0) : ∃ x l r s K n b c C K' u, DoF t p k mi x l r s K n b c C K' u := by
  have ht : todoE t p k mi = 0 := by
    unfold doE at h
    split at h
    · rename_i q; exact absurd h q
    · rename_i q; simpa using q
  have hw : (doC t p k mi).wt ≤ 1000000 := by
    unfold doE at h
    rw [if_neg (by simp [ht])] at h
    split at h
    · simp at h
    · omega
  obtain ⟨n, b, c, M, rfl, hn, hn0, hform, hA, hMN, hS, hdc⟩ := todo_is ht
  obtain ⟨hl1, hl2⟩ := todo_ok ht
  obtain ⟨g1, g2, g3⟩ := look_ok hl1
  obtain ⟨-, -, -, -, -, -, -, hk⟩ := look_place hl1
  obtain ⟨hbig, hf⟩ := formE_ok hform
  obtain ⟨x, l, r, s, K, cr⟩ := crn_of g1
  obtain ⟨n', Mx, hn', -, -, hTx, hmem⟩ := cr.keyplace g3
  obtain rfl : n' = n := by omega
  have har : atR t (n' : Int) = decide (n' = x) := by
    unfold atR
    rw [cr.root]
    by_cases e : n' = x
    · simp [e]
    · rw [decide_eq_false e, decide_eq_false (fun q => e (by have q' : (n' : Int) = (x : Int) := q; omega))]
  rw [har] at hS hdc
  have hdc' : doC t (n' : Int) k mi = (if n' = x then c.wset 1 else c) := by
    rw [hdc]
    by_cases e : n' = x
    · rw [if_pos (decide_eq_true e), if_pos e]
    · rw [if_neg (by simp [e]), if_neg e]
  simp only [ofK, Bool.and_eq_true, decide_eq_true_eq, bne_iff_ne, ne_eq, cr.top.1, cr.top.2.1, Int.toNat_natCast, cr.arch.2.1] at g3
  obtain ⟨M1, z1, z2⟩ := hA.mt mi
  obtain ⟨T, top, y1, y2⟩ := step_built hS z1 (z2.nodup_iff.2 hMN)
  obtain ⟨-, -, -, B, q1, -, -, q4, q5⟩ := change_tree hf hn0 hA hMN hS z2 y2 (T2 := if decide (n' = x) then wth T top 1 else T) (c2 := if decide (n' = x) then c.wset 1 else c) (atr := decide (n' = x)) rfl rfl (by rw [hdc] at hw; exact hw)
  have eC : (if decide (n' = x) = true then c.wset 1 else c) = (if n' = x then c.wset 1 else c) := by
    by_cases e : n' = x
    · rw [if_pos (decide_eq_true e), if_pos e]
    · rw [if_neg (by simp [e]), if_neg e]
  rw [eC] at q1
  obtain ⟨K', rfl, gK⟩ := graft_crn cr hn0 (by omega) (by omega) (by omega) q1
  obtain ⟨Mk, k1, k2, -, -⟩ := form_at hf x cr.lt.1
  obtain rfl := hTx.det k1
  have hB : doB t (n' : Int) k mi = crnB t l r s K' := by
    unfold doB
    rw [Int.toNat_natCast, hdc', theG_of q1]
  have hno : K'.all (fun d => d.inf = 0) := by
    have := graft_ind (fun a a' => a.all (fun d => d.inf = 0) → a'.all (fun d => d.inf = 0)) (u := (if n' = x then c.wset 1 else c).mt mi) hA.abs ?_ (fun d l l' r h q => ⟨q.1, h q.2.1, q.2.2⟩) (fun d l r r' h q => ⟨q.1, q.2.1, h q.2.2⟩) hTx k2 hmem cr.keys gK
    · exact this cr.nokey
    · intro hb0
      have hP : ∀ (d : PD) (a : Int), (d.w a).inf = 0 ↔ d.inf = 0 := fun d a => Iff.rfl
      rw [BT.mt_all]
      have hc0 : c.all (fun d => d.inf = 0) := (step_all hP hS).2 ((BT.mt_all mi b).2 hb0)
      split
      · exact (BT.wset_all (hP · _) c).2 hc0
      · exact hc0
  have hfu := lay_formE q4 (by omega)
  have L0 := laid_self (crnB t l r s K')
  obtain ⟨-, -, L1, L2⟩ := laid_node L0
  obtain ⟨-, -, L3, L4⟩ := laid_node L1
  have e0 := laid_at L0
  have e1 := laid_at L1
  have e2 := laid_end L2
  have e3 := laid_end L4
  have cu : Crn ((crnB t l r s K').lay 0) 2 1 (3 + K'.size) (2 + K'.size) K' := by
    have sz : (BT.node (ndP (ndAt t l)) K' (.leaf (ndP (ndAt t s)))).size = K'.size + 2 := by simp only [BT.size]; omega
    rw [sz] at e0 e2
    have a1 : 0 + 1 + (K'.size + 2) = 3 + K'.size := by omega
    have a2 : 0 + 1 + 1 + K'.size = 2 + K'.size := by omega
    rw [a1] at e0 e2
    rw [a2] at e1 e3
    refine root_is (l := 1) (r := 3 + K'.size) (s := 2 + K'.size) hfu ⟨e0.1, e0.2.1, ?_⟩ ⟨e1.1, e1.2.1, ?_⟩ ⟨e2.1, e2.2.1, ?_⟩ ⟨e3.1, e3.2.1, ?_⟩ (laid_abs K' L3) hno
    · rw [e0.2.2]; exact cr.top.2.2
    · rw [show ndP (ndAt ((crnB t l r s K').lay 0) 1) = ndP (ndAt t l) from e1.2.2]; exact cr.arch.2.2
    · rw [e2.2.2]; exact cr.er.2.2
    · rw [e3.2.2]; exact cr.es.2.2
  refine ⟨x, l, r, s, K, n', b, c, _, K', _, cr, rfl, hn, hA.abs, ⟨_, hTx, k2, hmem⟩, hk, g2, hS, rfl, by rw [← hdc']; exact hw, gK, q1, rfl, h, ?_, q4, q5, hno, hfu, cu, ?_⟩
  · unfold doL
    rw [if_pos h, hB]
  · rw [BT.lay_length]; exact q5
end Go.Proofs.Ytfjkddjjpbdjkaa
