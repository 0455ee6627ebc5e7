
/- Layer 18, pure: what Do makes, with its crown. Layer 18, pure: sums and violations of trees. Layer 18, pure: what Do keeps; the example. Layer 18, pure: tables with their crown, grafted; what holds of all nodes. -/

import Derived.Test.YthlhbajaogonnaaDoorSDo

import Derived.Test.YthlhbajaogonnaaDoorSQ8

namespace Go.Proofs.YthlhbajaogonnaaDoor

theorem BT.mt_prs_rev (mi : Bool) (b : BT) : (b.mt mi).prs = if mi then b.prs.reverse else b.prs := by
  cases mi
  · rfl
  · exact b.mir_prs
theorem BT.mir_all {P : PD → Prop} : ∀ b : BT, b.mir.all P ↔ b.all P
  | .leaf _ => Iff.rfl
  | .node _ l r => by simp only [BT.mir, BT.all, BT.mir_all l, BT.mir_all r]; constructor <;> (rintro ⟨a, b, c⟩; exact ⟨a, c, b⟩)
theorem BT.mt_all {P : PD → Prop} (mi : Bool) (b : BT) : (b.mt mi).all P ↔ b.all P := by
  cases mi
  · exact Iff.rfl
  · exact b.mir_all
/-- Where q isn't, nothing is changed. -/
theorem graft_off {t : NL} {q : Nat} {u : BT} {p : Nat} {K : BT} {L : List Nat} (hT : Tree t p L) (hq : q ∉ L) (hK : Abs t p K) {K' : BT} (h : GraftR t q u p K') : K' = K := by
  induction h generalizing K L with
  | here => obtain ⟨M, rfl⟩ := hT.head; simp at hq
  | leaf hn hp hl hr => exact (Abs.leaf hp hl hr).det hK
  | node hn hp hl hr _ _ ih1 ih2 =>
    cases hT with
    | leaf _ hl' => omega
    | inner _ hl' hr' t1 t2 =>
      obtain rfl := Int.ofNat.inj (hl.symm.trans hl')
      obtain rfl := Int.ofNat.inj (hr.symm.trans hr')
      cases hK with
      | leaf _ hl'' => omega
      | node _ hl'' hr'' k1 k2 =>
        obtain rfl := Int.ofNat.inj (hl.symm.trans hl'')
        obtain rfl := Int.ofNat.inj (hr.symm.trans hr'')
        simp only [List.mem_cons, List.mem_append, not_or] at hq
        rw [ih1 t1 hq.2.1 k1, ih2 t2 hq.2.2 k2]
/-- What holds of the two trees in a place holds of the wholes, if nodes above keep it. -/
theorem graft_ind {t : NL} {q : Nat} {b u : BT} (P : BT → BT → Prop) (hb : Abs t q b) (h0 : P b u) (hl : ∀ d l l' r, P l l' → P (.node d l r) (.node d l' r)) (hr : ∀ d l r r', P r r' → P (.node d l r) (.node d l r'))
    {p : Nat} {K : BT} {L : List Nat} (hT : Tree t p L) (hN : L.Nodup) (hq : q ∈ L) (hK : Abs t p K) {K' : BT} (h : GraftR t q u p K') : P K K' := by
  induction h generalizing K L with
  | here => obtain rfl := hb.det hK; exact h0
  | @leaf p hn hp hl' hr' =>
    cases hT with
    | inner _ hl'' => omega
    | leaf => simp at hq; exact absurd hq.symm hn
  | @node p l r a c hn hp hl' hr' g1 g2 ih1 ih2 =>
    cases hT with
    | leaf _ hl'' => omega
    | inner _ e1 e2 t1 t2 =>
      obtain rfl := Int.ofNat.inj (hl'.symm.trans e1)
      obtain rfl := Int.ofNat.inj (hr'.symm.trans e2)
      cases hK with
      | leaf _ hl'' => omega
      | node _ e1 e2 k1 k2 =>
        obtain rfl := Int.ofNat.inj (hl'.symm.trans e1)
        obtain rfl := Int.ofNat.inj (hr'.symm.trans e2)
        rw [List.nodup_cons, List.nodup_append] at hN
        simp only [List.mem_cons, List.mem_append] at hq
        rcases hq with e | hq | hq
        · exact absurd e.symm hn
        · have hq2 : q ∉ _ := fun m => hN.2.2.2 q hq q m rfl
          rw [graft_off t2 hq2 k2 g2]
          exact hl _ _ _ _ (ih1 t1 hN.2.1 hq k1)
        · have hq2 : q ∉ _ := fun m => hN.2.2.2 q m q hq rfl
          rw [graft_off t1 hq2 k1 g1]
          exact hr _ _ _ _ (ih2 t2 hN.2.2.1 hq k2)
/-- A tree with its crown. -/
def crnB (t : NL) (l r s : Nat) (K : BT) : BT := .node (ndP (ndAt t 0)) (.node (ndP (ndAt t l)) K (.leaf (ndP (ndAt t s)))) (.leaf (ndP (ndAt t r)))
theorem graft_crn {t : NL} {x l r s : Nat} {K : BT} (h : Crn t x l r s K) {n : Nat} (h0 : n ≠ 0) (h1 : n ≠ l) (h2 : n ≠ r) (h3 : n ≠ s) {u B : BT} (hg : GraftR t n u 0 B) : ∃ K', B = crnB t l r s K' ∧ GraftR t n u x K' := by
  cases hg with
  | here => exact absurd rfl h0
  | leaf _ _ q => have := h.top.1; omega
  | node _ _ q1 q2 g1 g2 =>
    obtain rfl := Int.ofNat.inj (h.top.1.symm.trans q1)
    obtain rfl := Int.ofNat.inj (h.top.2.1.symm.trans q2)
    cases g2 with
    | here => exact absurd rfl h2
    | node _ _ q => have := h.er.1; omega
    | leaf =>
      cases g1 with
      | here => exact absurd rfl h1
      | leaf _ _ q => have := h.arch.1; omega
      | node _ _ q3 q4 g3 g4 =>
        obtain rfl := Int.ofNat.inj (h.arch.1.symm.trans q3)
        obtain rfl := Int.ofNat.inj (h.arch.2.1.symm.trans q4)
        cases g4 with
        | here => exact absurd rfl h3
        | node _ _ q => have := h.es.1; omega
        | leaf => exact ⟨_, rfl, g3⟩
theorem laid_at {T : NL} {o : Nat} {d : PD} {l r : BT} (h : LaidT T o (.node d l r)) : (ndAt T o).l = ((o + 1 : Nat) : Int) ∧ (ndAt T o).r = ((o + 1 + l.size : Nat) : Int) ∧ ndP (ndAt T o) = d := by
  obtain ⟨-, h2, -, -⟩ := laid_node h
  rw [h2]; exact ⟨rfl, rfl, rfl⟩
theorem laid_end {T : NL} {o : Nat} {d : PD} (h : LaidT T o (.leaf d)) : (ndAt T o).l = -1 ∧ (ndAt T o).r = -1 ∧ ndP (ndAt T o) = d := by
  obtain ⟨-, h2⟩ := laid_leaf h
  rw [h2]; exact ⟨rfl, rfl, rfl⟩
/-- What steps.Do makes, where it can be done. -/
structure DoF (t : NL) (p k : Int) (mi : Bool) (x l r s : Nat) (K : BT) (n : Nat) (b c C K' : BT) (u : NL) : Prop where
  crn : Crn t x l r s K
  pl : p = (n : Int)
  lt : n < t.length
  abs : Abs t n b
  keyM : ∃ M, Tree t x M ∧ M.Nodup ∧ n ∈ M
  kind : 1 ≤ k ∧ k ≤ 12
  mv : mvB k mi = true
  step : StepR (decide (n = x)) k (b.mt mi) c
  new : C = (if n = x then c.wset 1 else c).mt mi
  wt : (if n = x then c.wset 1 else c).wt ≤ 1000000
  keys : GraftR t n C x K'
  whole : GraftR t n C 0 (crnB t l r s K')
  ans : u = (crnB t l r s K').lay 0
  doe : doE t p k mi = 0
  dol : doL t p k mi = u
  bok : (crnB t l r s K').ok
  size : (crnB t l r s K').size = t.length
  nokey : K'.all (fun d => d.inf = 0)
  form : formE u = 0
  crnU : Crn u 2 1 (3 + K'.size) (2 + K'.size) K'
  len : u.length = t.length
theorem dof_of {t : NL} {p k : Int} {mi : Bool} (h : doE t p k mi = 0) : ∃ x l r s K n b c C K' u, DoF t p k mi x l r s K n b c C K' u := by
  have ht : todoE t p k mi = 0 := by
    unfold doE at h
    split at h
    · rename_i q; exact absurd h q
    · rename_i q; simpa using q
  have hw : (doC t p k mi).wt ≤ 1000000 := by
    unfold doE at h
    rw [if_neg (by simp [ht])] at h
    split at h
    · simp at h
    · omega
  obtain ⟨n, b, c, M, rfl, hn, hn0, hform, hA, hMN, hS, hdc⟩ := todo_is ht
  obtain ⟨hl1, hl2⟩ := todo_ok ht
  obtain ⟨g1, g2, g3⟩ := look_ok hl1
  obtain ⟨-, -, -, -, -, -, -, hk⟩ := look_place hl1
  obtain ⟨hbig, hf⟩ := formE_ok hform
  obtain ⟨x, l, r, s, K, cr⟩ := crn_of g1
  obtain ⟨n', Mx, hn', -, -, hTx, hmem⟩ := cr.keyplace g3
  obtain rfl : n' = n := by omega
  have har : atR t (n' : Int) = decide (n' = x) := by
    unfold atR
    rw [cr.root]
    by_cases e : n' = x
    · simp [e]
    · rw [decide_eq_false e, decide_eq_false (fun q => e (by have q' : (n' : Int) = (x : Int) := q; omega))]
  rw [har] at hS hdc
  have hdc' : doC t (n' : Int) k mi = (if n' = x then c.wset 1 else c) := by
    rw [hdc]
    by_cases e : n' = x
    · rw [if_pos (decide_eq_true e), if_pos e]
    · rw [if_neg (by simp [e]), if_neg e]
  simp only [ofK, Bool.and_eq_true, decide_eq_true_eq, bne_iff_ne, ne_eq, cr.top.1, cr.top.2.1, Int.toNat_natCast, cr.arch.2.1] at g3
  obtain ⟨M1, z1, z2⟩ := hA.mt mi
  obtain ⟨T, top, y1, y2⟩ := step_built hS z1 (z2.nodup_iff.2 hMN)
  obtain ⟨-, -, -, B, q1, -, -, q4, q5⟩ := change_tree hf hn0 hA hMN hS z2 y2 (T2 := if decide (n' = x) then wth T top 1 else T) (c2 := if decide (n' = x) then c.wset 1 else c) (atr := decide (n' = x)) rfl rfl (by rw [hdc] at hw; exact hw)
  have eC : (if decide (n' = x) = true then c.wset 1 else c) = (if n' = x then c.wset 1 else c) := by
    by_cases e : n' = x
    · rw [if_pos (decide_eq_true e), if_pos e]
    · rw [if_neg (by simp [e]), if_neg e]
  rw [eC] at q1
  obtain ⟨K', rfl, gK⟩ := graft_crn cr hn0 (by omega) (by omega) (by omega) q1
  obtain ⟨Mk, k1, k2, -, -⟩ := form_at hf x cr.lt.1
  obtain rfl := hTx.det k1
  have hB : doB t (n' : Int) k mi = crnB t l r s K' := by
    unfold doB
    rw [Int.toNat_natCast, hdc', theG_of q1]
  have hno : K'.all (fun d => d.inf = 0) := by
    have := graft_ind (fun a a' => a.all (fun d => d.inf = 0) → a'.all (fun d => d.inf = 0)) (u := (if n' = x then c.wset 1 else c).mt mi) hA.abs ?_ (fun d l l' r h q => ⟨q.1, h q.2.1, q.2.2⟩) (fun d l r r' h q => ⟨q.1, q.2.1, h q.2.2⟩) hTx k2 hmem cr.keys gK
    · exact this cr.nokey
    · intro hb0
      have hP : ∀ (d : PD) (a : Int), (d.w a).inf = 0 ↔ d.inf = 0 := fun d a => Iff.rfl
      rw [BT.mt_all]
      have hc0 : c.all (fun d => d.inf = 0) := (step_all hP hS).2 ((BT.mt_all mi b).2 hb0)
      split
      · exact (BT.wset_all (hP · _) c).2 hc0
      · exact hc0
  have hfu := lay_formE q4 (by omega)
  have L0 := laid_self (crnB t l r s K')
  obtain ⟨-, -, L1, L2⟩ := laid_node L0
  obtain ⟨-, -, L3, L4⟩ := laid_node L1
  have e0 := laid_at L0
  have e1 := laid_at L1
  have e2 := laid_end L2
  have e3 := laid_end L4
  have cu : Crn ((crnB t l r s K').lay 0) 2 1 (3 + K'.size) (2 + K'.size) K' := by
    have sz : (BT.node (ndP (ndAt t l)) K' (.leaf (ndP (ndAt t s)))).size = K'.size + 2 := by simp only [BT.size]; omega
    rw [sz] at e0 e2
    have a1 : 0 + 1 + (K'.size + 2) = 3 + K'.size := by omega
    have a2 : 0 + 1 + 1 + K'.size = 2 + K'.size := by omega
    rw [a1] at e0 e2
    rw [a2] at e1 e3
    refine root_is (l := 1) (r := 3 + K'.size) (s := 2 + K'.size) hfu ⟨e0.1, e0.2.1, ?_⟩ ⟨e1.1, e1.2.1, ?_⟩ ⟨e2.1, e2.2.1, ?_⟩ ⟨e3.1, e3.2.1, ?_⟩ (laid_abs K' L3) hno
    · rw [e0.2.2]; exact cr.top.2.2
    · rw [show ndP (ndAt ((crnB t l r s K').lay 0) 1) = ndP (ndAt t l) from e1.2.2]; exact cr.arch.2.2
    · rw [e2.2.2]; exact cr.er.2.2
    · rw [e3.2.2]; exact cr.es.2.2
  refine ⟨x, l, r, s, K, n', b, c, _, K', _, cr, rfl, hn, hA.abs, ⟨_, hTx, k2, hmem⟩, hk, g2, hS, rfl, by rw [← hdc']; exact hw, gK, q1, rfl, h, ?_, q4, q5, hno, hfu, cu, ?_⟩
  · unfold doL
    rw [if_pos h, hB]
  · rw [BT.lay_length]; exact q5
end Go.Proofs.YthlhbajaogonnaaDoor

namespace Go.Proofs.YthlhbajaogonnaaDoor

/-- The sums of weights to the leaves, from left to right. -/
def BT.sms : BT → Int → List Int
  | .leaf d, a => [a + d.wt]
  | .node d l r, a => l.sms (a + d.wt) ++ r.sms (a + d.wt)
theorem BT.sms_add : ∀ (b : BT) (a d : Int), b.sms (a + d) = (b.sms a).map (· + d)
  | .leaf p, a, d => by simp only [BT.sms, List.map_cons, List.map_nil]; congr 1; omega
  | .node p l r, a, d => by
    simp only [BT.sms, List.map_append]
    rw [show a + d + p.wt = a + p.wt + d by omega, BT.sms_add l, BT.sms_add r]
theorem BT.mir_sms : ∀ (b : BT) (a : Int), b.mir.sms a = (b.sms a).reverse
  | .leaf _, _ => rfl
  | .node p l r, a => by simp only [BT.mir, BT.sms, List.reverse_append, BT.mir_sms l, BT.mir_sms r]
theorem BT.mt_sms (mi : Bool) (b c : BT) {a d : Int} (h : b.sms a = c.sms d) : (b.mt mi).sms a = (c.mt mi).sms d := by
  cases mi
  · exact h
  · show b.mir.sms a = c.mir.sms d
    rw [BT.mir_sms, BT.mir_sms, h]
theorem BT.sms_length : ∀ (b : BT) (a d : Int), (b.sms a).length = (b.sms d).length
  | .leaf _, _, _ => rfl
  | .node p l r, a, d => by simp only [BT.sms, List.length_append, BT.sms_length l _ (d + p.wt), BT.sms_length r _ (d + p.wt)]
theorem BT.sms_pos : ∀ (b : BT) (a : Int), 0 < (b.sms a).length
  | .leaf _, _ => by simp [BT.sms]
  | .node p l r, a => by have := BT.sms_pos l (a + p.wt); simp only [BT.sms, List.length_append]; omega
theorem BT.wset_sms (w : Int) : ∀ (b : BT) (a : Int), (b.wset w).sms a = b.sms (a + w - b.wt)
  | .leaf p, a => by simp only [BT.wset, BT.sms, BT.wt, BT.dat, PD.w]; congr 1; omega
  | .node p l r, a => by simp only [BT.wset, BT.sms, BT.wt, BT.dat, PD.w]; rw [show a + w - p.wt + p.wt = a + w by omega]
theorem sms2 {b : BT} {x y : Int} {L R : List Int} (h : x = y) (h' : L = R) : b.sms x ++ L = b.sms y ++ R := by rw [h, h']
theorem sms1 {b : BT} {x y : Int} (h : x = y) : b.sms x = b.sms y := by rw [h]
theorem step_sms {root : Bool} {k : Int} {b c : BT} (h : StepR root k b c) (hk : k ≠ 12) (a : Int) : c.sms a = b.sms a := by
  cases h with
  | root => exact absurd rfl hk
  | _ =>
    simp only [BT.sms, BT.wset_sms, PD.w, List.append_assoc]
    (repeat' (first | apply sms2 | apply sms1)) <;> omega
/-- The violations of a tree. -/
def BT.z (b : BT) : Int := if b.wt = 0 then 1 else 0
def BT.bad : BT → Int
  | .leaf d => max (d.wt - 1) 0
  | .node d l r => max (d.wt - 1) 0 + ((if l.wt = 0 ∧ d.wt = 0 then 1 else 0) + (if r.wt = 0 ∧ d.wt = 0 then 1 else 0) + l.bad + r.bad)
/-- The children that weigh nothing; the violations below. -/
def BT.zz : BT → Int
  | .leaf _ => 0
  | .node _ l r => l.z + r.z
def BT.rst : BT → Int
  | .leaf _ => 0
  | .node _ l r => l.bad + r.bad
theorem BT.z_01 (b : BT) : 0 ≤ b.z ∧ b.z ≤ 1 := by unfold BT.z; split <;> omega
theorem BT.z_one {b : BT} (h : b.wt = 0) : b.z = 1 := by unfold BT.z; rw [if_pos h]
theorem BT.z_zero {b : BT} (h : b.wt ≠ 0) : b.z = 0 := by unfold BT.z; rw [if_neg h]
theorem BT.zz_nn (b : BT) : 0 ≤ b.zz := by
  cases b with
  | leaf => simp [BT.zz]
  | node d l r => have := l.z_01; have := r.z_01; simp only [BT.zz]; omega
theorem BT.node_bad (d : PD) (l r : BT) : (BT.node d l r).bad = max (d.wt - 1) 0 + (if d.wt = 0 then l.z + r.z else 0) + (l.bad + r.bad) := by
  simp only [BT.bad, BT.z]
  by_cases h : d.wt = 0
  · simp only [h, and_true, if_true]; omega
  · simp only [h, and_false, if_false]; omega
theorem BT.bad_is (b : BT) : b.bad = max (b.wt - 1) 0 + (if b.wt = 0 then b.zz else 0) + b.rst := by
  cases b with
  | leaf d => simp only [BT.bad, BT.wt, BT.dat, BT.zz, BT.rst]; omega
  | node d l r => exact BT.node_bad d l r
theorem BT.wset_bad (a : Int) (b : BT) : (b.wset a).bad = max (a - 1) 0 + (if a = 0 then b.zz else 0) + b.rst := by
  cases b with
  | leaf d => simp only [BT.bad, BT.wset, PD.w, BT.zz, BT.rst, ite_self]; omega
  | node d l r => exact BT.node_bad (d.w a) l r
theorem BT.mir_wt (b : BT) : b.mir.wt = b.wt := by cases b <;> rfl
theorem BT.mir_bad : ∀ b : BT, b.mir.bad = b.bad
  | .leaf _ => rfl
  | .node d l r => by
    have z1 : l.mir.z = l.z := by unfold BT.z; rw [BT.mir_wt]
    have z2 : r.mir.z = r.z := by unfold BT.z; rw [BT.mir_wt]
    simp only [BT.mir, BT.node_bad, BT.mir_bad l, BT.mir_bad r, z1, z2]
    split <;> omega
theorem BT.mt_bad (mi : Bool) (b : BT) : (b.mt mi).bad = b.bad := by
  cases mi
  · rfl
  · exact b.mir_bad
theorem BT.mt_wt (mi : Bool) (b : BT) : (b.mt mi).wt = b.wt := by
  cases mi
  · rfl
  · exact b.mir_wt
theorem BT.wset1_bad (b : BT) : (b.wset 1).bad ≤ b.bad := by
  rw [BT.wset_bad, BT.bad_is]
  have := b.zz_nn
  split <;> split <;> omega
theorem zz_some {l : BT} (h : bwO (blO (some l)) = 0 ∨ bwO (brO (some l)) = 0) : 1 ≤ l.zz := by
  cases l with
  | leaf d => simp [blO, brO, bwO] at h
  | node d a c =>
    have := a.z_01; have := c.z_01
    simp only [BT.zz]
    rcases h with h | h
    · have := BT.z_one (b := a) h; omega
    · have := BT.z_one (b := c) h; omega
/-- Kinds behind which there are less. -/
def lessK (k : Int) : Bool := decide (k = 2 ∨ k = 3 ∨ (5 ≤ k ∧ k ≤ 11))
theorem BT.node_wt (d : PD) (l r : BT) : (BT.node d l r).wt = d.wt := rfl
theorem BT.node_z (d : PD) (l r : BT) : (BT.node d l r).z = if d.wt = 0 then 1 else 0 := rfl
theorem BT.wset_z (a : Int) (b : BT) : (b.wset a).z = if a = 0 then 1 else 0 := by unfold BT.z; rw [BT.wset_wt]
set_option maxHeartbeats 2000000 in
theorem step_bad {root : Bool} {k : Int} {b c : BT} (h : StepR root k b c) (hb : b.ok) : c.bad ≤ b.bad ∧ c.z + c.bad ≤ b.z + b.bad + (if k = 12 then 1 else 0) ∧ (lessK k = true → c.bad < b.bad ∧ c.z + c.bad < b.z + b.bad) := by
  have W : ∀ {a : BT}, a.ok → 0 ≤ a.wt := fun h => (BT.ok_wt h).1
  cases h with
  | @blk x l r h1 h2 h3 h4 =>
    have := hb.1.2
    have e1 : 1 ≤ l.zz + r.zz := by
      have := l.zz_nn; have := r.zz_nn
      rcases h4 with h | h | h | h
      · have := zz_some (Or.inl h); omega
      · have := zz_some (Or.inr h); omega
      · have := zz_some (Or.inl h); omega
      · have := zz_some (Or.inr h); omega
    simp only [BT.node_bad, BT.wset_bad, BT.bad_is l, BT.bad_is r, h1, h2, BT.node_z, BT.wset_z, BT.z_one h1, BT.z_one h2, PD.w, lessK]
    refine ⟨?_, ?_, fun q => ?_⟩
    · simp; (repeat' split) <;> omega
    · simp; (repeat' split) <;> omega
    · simp at q
  | @rb1 x l ll lr r h1 h2 h3 h4 =>
    have wx := hb.1.2
    have zf_lr := lr.z_01
    have ze_ll := BT.z_one (b := ll) h3
    have ze_r := BT.z_zero (b := r) (by omega)
    simp only [BT.node_bad, BT.node_z, PD.w, lessK, h2, ze_ll, ze_r]
    refine ⟨?_, ?_, fun _ => ⟨?_, ?_⟩⟩ <;> simp <;> (repeat' split) <;> omega
  | @rb2 x l lr ll lrl lrr r h1 h2 h3 h4 h5 =>
    have wx := hb.1.2
    have zf_lrl := lrl.z_01
    have zf_lrr := lrr.z_01
    have ze_ll := BT.z_zero (b := ll) (by omega)
    have ze_r := BT.z_zero (b := r) (by omega)
    simp only [BT.node_bad, BT.node_z, PD.w, lessK, h2, h3, ze_ll, ze_r]
    refine ⟨?_, ?_, fun _ => ⟨?_, ?_⟩⟩ <;> simp <;> (repeat' split) <;> omega
  | @push x r l rl rr h1 h2 h3 h4 =>
    have wx := hb.1.2
    have zn_l := l.zz_nn
    have ze_l := BT.z_zero (b := l) (by omega)
    have ze_rl := BT.z_zero (b := rl) (by omega)
    have ze_rr := BT.z_zero (b := rr) (by omega)
    simp only [BT.node_bad, BT.wset_bad, BT.bad_is l, BT.node_z, BT.wset_z, PD.w, lessK, h2, ze_l, ze_rl, ze_rr]
    refine ⟨?_, ?_, fun q => by simp at q⟩ <;> simp <;> (repeat' split) <;> omega
  | @w1 x r l rl rr h1 h2 h3 =>
    have wx := hb.1.2
    have zf_rr := rr.z_01
    have zn_l := l.zz_nn
    have zn_rl := rl.zz_nn
    have ze_l := BT.z_zero (b := l) (by omega)
    have ze_rl := BT.z_zero (b := rl) (by omega)
    simp only [BT.node_bad, BT.wset_bad, BT.bad_is l, BT.bad_is rl, BT.node_z, BT.wset_z, PD.w, lessK, h2, ze_l, ze_rl]
    refine ⟨?_, ?_, fun _ => ⟨?_, ?_⟩⟩ <;> simp <;> (repeat' split) <;> omega
  | @w2 x r rl l rll rlr rr h1 h2 h3 h4 h5 =>
    have wx := hb.1.2
    have zf_rr := rr.z_01
    have zn_l := l.zz_nn
    have ze_l := BT.z_zero (b := l) (by omega)
    have ze_rll := BT.z_zero (b := rll) (by omega)
    have ze_rlr := BT.z_zero (b := rlr) (by omega)
    simp only [BT.node_bad, BT.wset_bad, BT.bad_is l, BT.node_z, BT.wset_z, PD.w, lessK, h2, h3, ze_l, ze_rll, ze_rlr]
    refine ⟨?_, ?_, fun _ => ⟨?_, ?_⟩⟩ <;> simp <;> (repeat' split) <;> omega
  | @w3 x r rl rll l rlll rllr rlr rr h1 h2 h3 h4 h5 =>
    have wx := hb.1.2
    have zf_rr := rr.z_01
    have zf_rlll := rlll.z_01
    have zf_rllr := rllr.z_01
    have zn_l := l.zz_nn
    have ze_l := BT.z_zero (b := l) (by omega)
    have ze_rlr := BT.z_zero (b := rlr) (by omega)
    simp only [BT.node_bad, BT.wset_bad, BT.bad_is l, BT.node_z, BT.wset_z, PD.w, lessK, h2, h3, h4, ze_l, ze_rlr]
    refine ⟨?_, ?_, fun _ => ⟨?_, ?_⟩⟩ <;> simp <;> (repeat' split) <;> omega
  | @w4 x r rl l rll rlr rr h1 h2 h3 h4 =>
    have wx := hb.1.2
    have zf_rr := rr.z_01
    have zf_rll := rll.z_01
    have zn_l := l.zz_nn
    have zn_rlr := rlr.zz_nn
    have ze_l := BT.z_zero (b := l) (by omega)
    have ze_rlr := BT.z_one (b := rlr) h4
    simp only [BT.node_bad, BT.wset_bad, BT.bad_is l, BT.bad_is rlr, BT.node_z, BT.wset_z, PD.w, lessK, h2, h3, h4, ze_l, ze_rlr]
    refine ⟨?_, ?_, fun _ => ⟨?_, ?_⟩⟩ <;> simp <;> (repeat' split) <;> omega
  | @w5 x r l rl rr h1 h2 h3 =>
    have wx := hb.1.2
    have zf_rl := rl.z_01
    have zn_l := l.zz_nn
    have zn_rr := rr.zz_nn
    have ze_l := BT.z_zero (b := l) (by omega)
    have ze_rr := BT.z_one (b := rr) h3
    simp only [BT.node_bad, BT.wset_bad, BT.bad_is l, BT.bad_is rr, BT.node_z, BT.wset_z, PD.w, lessK, h2, h3, ze_l, ze_rr]
    refine ⟨?_, ?_, fun _ => ⟨?_, ?_⟩⟩ <;> simp <;> (repeat' split) <;> omega
  | @w6 x r rl l rll rlr rr h1 h2 h3 h4 =>
    have wx := hb.1.2
    have zf_rll := rll.z_01
    have zf_rlr := rlr.z_01
    have zn_l := l.zz_nn
    have ze_l := BT.z_zero (b := l) (by omega)
    have ze_rr := BT.z_zero (b := rr) (by omega)
    simp only [BT.node_bad, BT.wset_bad, BT.bad_is l, BT.node_z, BT.wset_z, PD.w, lessK, h2, h3, ze_l, ze_rr]
    refine ⟨?_, ?_, fun _ => ⟨?_, ?_⟩⟩ <;> simp <;> (repeat' split) <;> omega
  | @w7 x l r h1 h2 =>
    have wx := hb.1.2
    have zn_l := l.zz_nn
    have zn_r := r.zz_nn
    have ze_l := BT.z_zero (b := l) (by omega)
    have ze_r := BT.z_zero (b := r) (by omega)
    simp only [BT.node_bad, BT.wset_bad, BT.bad_is l, BT.bad_is r, BT.node_z, BT.wset_z, PD.w, lessK, ze_l, ze_r]
    refine ⟨?_, ?_, fun _ => ⟨?_, ?_⟩⟩ <;> simp <;> (repeat' split) <;> omega
  | root h1 h2 =>
    have w1 := W hb
    have := b.zz_nn
    refine ⟨b.wset1_bad, ?_, fun q => by simp [lessK] at q⟩
    have := b.wset1_bad
    simp only [BT.z, BT.wset_wt]
    simp
    split <;> omega
end Go.Proofs.YthlhbajaogonnaaDoor

namespace Go.Proofs.YthlhbajaogonnaaDoor

theorem graft_here {t : NL} {q : Nat} {u K : BT} (h : GraftR t q u q K) : K = u := by
  cases h with
  | here => rfl
  | leaf hn => exact absurd rfl hn
  | node hn => exact absurd rfl hn
theorem DoF.kNe {t : NL} {p k : Int} {mi : Bool} {x l r s : Nat} {K : BT} {n : Nat} {b c C K' : BT} {u : NL} (h : DoF t p k mi x l r s K n b c C K' u) (hn : n ≠ x) : k ≠ 12 := by
  intro e
  subst e
  have := h.step
  rw [decide_eq_false hn] at this
  cases this with
  | root q => cases q
theorem DoF.prs {t : NL} {p k : Int} {mi : Bool} {x l r s : Nat} {K : BT} {n : Nat} {b c C K' : BT} {u : NL} (h : DoF t p k mi x l r s K n b c C K' u) : (crnB t l r s K').prs = (crnB t l r s K).prs := by
  obtain ⟨M, m1, m2, m3⟩ := h.keyM
  have hC : C.prs = b.prs := by
    have e : (if n = x then c.wset 1 else c).prs = c.prs := by
      split
      · exact BT.wset_prs _ _
      · rfl
    have e2 : (b.mt mi).prs = c.prs := (step_prs h.step).symm
    rw [h.new, BT.mt_prs_rev, e, ← e2, BT.mt_prs_rev]
    cases mi <;> simp
  have hK := graft_ind (fun a a' => a'.prs = a.prs) h.abs hC (fun d l l' r q => by simp only [BT.prs, q]) (fun d l r r' q => by simp only [BT.prs, q]) m1 m2 m3 h.crn.keys h.keys
  simp only [crnB, BT.prs, hK]
theorem DoF.ord {t : NL} {p k : Int} {mi : Bool} {x l r s : Nat} {K : BT} {n : Nat} {b c C K' : BT} {u : NL} (h : DoF t p k mi x l r s K n b c C K' u) {S : Int → Prop} (ho : (crnB t l r s K).ord false S) : (crnB t l r s K').ord false S := by
  obtain ⟨M, m1, m2, m3⟩ := h.keyM
  have hC : b.all (fun d => d.inf = 0) → ∀ S, b.ord false S → C.ord false S := by
    intro hb S hS
    have hc := step_ord mi h.step ((BT.mt_all mi b).2 hb) ((BT.ord_mt mi b).2 hS)
    have hc2 : (if n = x then c.wset 1 else c).ord mi S := by
      split
      · exact (BT.wset_ord mi 1 c S).2 hc
      · exact hc
    rw [h.new]
    have := (BT.ord_mt mi ((if n = x then c.wset 1 else c).mt mi) (S := S)).1
    rw [BT.mt_mt] at this
    exact this hc2
  have hK := graft_ind (fun a a' => a.all (fun d => d.inf = 0) → ∀ S, a.ord false S → a'.ord false S) h.abs hC (fun d l l' r q g S o => ⟨q g.2.1 _ o.1, o.2⟩) (fun d l r r' q g S o => ⟨o.1, q g.2.2 _ o.2⟩) m1 m2 m3 h.crn.keys h.keys
  exact ⟨⟨hK h.crn.nokey _ ho.1.1, ho.1.2⟩, ho.2⟩
theorem DoF.sms {t : NL} {p k : Int} {mi : Bool} {x l r s : Nat} {K : BT} {n : Nat} {b c C K' : BT} {u : NL} (h : DoF t p k mi x l r s K n b c C K' u) : (n ≠ x → K'.sms 0 = K.sms 0) ∧ (n = x → K'.wt = 1) ∧ ∃ d, K'.sms 0 = K.sms d := by
  obtain ⟨M, m1, m2, m3⟩ := h.keyM
  by_cases e : n = x
  · subst e
    obtain rfl := graft_here h.keys
    obtain rfl := h.crn.keys.det h.abs
    refine ⟨fun q => absurd rfl q, fun _ => ?_, ?_⟩
    · rw [h.new, if_pos rfl, BT.mt_wt, BT.wset_wt]
    · rw [h.new, if_pos rfl]
      by_cases e12 : k = 12
      · have hs := h.step
        subst e12
        cases hs with
        | root =>
          rw [BT.wset_wset]
          refine ⟨0 + 1 - (K.mt mi).wt, ?_⟩
          have := BT.mt_sms mi ((K.mt mi).wset 1) (K.mt mi) (a := 0) (BT.wset_sms 1 _ 0)
          rw [BT.mt_mt] at this
          exact this
      · refine ⟨0 + 1 - c.wt, ?_⟩
        have := BT.mt_sms mi (c.wset 1) (K.mt mi) (a := 0) ((BT.wset_sms 1 c 0).trans (step_sms h.step e12 _))
        rw [BT.mt_mt] at this
        exact this
  · have hk := h.kNe e
    have hC : ∀ a, C.sms a = b.sms a := by
      intro a
      have := BT.mt_sms mi c (b.mt mi) (a := a) (step_sms h.step hk a)
      rw [BT.mt_mt] at this
      rw [h.new, if_neg e]
      exact this
    have hK := graft_ind (fun a a' => ∀ z, a'.sms z = a.sms z) h.abs hC (fun d l l' r q z => by simp only [BT.sms, q]) (fun d l r r' q z => by simp only [BT.sms, q]) m1 m2 m3 h.crn.keys h.keys
    exact ⟨fun _ => hK 0, fun q => absurd q e, 0, hK 0⟩
theorem DoF.bad {t : NL} {p k : Int} {mi : Bool} {x l r s : Nat} {K : BT} {n : Nat} {b c C K' : BT} {u : NL} (h : DoF t p k mi x l r s K n b c C K' u) : K'.bad ≤ K.bad ∧ (lessK k = true → K'.bad < K.bad) := by
  obtain ⟨M, m1, m2, m3⟩ := h.keyM
  obtain ⟨-, hf⟩ := formE_ok h.crn.form
  have hb := BT.mt_ok mi (abs_ok hf h.abs)
  obtain ⟨s1, s2, s3⟩ := step_bad h.step hb
  rw [BT.mt_bad] at s1 s2 s3
  have ez : (b.mt mi).z = b.z := by unfold BT.z; rw [BT.mt_wt]
  rw [ez] at s2 s3
  by_cases e : n = x
  · subst e
    obtain rfl := graft_here h.keys
    obtain rfl := h.crn.keys.det h.abs
    have hw := c.wset1_bad
    rw [h.new, if_pos rfl, BT.mt_bad]
    exact ⟨by omega, fun q => by have := (s3 q).1; omega⟩
  · have hk := h.kNe e
    rw [if_neg hk] at s2
    have hCb : C.bad = c.bad := by rw [h.new, if_neg e, BT.mt_bad]
    have hCz : C.z = c.z := by unfold BT.z; rw [h.new, if_neg e, BT.mt_wt]
    have nz : ∀ (d : PD) (l l' r : BT), (BT.node d l' r).z = (BT.node d l r).z := fun _ _ _ _ => rfl
    refine ⟨(graft_ind (fun a a' => a'.bad ≤ a.bad ∧ a'.z + a'.bad ≤ a.z + a.bad) h.abs (by rw [hCb, hCz]; exact ⟨s1, by omega⟩) (fun d l l' r q => ?_) (fun d l r r' q => ?_) m1 m2 m3 h.crn.keys h.keys).1, fun hl => (graft_ind (fun a a' => a'.bad < a.bad ∧ a'.z + a'.bad < a.z + a.bad) h.abs (by rw [hCb, hCz]; exact s3 hl) (fun d l l' r q => ?_) (fun d l r r' q => ?_) m1 m2 m3 h.crn.keys h.keys).1⟩
    all_goals
      simp only [BT.node_bad, BT.node_z]
      split <;> omega
/-- The statements' example. -/
def exT : NL := [⟨0, 1, 1, 0, 1, 6⟩, ⟨0, 1, 1, 0, 2, 5⟩, ⟨2, 0, 1, 0, 3, 4⟩, ⟨1, 0, 2, 0, -1, -1⟩, ⟨2, 0, 2, 0, -1, -1⟩, ⟨0, 1, 1, 0, -1, -1⟩, ⟨0, 1, 1, 0, -1, -1⟩]
def exU : NL := [⟨0, 1, 1, 0, 1, 6⟩, ⟨0, 1, 1, 0, 2, 5⟩, ⟨2, 0, 1, 0, 3, 4⟩, ⟨1, 0, 1, 0, -1, -1⟩, ⟨2, 0, 1, 0, -1, -1⟩, ⟨0, 1, 1, 0, -1, -1⟩, ⟨0, 1, 1, 0, -1, -1⟩]
def exK : BT := .node ⟨2, 0, 1, 0⟩ (.leaf ⟨1, 0, 2, 0⟩) (.leaf ⟨2, 0, 2, 0⟩)
def exB (K : BT) : BT := .node ⟨0, 1, 1, 0⟩ (.node ⟨0, 1, 1, 0⟩ K (.leaf ⟨0, 1, 1, 0⟩)) (.leaf ⟨0, 1, 1, 0⟩)
theorem ex_do : doE exT 2 11 false = 0 ∧ doL exT 2 11 false = exU := by
  have e0 : exT = (exB exK).lay 0 := rfl
  have hok : (exB exK).ok := by
    simp only [exB, exK, BT.ok, PD.ok]
    decide
  have hform : formE exT = 0 := by rw [e0]; exact lay_formE hok (by decide)
  have a3 : Abs exT 3 (.leaf ⟨1, 0, 2, 0⟩) := Abs.leaf (t := exT) (p := 3) (by decide) rfl rfl
  have a4 : Abs exT 4 (.leaf ⟨2, 0, 2, 0⟩) := Abs.leaf (t := exT) (p := 4) (by decide) rfl rfl
  have a2 : Abs exT 2 exK := Abs.node (t := exT) (p := 2) (l := 3) (r := 4) (by decide) rfl rfl a3 a4
  have cr : Crn exT 2 1 6 5 exK := root_is hform ⟨rfl, rfl, rfl, rfl⟩ ⟨rfl, rfl, rfl, rfl⟩ ⟨rfl, rfl, rfl, rfl⟩ ⟨rfl, rfl, rfl, rfl⟩ a2 ⟨rfl, rfl, rfl⟩
  have hl : lookE exT 2 11 false = 0 := by
    unfold lookE
    rw [if_neg (by rw [cr.root]; simp), if_neg (by decide), if_neg (by decide)]
  have hS : StepR true 11 exK (.node (PD.w ⟨2, 0, 1, 0⟩ 2) (.leaf ⟨1, 0, 1, 0⟩) (.leaf ⟨2, 0, 1, 0⟩)) := StepR.w7 (x := ⟨2, 0, 1, 0⟩) (l := .leaf ⟨1, 0, 2, 0⟩) (r := .leaf ⟨2, 0, 2, 0⟩) (by decide) (by decide)
  have hr : atR exT 2 = true := by unfold atR; rw [cr.root]; rfl
  have ht : theB exT (2 : Int).toNat = exK := theB_of a2
  have hc : canA exT 2 11 false = true := by
    have := can_of_step hS
    unfold canA
    rw [show decide ((2 : Int) = (rootR exT).1) = true from hr, ht]
    exact this
  have htd : todoE exT 2 11 false = 0 := by unfold todoE; rw [if_neg (by rw [hl]; simp), if_neg (by rw [hc]; simp)]
  have hdc : doC exT 2 11 false = .node ⟨2, 0, 1, 0⟩ (.leaf ⟨1, 0, 1, 0⟩) (.leaf ⟨2, 0, 1, 0⟩) := by
    unfold doC newB
    rw [hr, ht, if_pos rfl, show exK.mt false = exK from rfl, stB_of hS]
    rfl
  have hde : doE exT 2 11 false = 0 := by
    unfold doE
    rw [if_neg (by rw [htd]; simp), hdc, if_neg (by decide)]
  have g : GraftR exT 2 (.node ⟨2, 0, 1, 0⟩ (.leaf ⟨1, 0, 1, 0⟩) (.leaf ⟨2, 0, 1, 0⟩)) 0 (exB (.node ⟨2, 0, 1, 0⟩ (.leaf ⟨1, 0, 1, 0⟩) (.leaf ⟨2, 0, 1, 0⟩))) :=
    GraftR.node (t := exT) (p := 0) (l := 1) (r := 6) (by decide) (by decide) rfl rfl (GraftR.node (t := exT) (p := 1) (l := 2) (r := 5) (by decide) (by decide) rfl rfl GraftR.here (GraftR.leaf (t := exT) (p := 5) (by decide) (by decide) rfl rfl)) (GraftR.leaf (t := exT) (p := 6) (by decide) (by decide) rfl rfl)
  refine ⟨hde, ?_⟩
  unfold doL
  rw [if_pos hde]
  unfold doB
  rw [hdc, show ((2 : Int).toNat) = 2 from rfl]
  rw [theG_of (show GraftR exT 2 (BT.mt false (.node ⟨2, 0, 1, 0⟩ (.leaf ⟨1, 0, 1, 0⟩) (.leaf ⟨2, 0, 1, 0⟩))) 0 _ from g)]
  rfl
end Go.Proofs.YthlhbajaogonnaaDoor

namespace Go.Proofs.YthlhbajaogonnaaDoor

theorem Crn.ne {t : NL} {x l r s : Nat} {K : BT} (h : Crn t x l r s K) : x ≠ 0 ∧ x ≠ l ∧ x ≠ r ∧ x ≠ s := by
  obtain ⟨-, hf⟩ := formE_ok h.form
  obtain ⟨L, t1, t2, t3⟩ := hf.tree
  cases t1 with
  | leaf _ h1 => have := h.top.1; omega
  | inner _ h1 h2 u1 u2 =>
    obtain rfl := Int.ofNat.inj (h1.symm.trans h.top.1)
    obtain rfl := Int.ofNat.inj (h2.symm.trans h.top.2.1)
    cases u1 with
    | leaf _ h3 => have := h.arch.1; omega
    | inner _ h3 h4 u3 u4 =>
      obtain rfl := Int.ofNat.inj (h3.symm.trans h.arch.1)
      obtain rfl := Int.ofNat.inj (h4.symm.trans h.arch.2.1)
      obtain ⟨K1, rfl⟩ := u3.head
      obtain ⟨K2, rfl⟩ := u4.head
      obtain ⟨K3, rfl⟩ := u2.head
      simp only [List.cons_append, List.nodup_cons, List.mem_cons, List.mem_append, not_or] at t2
      obtain ⟨n1, n2, n3, -⟩ := t2
      refine ⟨?_, ?_, ?_, ?_⟩
      · exact fun e => n1.2.1 e.symm
      · exact fun e => n2.1 e.symm
      · exact n3.2.1
      · exact n3.1.2.1
theorem Crn.graft {t : NL} {x l r s : Nat} {K : BT} (h : Crn t x l r s K) (K' : BT) : GraftR t x K' 0 (crnB t l r s K') := by
  obtain ⟨-, hf⟩ := formE_ok h.form
  obtain ⟨e0, e1, e2, e3⟩ := h.ne
  exact GraftR.node (Ne.symm e0) hf.pos h.top.1 h.top.2.1 (GraftR.node (Ne.symm e1) h.lt.2.1 h.arch.1 h.arch.2.1 GraftR.here (GraftR.leaf (Ne.symm e3) h.lt.2.2.2 h.es.1 h.es.2.1)) (GraftR.leaf (Ne.symm e2) h.lt.2.2.1 h.er.1 h.er.2.1)
theorem DoF.all {t : NL} {p k : Int} {mi : Bool} {x l r s : Nat} {K : BT} {n : Nat} {b c C K' : BT} {u : NL} (h : DoF t p k mi x l r s K n b c C K' u) {P : PD → Prop} (hP : ∀ (d : PD) (a : Int), P (d.w a) ↔ P d) (ha : ∀ y, y < t.length → P (ndP (ndAt t y))) : ∀ y, y < u.length → P (ndP (ndAt u y)) := by
  obtain ⟨M, m1, m2, m3⟩ := h.keyM
  obtain ⟨-, hf⟩ := formE_ok h.crn.form
  obtain ⟨L, t1, t2, t3⟩ := hf.tree
  have hB := (all_of_tree (P := P) h.crn.abs t1).1 fun y hy => ha y (t1.all y hy)
  have hK := graft_ind (fun a a' => a.all P → a'.all P) h.abs (u := C) ?_ (fun d l l' r q g => ⟨g.1, q g.2.1, g.2.2⟩) (fun d l r r' q g => ⟨g.1, g.2.1, q g.2.2⟩) m1 m2 m3 h.crn.keys h.keys
  · have hB' : (crnB t l r s K').all P := ⟨hB.1, ⟨hB.2.1.1, hK hB.2.1.2.1, hB.2.1.2.2⟩, hB.2.2⟩
    obtain ⟨-, hfu⟩ := formE_ok h.form
    obtain ⟨L', v1, v2, v3⟩ := hfu.tree
    have ab : Abs u 0 (crnB t l r s K') := by rw [h.ans]; exact lay_abs0 _
    intro y hy
    exact (all_of_tree (P := P) ab v1).2 hB' y (all_in v2 v1.all v3 y hy)
  · intro hb0
    rw [h.new, BT.mt_all]
    have hc0 : c.all P := (step_all hP h.step).2 ((BT.mt_all mi b).2 hb0)
    split
    · exact (BT.wset_all (hP · _) c).2 hc0
    · exact hc0
end Go.Proofs.YthlhbajaogonnaaDoor
