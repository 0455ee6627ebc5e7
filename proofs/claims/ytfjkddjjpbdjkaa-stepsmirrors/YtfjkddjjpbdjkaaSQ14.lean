
/- Layer 18, pure: the mirrored table, its place of a node, the mirrored move. -/

import Derived.Test.YtfjkddjjpbdjkaaSQ12

namespace Go.Proofs.Ytfjkddjjpbdjkaa

/-- The place of a node, from left to right and from above, in the mirrored tree. -/
theorem graft_pos {t : NL} {n : Nat} {p : Nat} {K : BT} {L : List Nat} (hT : Tree t p L) (hN : L.Nodup) (hn : n ∈ L) (hK : Abs t p K) : ∃ i, i < K.mir.size ∧ (i = 0 ↔ n = p) ∧ ∀ {u K' : BT}, GraftR t n u p K' → K'.mir = K.mir.put i u.mir := by
  have put0 : ∀ b u : BT, b.put 0 u = u := fun b u => by cases b <;> rfl
  induction hK generalizing L with
  | @leaf p hp hl hr =>
    cases hT with
    | inner _ hl' => omega
    | leaf =>
      simp at hn
      subst hn
      refine ⟨0, by simp [BT.mir, BT.size], by simp, fun {u K'} h => ?_⟩
      rw [graft_here h, put0]
  | @node p l r a b hp hl hr ha hb ih1 ih2 =>
    cases hT with
    | leaf _ hl' => omega
    | @inner _ l' r' L1 L2 _ e1 e2 t1 t2 =>
      obtain rfl := Int.ofNat.inj (hl.symm.trans e1)
      obtain rfl := Int.ofNat.inj (hr.symm.trans e2)
      by_cases e : n = p
      · subst e
        refine ⟨0, BT.size_pos _, by simp, fun {u K'} h => ?_⟩
        rw [graft_here h, put0]
      · rw [List.nodup_cons, List.nodup_append] at hN
        simp only [List.mem_cons, List.mem_append] at hn
        rcases hn with hn | hn | hn
        · exact absurd hn e
        · obtain ⟨i, h1, -, h2⟩ := ih1 t1 hN.2.1 hn
          refine ⟨1 + b.mir.size + i, by simp only [BT.mir, BT.size]; omega, ⟨fun q => by omega, fun q => absurd q e⟩, fun {u K'} h => ?_⟩
          cases h with
          | here => exact absurd rfl e
          | leaf _ _ q => omega
          | node _ _ q1 q2 g1 g2 =>
            obtain rfl := Int.ofNat.inj (hl.symm.trans q1)
            obtain rfl := Int.ofNat.inj (hr.symm.trans q2)
            have hq2 : n ∉ L2 := fun m => hN.2.2.2 n hn n m rfl
            rw [graft_off t2 hq2 hb g2]
            simp only [BT.mir]
            rw [show 1 + b.mir.size + i = (b.mir.size + i) + 1 by omega]
            simp only [BT.put]
            rw [if_neg (by omega), show b.mir.size + i - b.mir.size = i by omega, h2 g1]
        · obtain ⟨i, h1, -, h2⟩ := ih2 t2 hN.2.2.1 hn
          refine ⟨i + 1, by simp only [BT.mir, BT.size]; omega, ⟨fun q => by omega, fun q => absurd q e⟩, fun {u K'} h => ?_⟩
          cases h with
          | here => exact absurd rfl e
          | leaf _ _ q => omega
          | node _ _ q1 q2 g1 g2 =>
            obtain rfl := Int.ofNat.inj (hl.symm.trans q1)
            obtain rfl := Int.ofNat.inj (hr.symm.trans q2)
            have hq2 : n ∉ L1 := fun m => hN.2.2.2 n m n hn rfl
            rw [graft_off t1 hq2 ha g1]
            simp only [BT.mir, BT.put]
            rw [if_pos h1, h2 g2]
theorem wth_cons (n : NdD) (T : NL) (i : Nat) (a : Int) : wth (n :: T) (i + 1) a = n :: wth T i a := by simp [wth, ndAt]
theorem wth_left (A R : NL) (i : Nat) (a : Int) (h : i < A.length) : wth (A ++ R) i a = wth A i a ++ R := by
  unfold wth ndAt
  rw [List.set_append_left _ _ h, List.getD_eq_getElem?_getD, List.getElem?_append_left h, ← List.getD_eq_getElem?_getD]
theorem wth_right (A R : NL) (i : Nat) (a : Int) : wth (A ++ R) (A.length + i) a = A ++ wth R i a := by
  unfold wth ndAt
  rw [List.set_append_right _ _ (by omega), List.getD_eq_getElem?_getD, List.getElem?_append_right (by omega), ← List.getD_eq_getElem?_getD, show A.length + i - A.length = i by omega]
theorem put_wset_size (u : BT) (a : Int) : ∀ (b : BT) (i : Nat), (b.put i (u.wset a)).size = (b.put i u).size
  | b, 0 => by
    have e : ∀ v : BT, b.put 0 v = v := fun v => by cases b <;> rfl
    rw [e, e, BT.wset_size]
  | .leaf _, _ + 1 => rfl
  | .node d l r, i + 1 => by
    simp only [BT.put]
    split
    · simp only [BT.size, put_wset_size u a l i]
    · simp only [BT.size, put_wset_size u a r (i - l.size)]
theorem put_size_pos (u : BT) : ∀ (b : BT) (i : Nat), i < b.size → i < (b.put i u).size
  | b, 0, _ => BT.size_pos _
  | .leaf _, _ + 1, h => by simp [BT.size] at h
  | .node d l r, i + 1, h => by
    simp only [BT.size] at h
    simp only [BT.put]
    split
    · rename_i q
      have := put_size_pos u l i q
      simp only [BT.size]; omega
    · rename_i q
      have := put_size_pos u r (i - l.size) (by omega)
      simp only [BT.size]; omega
theorem lay_put (u : BT) (a : Int) : ∀ (b : BT) (i o : Nat), i < b.size → (b.put i (u.wset a)).lay o = wth ((b.put i u).lay o) i a
  | b, 0, o, _ => by
    have e : ∀ v : BT, b.put 0 v = v := fun v => by cases b <;> rfl
    rw [e, e]
    cases u <;> rfl
  | .leaf _, _ + 1, o, h => by simp [BT.size] at h
  | .node d l r, i + 1, o, h => by
    simp only [BT.size] at h
    simp only [BT.put]
    split
    · rename_i q
      simp only [BT.lay]
      rw [put_wset_size, lay_put u a l i (o + 1) q, wth_cons, wth_left _ _ _ _ (by rw [BT.lay_length]; exact put_size_pos u l i q)]
    · rename_i q
      obtain ⟨j, rfl⟩ : ∃ j, i = l.size + j := ⟨i - l.size, by omega⟩
      rw [show l.size + j - l.size = j by omega]
      have w := wth_right (l.lay (o + 1)) ((r.put j u).lay (o + 1 + l.size)) j a
      rw [BT.lay_length] at w
      simp only [BT.lay]
      rw [lay_put u a r j (o + 1 + l.size) (by omega), wth_cons, w]
/-- Steps that are their own mirrors. -/
theorem step_mir {root : Bool} {k : Int} {b c : BT} (h : StepR root k b c) (hk : k = 1 ∨ k = 11 ∨ k = 12) : StepR root k b.mir c.mir := by
  have mw : ∀ b : BT, b.mir.wt = b.wt := BT.mir_wt
  cases h with
  | @blk x l r h1 h2 h3 h4 =>
    have sw : ∀ b : BT, (bwO (blO (some b.mir)) = 0 ∨ bwO (brO (some b.mir)) = 0) ↔ (bwO (blO (some b)) = 0 ∨ bwO (brO (some b)) = 0) := by
      intro b
      cases b with
      | leaf => exact Iff.rfl
      | node d u v => simp only [BT.mir, blO, brO, bwO, mw]; exact Or.comm
    have := StepR.blk (root := root) (x := x) (l := r.mir) (r := l.mir) ((mw r).trans h2) ((mw l).trans h1) h3 (by
      rw [← or_assoc, sw r, sw l]
      rcases h4 with h | h | h | h
      · exact Or.inr (Or.inl h)
      · exact Or.inr (Or.inr h)
      · exact Or.inl (Or.inl h)
      · exact Or.inl (Or.inr h))
    rw [← BT.wset_mir, ← BT.wset_mir] at this
    exact this
  | @w7 x l r h1 h2 =>
    have := StepR.w7 (root := root) (x := x) (l := r.mir) (r := l.mir) (by rw [mw]; exact h2) (by rw [mw]; exact h1)
    rw [← BT.wset_mir, ← BT.wset_mir, mw, mw] at this
    exact this
  | root h1 h2 =>
    have := StepR.root (root := root) (b := b.mir) h1 (by rw [mw]; exact h2)
    rw [← BT.wset_mir] at this
    exact this
  | _ => omega
theorem abs_wt {T : NL} {q : Nat} {B : BT} (h : Abs T q B) : B.wt = (ndAt T q).wt := by cases h <;> rfl
theorem graft_exists {t : NL} {n : Nat} {u : BT} {p : Nat} {K : BT} (h : Abs t p K) : ∃ K', GraftR t n u p K' := by
  induction h with
  | @leaf p hp hl hr =>
    by_cases e : p = n
    · subst e; exact ⟨u, GraftR.here⟩
    · exact ⟨_, GraftR.leaf e hp hl hr⟩
  | @node p l r a b hp hl hr _ _ ih1 ih2 =>
    by_cases e : p = n
    · subst e; exact ⟨u, GraftR.here⟩
    · obtain ⟨k1, g1⟩ := ih1
      obtain ⟨k2, g2⟩ := ih2
      exact ⟨_, GraftR.node e hp hl hr g1 g2⟩
theorem graft_same {t : NL} {n : Nat} {b : BT} (hb : Abs t n b) {p : Nat} {K : BT} (h : Abs t p K) : GraftR t n b p K := by
  obtain ⟨K', g⟩ := graft_exists (n := n) (u := b) h
  obtain rfl := (graft_self hb g).det h
  exact g
theorem tree_wth {t : NL} {n : Nat} {a : Int} {p : Nat} {L : List Nat} (h : Tree t p L) : Tree (wth t n a) p L := by
  have lr : ∀ p, p < t.length → (ndAt (wth t n a) p).l = (ndAt t p).l ∧ (ndAt (wth t n a) p).r = (ndAt t p).r := by
    intro p hp
    by_cases e : p = n
    · subst e; rw [wth_at _ _ _ hp]; exact ⟨rfl, rfl⟩
    · rw [wth_ne _ _ _ _ e]; exact ⟨rfl, rfl⟩
  induction h with
  | leaf hp hl hr => exact Tree.leaf (by rw [wth_length]; exact hp) ((lr _ hp).1.trans hl) ((lr _ hp).2.trans hr)
  | inner hp hl hr _ _ ih1 ih2 => exact Tree.inner (by rw [wth_length]; exact hp) ((lr _ hp).1.trans hl) ((lr _ hp).2.trans hr) ih1 ih2
theorem abs_wth {t : NL} {n : Nat} {a : Int} {b : BT} {Mn : List Nat} (hA : AT t n b Mn) (hN : Mn.Nodup) {p : Nat} {K : BT} (h : GraftR t n (b.wset a) p K) : Abs (wth t n a) p K := by
  induction h with
  | here => exact (hA.wth hN).abs
  | @leaf p hn hp hl hr =>
    have e := wth_ne t n p a hn
    have := Abs.leaf (t := wth t n a) (p := p) (by rw [wth_length]; exact hp) (by rw [e]; exact hl) (by rw [e]; exact hr)
    rw [e] at this
    exact this
  | @node p l r x y hn hp hl hr _ _ ih1 ih2 =>
    have e := wth_ne t n p a hn
    have := Abs.node (t := wth t n a) (p := p) (by rw [wth_length]; exact hp) (by rw [e]; exact hl) (by rw [e]; exact hr) ih1 ih2
    rw [e] at this
    exact this
theorem crnB_put (t : NL) (l r s : Nat) (K z : BT) {i : Nat} (hi : i < K.size) : (crnB t l r s K).put (2 + i) z = crnB t l r s (K.put i z) := by
  unfold crnB
  rw [show 2 + i = (i + 1) + 1 by omega]
  simp only [BT.put]
  rw [if_pos (show i + 1 < (BT.node (ndP (ndAt t l)) K (.leaf (ndP (ndAt t s)))).size by simp only [BT.size]; omega), if_pos hi]
/-- A tree of keys laid with its crown. -/
theorem crn_lay {t : NL} {x l r s : Nat} {K : BT} (cr : Crn t x l r s K) (K2 : BT) (hok : K2.ok) (hs : K2.size + 4 ≤ 100000) (hno : K2.all (fun d => d.inf = 0)) :
    (crnB t l r s K2).ok ∧ (crnB t l r s K2).size = K2.size + 4 ∧ Crn ((crnB t l r s K2).lay 0) 2 1 (3 + K2.size) (2 + K2.size) K2 ∧ ∀ Q, crnB ((crnB t l r s K2).lay 0) 1 (3 + K2.size) (2 + K2.size) Q = crnB t l r s Q := by
  obtain ⟨-, hf⟩ := formE_ok cr.form
  have okc : (crnB t l r s K2).ok := graft_ok hf hok (cr.graft K2)
  have sz : (crnB t l r s K2).size = K2.size + 4 := by simp only [crnB, BT.size]; omega
  have hfu := lay_formE okc (by omega)
  have L0 := laid_self (crnB t l r s K2)
  obtain ⟨-, -, L1, L2⟩ := laid_node L0
  obtain ⟨-, -, L3, L4⟩ := laid_node L1
  have e0 := laid_at L0
  have e1 := laid_at L1
  have e2 := laid_end L2
  have e3 := laid_end L4
  have sz2 : (BT.node (ndP (ndAt t l)) K2 (.leaf (ndP (ndAt t s)))).size = K2.size + 2 := by simp only [BT.size]; omega
  rw [sz2] at e0 e2
  have a1 : 0 + 1 + (K2.size + 2) = 3 + K2.size := by omega
  have a2 : 0 + 1 + 1 + K2.size = 2 + K2.size := by omega
  rw [a1] at e0 e2
  rw [a2] at e1 e3
  refine ⟨okc, sz, root_is (l := 1) (r := 3 + K2.size) (s := 2 + K2.size) hfu ⟨e0.1, e0.2.1, ?_⟩ ⟨e1.1, e1.2.1, ?_⟩ ⟨e2.1, e2.2.1, ?_⟩ ⟨e3.1, e3.2.1, ?_⟩ (laid_abs K2 L3) hno, fun Q => ?_⟩
  · rw [e0.2.2]; exact cr.top.2.2
  · rw [show ndP (ndAt ((crnB t l r s K2).lay 0) 1) = ndP (ndAt t l) from e1.2.2]; exact cr.arch.2.2
  · rw [e2.2.2]; exact cr.er.2.2
  · rw [e3.2.2]; exact cr.es.2.2
  · have f0 := e0.2.2
    have f1 : ndP (ndAt ((crnB t l r s K2).lay 0) 1) = ndP (ndAt t l) := e1.2.2
    have f2 := e2.2.2
    have f3 := e3.2.2
    show BT.node (ndP (ndAt ((crnB t l r s K2).lay 0) 0)) (.node (ndP (ndAt ((crnB t l r s K2).lay 0) 1)) Q (.leaf (ndP (ndAt ((crnB t l r s K2).lay 0) (2 + K2.size))))) (.leaf (ndP (ndAt ((crnB t l r s K2).lay 0) (3 + K2.size)))) = _
    rw [f0, f1, f2, f3]
    rfl
/-- What StepsMirrors rests on: T1, T2 the mirrored tables, of t and of t with the node marked; q: where they part; mj: the move's mirror; Z: the mirrored table behind the move. -/
structure MiF (t u : NL) (n : Nat) (k : Int) (mj : Bool) (x l r s : Nat) (K Km K' : BT) (T1 T2 Z : NL) (q : Nat) : Prop where
  crm : Crn (wth t n 1000000) x l r s Km
  crb : ∀ Q, crnB (wth t n 1000000) l r s Q = crnB t l r s Q
  ekm : T2 = (crnB t l r s Km.mir).lay 0
  ek : T1 = (crnB t l r s K.mir).lay 0
  ez : Z = (crnB t l r s K'.mir).lay 0
  szm : Km.size = K.size ∧ K'.size = K.size ∧ K.size + 4 ≤ 100000
  qlt : q < T1.length
  len : T2.length = T1.length
  same : ∀ j, j < q → (ndAt T2 j).wt = (ndAt T1 j).wt
  part : (ndAt T2 q).wt ≠ (ndAt T1 q).wt
  doe : doE T1 (q : Int) k mj = 0
  dol : doL T1 (q : Int) k mj = Z
  crU : ∀ Q, crnB u 1 (3 + K'.size) (2 + K'.size) Q = crnB t l r s Q
  okM : K.ok ∧ Km.ok ∧ K'.ok
theorem mif_of {t : NL} {p k : Int} {mi : Bool} {x l r s : Nat} {K : BT} {n : Nat} {b c C K' : BT} {u : NL} (h : DoF t p k mi x l r s K n b c C K' u) (hw : (ndAt t n).wt ≠ 1000000) : ∃ Km T1 T2 Z q, MiF t u n k (if hasM k then !mi else mi) x l r s K Km K' T1 T2 Z q := by
  obtain ⟨M, m1, m2, m3⟩ := h.keyM
  obtain ⟨hbig, hf⟩ := formE_ok h.crn.form
  obtain ⟨Mn, n1, n2, -, -⟩ := form_at hf n h.lt
  have hAT : AT t n b Mn := ⟨h.abs, n1⟩
  have okb := abs_ok hf h.abs
  have okK := abs_ok hf h.crn.keys
  have okK' : K'.ok := h.bok.2.2.1.2.2.1
  have szc : ∀ Q : BT, (crnB t l r s Q).size = Q.size + 4 := fun Q => by simp only [crnB, BT.size]; omega
  have szK' : K'.size + 4 = t.length := by have := h.size; rw [szc] at this; exact this
  have szK : K.size + 4 = t.length := by
    obtain ⟨L, v1, v2⟩ := h.crn.abs.tree
    obtain ⟨L', w1, w2, w3⟩ := hf.tree
    rw [v1.det w1, w3] at v2
    have e : (BT.node (ndP (ndAt t 0)) (.node (ndP (ndAt t l)) K (.leaf (ndP (ndAt t s)))) (.leaf (ndP (ndAt t r)))).size = K.size + 4 := szc K
    omega
  obtain ⟨Km, gm⟩ := graft_exists (n := n) (u := b.wset 1000000) h.crn.keys
  have okbm : (b.wset 1000000).ok := BT.wset_ok (by omega) (by omega) okb
  have okKm := graft_ok hf okbm gm
  have hP : ∀ (d : PD) (a : Int), (d.w a).inf = 0 ↔ d.inf = 0 := fun d a => Iff.rfl
  have noKm : Km.all (fun d => d.inf = 0) := graft_ind (fun a a' => a.all (fun d => d.inf = 0) → a'.all (fun d => d.inf = 0)) h.abs (fun q => (BT.wset_all (hP · _) b).2 q) (fun d l l' r h q => ⟨q.1, h q.2.1, q.2.2⟩) (fun d l r r' h q => ⟨q.1, q.2.1, h q.2.2⟩) m1 m2 m3 h.crn.keys gm h.crn.nokey
  obtain ⟨i, i1, i2, i3⟩ := graft_pos m1 m2 m3 h.crn.keys
  have eK := i3 (graft_same h.abs h.crn.keys)
  have eKm := i3 gm
  have eK' := i3 h.keys
  rw [BT.wset_mir] at eKm
  have szKm : Km.size = K.size := by
    rw [← Km.mir_size, ← K.mir_size, eKm]
    conv => rhs; rw [eK]
    exact put_wset_size _ _ _ _
  rw [BT.mir_size] at i1
  have nok2 : K.mir.all (fun d => d.inf = 0) := K.mir_all.2 h.crn.nokey
  obtain ⟨a1, a2, a3, a4⟩ := crn_lay h.crn K.mir (BT.mir_ok okK) (by rw [BT.mir_size]; omega) nok2
  obtain ⟨-, -, -, b4⟩ := crn_lay h.crn K' okK' (by omega) h.nokey
  rw [BT.mir_size] at a3 a4
  have e1 : crnB t l r s K.mir = (crnB t l r s K.mir).put (2 + i) b.mir := by
    rw [crnB_put _ _ _ _ _ _ (by rw [BT.mir_size]; exact i1), ← eK]
  have e2 : crnB t l r s Km.mir = (crnB t l r s K.mir).put (2 + i) (b.mir.wset 1000000) := by
    rw [crnB_put _ _ _ _ _ _ (by rw [BT.mir_size]; exact i1), ← eKm]
  have e3 : crnB t l r s K'.mir = (crnB t l r s K.mir).put (2 + i) C.mir := by
    rw [crnB_put _ _ _ _ _ _ (by rw [BT.mir_size]; exact i1), ← eK']
  have lt2 : 2 + i < (crnB t l r s K.mir).size := by rw [szc, BT.mir_size]; omega
  have eT2 : (crnB t l r s Km.mir).lay 0 = wth ((crnB t l r s K.mir).lay 0) (2 + i) 1000000 := by
    rw [e2, lay_put _ _ _ _ _ lt2, ← e1]
  have hl1 : ((crnB t l r s K.mir).lay 0).length = (crnB t l r s K.mir).size := BT.lay_length _ _
  have absq : Abs ((crnB t l r s K.mir).lay 0) (2 + i) b.mir := by
    have := put_abs (u := b.mir) (crnB t l r s K.mir) (o := 0) (i := 2 + i) lt2 (by rw [← e1]; exact laid_self _)
    rwa [Nat.zero_add] at this
  have wq : (ndAt ((crnB t l r s K.mir).lay 0) (2 + i)).wt = (ndAt t n).wt := by
    have w1 : b.mir.wt = (ndAt ((crnB t l r s K.mir).lay 0) (2 + i)).wt := abs_wt absq
    have w2 : b.wt = (ndAt t n).wt := hAT.wt
    rw [← w1, BT.mir_wt, w2]
  obtain ⟨-, hf1⟩ := formE_ok a3.form
  have ndm : ∀ y, y ≠ n → ndAt (wth t n 1000000) y = ndAt t y := fun y hy => wth_ne _ _ _ _ hy
  obtain ⟨c0, c1, c2, c3⟩ : n ≠ 0 ∧ n ≠ l ∧ n ≠ r ∧ n ≠ s := by
    obtain ⟨L, t1, t2, t3⟩ := hf.tree
    cases t1 with
    | leaf _ h1 => have := h.crn.top.1; omega
    | inner _ h1 h2 u1 u2 =>
      obtain rfl := Int.ofNat.inj (h1.symm.trans h.crn.top.1)
      obtain rfl := Int.ofNat.inj (h2.symm.trans h.crn.top.2.1)
      cases u1 with
      | leaf _ h3 => have := h.crn.arch.1; omega
      | inner _ h3 h4 u3 u4 =>
        obtain rfl := Int.ofNat.inj (h3.symm.trans h.crn.arch.1)
        obtain rfl := Int.ofNat.inj (h4.symm.trans h.crn.arch.2.1)
        obtain rfl := u3.det m1
        obtain ⟨K2, rfl⟩ := u4.head
        obtain ⟨K3, rfl⟩ := u2.head
        simp only [List.cons_append, List.nodup_cons, List.mem_cons, List.mem_append, not_or, List.nodup_append] at t2
        refine ⟨fun e => ?_, fun e => ?_, fun e => ?_, fun e => ?_⟩
        · subst e; exact t2.1.2.1.1 m3
        · subst e; exact t2.2.1.1.1 m3
        · subst e; exact t2.2.2.2.2 _ (Or.inl m3) _ (Or.inl rfl) rfl
        · subst e; exact t2.2.2.1.2.2 _ m3 _ (Or.inl rfl) rfl
  have crbE : ∀ Q, crnB (wth t n 1000000) l r s Q = crnB t l r s Q := by
    intro Q
    unfold crnB
    rw [ndm 0 (Ne.symm c0), ndm l (Ne.symm c1), ndm r (Ne.symm c2), ndm s (Ne.symm c3)]
  have gm0 : GraftR t n (b.wset 1000000) 0 (crnB t l r s Km) :=
    GraftR.node (Ne.symm c0) hf.pos h.crn.top.1 h.crn.top.2.1 (GraftR.node (Ne.symm c1) h.crn.lt.2.1 h.crn.arch.1 h.crn.arch.2.1 gm (GraftR.leaf (Ne.symm c3) h.crn.lt.2.2.2 h.crn.es.1 h.crn.es.2.1)) (GraftR.leaf (Ne.symm c2) h.crn.lt.2.2.1 h.crn.er.1 h.crn.er.2.1)
  have formM : formE (wth t n 1000000) = 0 := by
    obtain ⟨L, t1, t2, t3⟩ := hf.tree
    exact formE_of (by rw [wth_length]; exact hbig) (form_of_abs ⟨abs_wth hAT n2 gm0, tree_wth t1⟩ (graft_ok hf okbm gm0) t2 (by rw [wth_length]; exact t3))
  have crm : Crn (wth t n 1000000) x l r s Km := by
    refine root_is formM ?_ ?_ ?_ ?_ (abs_wth hAT n2 gm) noKm
    · rw [ndm 0 (Ne.symm c0)]; exact h.crn.top
    · rw [ndm l (Ne.symm c1)]; exact h.crn.arch
    · rw [ndm r (Ne.symm c2)]; exact h.crn.er
    · rw [ndm s (Ne.symm c3)]; exact h.crn.es
  have hroot : decide (2 + i = 2) = decide (n = x) := by
    by_cases e : n = x
    · rw [decide_eq_true e, decide_eq_true (by have := i2.2 e; omega)]
    · rw [decide_eq_false e, decide_eq_false (fun q => e (i2.1 (by omega)))]
  have hatR : atR ((crnB t l r s K.mir).lay 0) ((2 + i : Nat) : Int) = decide (n = x) := by
    unfold atR
    rw [a3.root, ← hroot]
    show decide (((2 + i : Nat) : Int) = ((2 : Nat) : Int)) = _
    by_cases e : 2 + i = 2
    · rw [decide_eq_true e, decide_eq_true (by omega)]
    · rw [decide_eq_false e, decide_eq_false (by omega)]
  have hmir : ∃ c2 : BT, StepR (decide (n = x)) k (b.mir.mt (if hasM k then !mi else mi)) c2 ∧ ((if n = x then c2.wset 1 else c2).mt (if hasM k then !mi else mi)) = C.mir ∧ (if n = x then c2.wset 1 else c2).wt = (if n = x then c.wset 1 else c).wt := by
    cases hk : hasM k
    · have hmi : mi = false := by
        have := h.mv
        simp only [mvB, hk, Bool.or_false, Bool.and_eq_true, Bool.not_eq_true'] at this
        exact this.2.2
      subst hmi
      have hk3 : k = 1 ∨ k = 11 ∨ k = 12 := by
        simp only [hasM, Bool.and_eq_false_iff, bne_eq_false_iff_eq] at hk
        exact hk
      have hS : StepR (decide (n = x)) k b c := h.step
      refine ⟨c.mir, step_mir hS hk3, ?_, ?_⟩
      · rw [h.new]
        show (if n = x then c.mir.wset 1 else c.mir) = (if n = x then c.wset 1 else c).mir
        split
        · rw [BT.wset_mir]
        · rfl
      · split
        · rw [BT.wset_wt, BT.wset_wt]
        · rw [BT.mir_wt]
    · have e : b.mir.mt (!mi) = b.mt mi := by cases mi <;> simp [BT.mt, BT.mir_mir]
      refine ⟨c, by simp only [if_true]; rw [e]; exact h.step, ?_, rfl⟩
      rw [h.new]
      cases mi <;> simp [BT.mt, BT.mir_mir]
  obtain ⟨cc, hcS, hcC, hcw⟩ := hmir
  generalize hmj : (if hasM k then !mi else mi) = mj at hcS hcC
  have hmv : mvB k mj = true := by
    have hb := h.kind
    rw [← hmj]
    cases hk : hasM k
    · exact h.mv
    · show mvB k (!mi) = true
      unfold mvB
      rw [hk]
      simp [hb.1, hb.2]
  have hofK : ofK ((crnB t l r s K.mir).lay 0) ((2 + i : Nat) : Int) = true := by
    simp only [ofK, Bool.and_eq_true, decide_eq_true_eq, bne_iff_ne, ne_eq, a3.top.1, a3.top.2.1, Int.toNat_natCast, a3.arch.2.1]
    rw [hl1, szc, BT.mir_size]
    refine ⟨by omega, by omega, by omega, by omega, by omega⟩
  have hlook : lookE ((crnB t l r s K.mir).lay 0) ((2 + i : Nat) : Int) k mj = 0 := by
    unfold lookE
    rw [if_neg (by rw [a3.root]; simp), if_neg (by rw [hmv]; simp), if_neg (by rw [hofK]; simp)]
  have hcan : canA ((crnB t l r s K.mir).lay 0) ((2 + i : Nat) : Int) k mj = true := by
    unfold canA
    rw [show decide (((2 + i : Nat) : Int) = (rootR ((crnB t l r s K.mir).lay 0)).1) = decide (n = x) from hatR, Int.toNat_natCast, theB_of absq]
    exact can_of_step hcS
  have htodo : todoE ((crnB t l r s K.mir).lay 0) ((2 + i : Nat) : Int) k mj = 0 := by
    unfold todoE
    rw [if_neg (by rw [hlook]; simp), if_neg (by rw [hcan]; simp)]
  have hdC : doC ((crnB t l r s K.mir).lay 0) ((2 + i : Nat) : Int) k mj = (if n = x then cc.wset 1 else cc) := by
    unfold doC newB
    rw [hatR, Int.toNat_natCast, theB_of absq, stB_of hcS]
    by_cases e : n = x
    · rw [if_pos (decide_eq_true e), if_pos e]
    · rw [if_neg (by simp [e]), if_neg e]
  have hdE : doE ((crnB t l r s K.mir).lay 0) ((2 + i : Nat) : Int) k mj = 0 := by
    unfold doE
    rw [if_neg (by rw [htodo]; simp), hdC, hcw, if_neg (by have := h.wt; omega)]
  have gq : GraftR ((crnB t l r s K.mir).lay 0) (2 + i) C.mir 0 (crnB t l r s K'.mir) := by
    have := graft_put (u := C.mir) (crnB t l r s K.mir) (o := 0) (i := 2 + i) lt2 (laid_self _)
    rw [Nat.zero_add, ← e3] at this
    exact this
  have hdL : doL ((crnB t l r s K.mir).lay 0) ((2 + i : Nat) : Int) k mj = (crnB t l r s K'.mir).lay 0 := by
    unfold doL
    rw [if_pos hdE]
    unfold doB
    rw [hdC, Int.toNat_natCast, hcC, theG_of gq]
  refine ⟨Km, _, _, _, 2 + i, crm, crbE, rfl, rfl, rfl, ⟨szKm, by omega, by omega⟩, by rw [hl1]; exact lt2, ?_, ?_, ?_, hdE, hdL, ?_, ⟨okK, okKm, okK'⟩⟩
  · rw [BT.lay_length, BT.lay_length, szc, szc, BT.mir_size, BT.mir_size, szKm]
  · intro j hj
    rw [eT2, wth_ne _ _ _ _ (by omega)]
  · rw [eT2, wth_at _ _ _ (by rw [hl1]; exact lt2), wq]
    exact fun e => hw e.symm
  · intro Q
    rw [h.ans]
    exact b4 Q
end Go.Proofs.Ytfjkddjjpbdjkaa
