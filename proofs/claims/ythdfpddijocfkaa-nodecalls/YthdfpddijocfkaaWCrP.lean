
/- Layer 17, pure: the crown about the tree of the keys; heights; a clean tree is deep and full enough. -/

import Derived.Test.YthdfpddijocfkaaWHvP

import Derived.Test.YthdfpddijocfkaaTHgP

import Derived.Test.YthdfpddijocfkaaWSnd

namespace Go.Proofs.Ythdfpddijocfkaa

theorem leafB_lr {n : NdD} (h : leafB n = true) : n.l = -1 ∧ n.r = -1 := by
  by_cases h1 : n.l = -1
  · by_cases h2 : n.r = -1
    · exact ⟨h1, h2⟩
    · simp [leafB, h1, h2] at h
  · simp [leafB, h1] at h
theorem sent_parts {n : NdD} (h : sentB n = true) : n.inf = 1 ∧ n.wt = 1 := by simpa [sentB] using h
theorem end_parts {n : NdD} (h : endB n = true) : n.inf = 1 ∧ n.wt = 1 ∧ n.l = -1 ∧ n.r = -1 := by
  unfold endB at h
  rw [Bool.and_eq_true] at h
  exact ⟨(sent_parts h.1).1, (sent_parts h.1).2, leafB_lr h.2⟩
theorem arch_parts {t : NL} (hf : InForm t) {p : Nat} (hp : p < t.length) (h : archB t p = true) : ∃ l r : Nat, (ndAt t p).l = (l : Int) ∧ (ndAt t p).r = (r : Int) ∧ l < t.length ∧ r < t.length ∧ (ndAt t p).inf = 1 ∧ (ndAt t p).wt = 1 ∧ endB (ndAt t r) = true := by
  unfold archB at h
  rw [Bool.and_eq_true, Bool.and_eq_true] at h
  obtain ⟨h1, h2, h3⟩ := h
  obtain ⟨l, r, hl, hr, h4, h5⟩ := inner_lr hf hp (by simpa using h2)
  rw [hr, Int.toNat_natCast] at h3
  exact ⟨l, r, hl, hr, h4, h5, (sent_parts h1).1, (sent_parts h1).2, h3⟩
theorem tree_leaf {t : NL} {p : Nat} {L : List Nat} (h : Tree t p L) (hl : (ndAt t p).l = -1) : L = [p] := by
  cases h with
  | leaf => rfl
  | inner _ h1 => omega
/-- A table with a crown and keys. -/
structure Crown (t : NL) (x l r s : Nat) : Prop where
  root : rootR t = ((x : Int), 0)
  lt : x < t.length ∧ l < t.length ∧ r < t.length ∧ s < t.length
  top : (ndAt t 0).l = (l : Int) ∧ (ndAt t 0).r = (r : Int) ∧ (ndAt t 0).inf = 1 ∧ (ndAt t 0).wt = 1
  arch : (ndAt t l).l = (x : Int) ∧ (ndAt t l).r = (s : Int) ∧ (ndAt t l).inf = 1 ∧ (ndAt t l).wt = 1
  ends : endB (ndAt t r) = true ∧ endB (ndAt t s) = true
  tree : Tree t x (kpL t)
  keys : ∀ y ∈ kpL t, (ndAt t y).inf = 0
  whole : theL t 0 = 0 :: l :: (kpL t ++ [s, r])
theorem crown_of {t : NL} (h : (rootR t).2 = 0) : ∃ x l r s, Crown t x l r s := by
  have he := rootR_form h
  obtain ⟨-, hf⟩ := formE_ok he
  obtain ⟨x, hx, hxl⟩ := root_at h
  have ek : kpL t = theL t x := by unfold kpL; rw [if_pos h, hx, Int.toNat_natCast]
  have hx2 := hx
  unfold rootR at hx
  rw [if_neg (by simp [he])] at hx
  by_cases q1 : archB t 0 = false
  · rw [if_pos q1] at hx; simp at hx
  rw [if_neg q1] at hx
  by_cases q2 : endB (ndAt t (ndAt t 0).l.toNat) = true
  · rw [if_pos q2] at hx; simp at hx
  rw [if_neg q2] at hx
  by_cases q3 : archB t (ndAt t 0).l.toNat = false
  · rw [if_pos q3] at hx; simp at hx
  rw [if_neg q3] at hx
  obtain ⟨l, r, hl, hr, l1, l2, l3, l4, l5⟩ := arch_parts hf hf.pos (by simpa using q1)
  rw [hl, Int.toNat_natCast] at q3 hx
  obtain ⟨x', s, hl', hs, s1, s2, s3, s4, s5⟩ := arch_parts hf l1 (by simpa using q3)
  rw [hl', Int.toNat_natCast] at hx
  by_cases q4 : ∀ y ∈ theL t x', (ndAt t y).inf = 0
  · rw [if_pos q4] at hx
    have e : x' = x := by have := congrArg Prod.fst hx; simp only at this; omega
    subst e
    obtain ⟨hT, -, -⟩ := theL_form hf
    cases hX : theL t 0 with
    | nil => rw [hX] at hT; cases hT
    | cons a X =>
      rw [hX] at hT
      cases hT with
      | leaf _ a _ => omega
      | @inner _ l2' r2 L1 R1 _ a1 a2 t1 t2 =>
        have e1 : l2' = l := by omega
        have e2 : r2 = r := by omega
        subst e1; subst e2
        have e3 := tree_leaf t2 (end_parts l5).2.2.1
        subst e3
        cases t1 with
        | leaf _ a _ => omega
        | @inner _ l3' r3 L2 R2 _ a3 a4 t3 t4 =>
          have e4 : l3' = x' := by omega
          have e5 : r3 = s := by omega
          subst e4; subst e5
          have e6 := tree_leaf t4 (end_parts s5).2.2.1
          subst e6
          have e7 : kpL t = L2 := by rw [ek]; exact theL_of t3
          refine ⟨l3', l2', r2, r3, hx2, ⟨hxl, l1, l2, s2⟩, ⟨hl, hr, l3, l4⟩, ⟨hl', hs, s3, s4⟩, ⟨l5, s5⟩, by rw [e7]; exact t3, by rw [ek]; exact q4, ?_⟩
          rw [hX, e7]
          simp
  · rw [if_neg q4] at hx; simp at hx
/-- A crown alone. -/
theorem bare_of {t : NL} (h : (rootR t).2 = 4) : ∃ l r : Nat, formE t = 0 ∧ theL t 0 = [0, l, r] ∧ (ndAt t 0).l = (l : Int) ∧ (ndAt t 0).r = (r : Int) ∧ (ndAt t 0).inf = 1 ∧ (ndAt t 0).wt = 1 ∧ l < t.length ∧ r < t.length ∧ endB (ndAt t l) = true ∧ endB (ndAt t r) = true := by
  unfold rootR at h
  by_cases he : formE t ≠ 0
  · rw [if_pos he] at h
    simp only at h
    unfold formE at h
    split at h
    · simp at h
    · split at h <;> simp at h
  rw [if_neg he] at h
  have he : formE t = 0 := by simpa using he
  obtain ⟨-, hf⟩ := formE_ok he
  by_cases q1 : archB t 0 = false
  · rw [if_pos q1] at h; simp at h
  rw [if_neg q1] at h
  obtain ⟨l, r, hl, hr, l1, l2, l3, l4, l5⟩ := arch_parts hf hf.pos (by simpa using q1)
  rw [hl, Int.toNat_natCast] at h
  by_cases q2 : endB (ndAt t l) = true
  · obtain ⟨hT, -, -⟩ := theL_form hf
    refine ⟨l, r, he, ?_, hl, hr, l3, l4, l1, l2, q2, l5⟩
    cases hX : theL t 0 with
    | nil => rw [hX] at hT; cases hT
    | cons a X =>
      rw [hX] at hT
      cases hT with
      | leaf _ a _ => omega
      | @inner _ l2' r2 L1 R1 _ a1 a2 t1 t2 =>
        have e1 : l2' = l := by omega
        have e2 : r2 = r := by omega
        subst e1; subst e2
        rw [tree_leaf t1 (end_parts q2).2.2.1, tree_leaf t2 (end_parts l5).2.2.1]
        rfl
  · rw [if_neg q2] at h
    split at h
    · simp at h
    · split at h <;> simp at h

/-- The edges to the lowest leaf; the leaves. -/
def BT.dep : BT → Nat
  | .leaf _ => 0
  | .node _ l r => 1 + max l.dep r.dep
def BT.lvs : BT → Nat
  | .leaf _ => 1
  | .node _ l r => l.lvs + r.lvs
theorem BT.lvs_size : ∀ b : BT, b.size + 1 = 2 * b.lvs
  | .leaf _ => rfl
  | .node _ l r => by have := l.lvs_size; have := r.lvs_size; simp only [BT.size, BT.lvs]; omega
theorem BT.lvs_pos (b : BT) : 1 ≤ b.lvs := by have := b.lvs_size; have := b.size_pos; omega
theorem abs_nam {t : NL} {p : Nat} {B : BT} (h : Abs (namL t) p B) : ∃ B', Abs t p B' ∧ B'.dep = B.dep := by
  induction h with
  | @leaf p hp hl hr =>
    rw [namL_length] at hp
    have e := namD_lr p (ndAt t p)
    rw [namL_at t p hp] at hl hr
    exact ⟨_, Abs.leaf hp (e.1 ▸ hl) (e.2.1 ▸ hr), rfl⟩
  | @node p l r a b hp hl hr _ _ ih1 ih2 =>
    rw [namL_length] at hp
    have e := namD_lr p (ndAt t p)
    rw [namL_at t p hp] at hl hr
    obtain ⟨a', h1, e1⟩ := ih1
    obtain ⟨b', h2, e2⟩ := ih2
    exact ⟨_, Abs.node hp (e.1 ▸ hl) (e.2.1 ▸ hr) h1 h2, by simp only [BT.dep, e1, e2]⟩
theorem mx_le (u : Nat → Nat) (T : List Nat) (M : Int) (h0 : 0 ≤ M) : ∀ k, (∀ j, j < k → dpN u T j (u (T.getD j 0)) + 1 ≤ M) → mxN u T k ≤ M
  | 0, _ => h0
  | k + 1, h => by
    have h1 := mx_le u T M h0 k (fun j hj => h j (by omega))
    have h2 := h k (by omega)
    show max _ _ ≤ M
    omega
/-- How deep the places below one lie. -/
theorem deep_sub {t : NL} (D : Nat → Int) (hD : ∀ p c, p < t.length → Child t p c → D c = D p + 1) {p : Nat} {b : BT} (h : Abs t p b) : ∀ L, Tree t p L → (∀ x ∈ L, D x ≤ D p + b.dep) ∧ ∃ x ∈ L, D x = D p + b.dep := by
  induction h with
  | leaf hp hl hr =>
    intro L hL
    rw [tree_leaf hL hl]
    exact ⟨fun x hx => by simp at hx; subst hx; simp [BT.dep], _, List.mem_singleton.2 rfl, by simp [BT.dep]⟩
  | @node p l r a b hp hl hr _ _ ih1 ih2 =>
    intro L hL
    cases hL with
    | leaf _ q => omega
    | @inner _ l' r' L1 L2 _ ql qr t1 t2 =>
      have e1 : l' = l := by omega
      have e2 : r' = r := by omega
      subst e1; subst e2
      obtain ⟨u1, x1, m1, d1⟩ := ih1 L1 t1
      obtain ⟨u2, x2, m2, d2⟩ := ih2 L2 t2
      have c1 := hD p l' hp (Or.inl hl)
      have c2 := hD p r' hp (Or.inr hr)
      have hdep : ((BT.node (ndP (ndAt t p)) a b).dep : Int) = 1 + max (a.dep : Int) (b.dep : Int) := by simp only [BT.dep]; omega
      rw [hdep]
      refine ⟨fun x hx => ?_, ?_⟩
      · simp only [List.mem_cons, List.mem_append] at hx
        rcases hx with rfl | hx | hx
        · omega
        · have := u1 x hx; omega
        · have := u2 x hx; omega
      · by_cases q : b.dep ≤ a.dep
        · exact ⟨x1, by simp [m1], by omega⟩
        · exact ⟨x2, by simp [m2], by omega⟩
/-- The height is the edges to the lowest leaf. -/
theorem hgt_abs {t : NL} (he : formE t = 0) {b : BT} (hb : Abs t 0 b) : hgtA t = b.dep := by
  obtain ⟨-, hf⟩ := formE_ok he
  obtain ⟨T, hT, hX, hl, -⟩ := tail_facts hf
  obtain ⟨-, hN, hlen⟩ := theL_form hf
  rw [hX] at hN hlen
  have F : hgtA t = mxN (uN t) T T.length := by unfold hgtA; rw [if_pos he, hX]; rfl
  have hall := all_in hN hT.all hlen
  have hD : ∀ p c, p < t.length → Child t p c → dpN (uN t) T T.length c = dpN (uN t) T T.length p + 1 := fun p c hp hc => (dp_child hf.good hT hN hp hc (hall c (child_pos hf.good hp hc).2)).1
  have h0 : dpN (uN t) T T.length 0 = 0 := dp_stable (uN t) T 0 T.length 0 (by omega) (fun i _ h2 q => (List.nodup_cons.1 hN).1 (q ▸ getD_in h2))
  obtain ⟨u1, x, hx, hxd⟩ := deep_sub _ hD hb _ hT
  rw [h0] at hxd
  have b0 := mx_bound (uN t) T T.length
  have ge : (b.dep : Int) ≤ mxN (uN t) T T.length := by
    by_cases e : x = 0
    · subst e; omega
    · obtain ⟨A, B, y, q1, q2, q3⟩ := tree_before hT x hx e
      have hy : y < t.length := hT.all y (by rw [q1]; simp [q2])
      have := (dp_child hf.good hT hN hy q3 hx).2
      omega
  have le : mxN (uN t) T T.length ≤ (b.dep : Int) := by
    refine mx_le _ _ _ (by omega) _ fun j hj => ?_
    have hm : T.getD j 0 ∈ T := getD_in hj
    have s := dp_stable (uN t) T (T.getD j 0) T.length (j + 1) (by omega) (fun i h1 h2 q => getD_ne (List.nodup_cons.1 hN).2 h2 hj (by omega) q)
    have s2 : dpN (uN t) T (j + 1) (T.getD j 0) = dpN (uN t) T j (uN t (T.getD j 0)) + 1 := by
      show (if T.getD j 0 = T.getD j 0 then _ else _) = _
      rw [if_pos rfl]
    have := u1 _ (List.mem_cons_of_mem _ hm)
    omega
  omega
theorem hgt_crown {t : NL} {x l r s : Nat} (hC : Crown t x l r s) {B : BT} (hB : Abs (namL t) x B) : hgtA t = B.dep + 2 := by
  obtain ⟨B', h1, h2⟩ := abs_nam hB
  have he : formE t = 0 := rootR_form (by rw [hC.root])
  obtain ⟨-, hf⟩ := formE_ok he
  have e1 := end_parts hC.ends.1
  have e2 := end_parts hC.ends.2
  have h : Abs t 0 (.node _ (.node _ B' (.leaf _)) (.leaf _)) := Abs.node hf.pos hC.top.1 hC.top.2.1 (Abs.node hC.lt.2.1 hC.arch.1 hC.arch.2.1 h1 (Abs.leaf hC.lt.2.2.2 e2.2.2.1 e2.2.2.2)) (Abs.leaf hC.lt.2.2.1 e1.2.2.1 e1.2.2.2)
  rw [hgt_abs he h]
  simp only [BT.dep, h2]
  omega
theorem hgt_bare {t : NL} (h : (rootR t).2 = 4) : hgtA t = 1 := by
  obtain ⟨l, r, he, -, a1, a2, -, -, a3, a4, a5, a6⟩ := bare_of h
  obtain ⟨-, hf⟩ := formE_ok he
  have e1 := end_parts a5
  have e2 := end_parts a6
  have h : Abs t 0 (.node _ (.leaf _) (.leaf _)) := Abs.node hf.pos a1 a2 (Abs.leaf a3 e1.2.2.1 e1.2.2.2) (Abs.leaf a4 e2.2.2.1 e2.2.2.2)
  rw [hgt_abs he h]
  rfl

/-- A clean tree below a node of weight a, whose leaves' sums are h. -/
def Chr : BT → Int → Nat → Prop
  | .leaf d, _, h => d.wt = 1 ∧ h = 1
  | .node d l r, a, h => (d.wt = 1 ∧ ∃ h', h = h' + 1 ∧ Chr l 1 h' ∧ Chr r 1 h') ∨ (d.wt = 0 ∧ a ≠ 0 ∧ Chr l 0 h ∧ Chr r 0 h)
theorem chr_full : ∀ (b : BT) (a : Int) (h : Nat), Chr b a h → 1 ≤ h ∧ 2 ^ (h - 1) ≤ b.lvs ∧ b.dep ≤ 2 * (h - 1) + 1 ∧ (a = 0 → b.dep ≤ 2 * (h - 1))
  | .leaf d, a, h, q => by
    obtain ⟨-, rfl⟩ := q
    simp [BT.lvs, BT.dep]
  | .node d l r, a, h, q => by
    rcases q with ⟨-, h', rfl, q1, q2⟩ | ⟨-, ha, q1, q2⟩
    · obtain ⟨a1, a2, a3, -⟩ := chr_full l 1 h' q1
      obtain ⟨b1, b2, b3, -⟩ := chr_full r 1 h' q2
      obtain ⟨k, rfl⟩ : ∃ k, h' = k + 1 := ⟨h' - 1, by omega⟩
      simp only [Nat.add_sub_cancel] at *
      refine ⟨by omega, ?_, ?_, fun _ => ?_⟩
      · simp only [BT.lvs]; rw [Nat.pow_succ]; omega
      · simp only [BT.dep]; omega
      · simp only [BT.dep]; omega
    · obtain ⟨a1, a2, -, a4⟩ := chr_full l 0 h q1
      obtain ⟨b1, b2, -, b4⟩ := chr_full r 0 h q2
      have := a4 rfl
      have := b4 rfl
      refine ⟨a1, ?_, ?_, fun q => absurd q ha⟩
      · simp only [BT.lvs]; omega
      · simp only [BT.dep]; omega
theorem chr_root {b : BT} {h : Nat} (q : Chr b 1 h) (hw : ∀ d l r, b = .node d l r → d.wt = 1) : b.dep ≤ 2 * (h - 1) := by
  cases b with
  | leaf d => simp [BT.dep]
  | node d l r =>
    have hd := hw d l r rfl
    rcases q with ⟨-, h', rfl, q1, q2⟩ | ⟨q0, -⟩
    · have a := chr_full l 1 h' q1
      have b := chr_full r 1 h' q2
      simp only [BT.dep]
      omega
    · omega
/-- All nodes of a tree. -/
def BT.each (P : Bool → PD → Prop) : BT → Prop
  | .leaf d => P true d
  | .node d l r => P false d ∧ l.each P ∧ r.each P
theorem each_laid {K : NL} (P : Bool → PD → Prop) : ∀ (b : BT) (o : Nat), LaidT K o b → (∀ k, k < b.size → P (decide ((ndAt K (o + k)).l = -1)) (ndP (ndAt K (o + k)))) → b.each P
  | .leaf d, o, h, hP => by
    obtain ⟨-, q⟩ := laid_leaf h
    have := hP 0 (by simp [BT.size])
    rw [Nat.add_zero, q] at this
    exact this
  | .node d l r, o, h, hP => by
    obtain ⟨-, q, q1, q2⟩ := laid_node h
    have hs : (BT.node d l r).size = 1 + (l.size + r.size) := rfl
    have h0 := hP 0 (by omega)
    rw [Nat.add_zero, q] at h0
    refine ⟨?_, each_laid P l (o + 1) q1 fun k hk => ?_, each_laid P r (o + 1 + l.size) q2 fun k hk => ?_⟩
    · have e : decide ((((o + 1 : Nat) : Int)) = -1) = false := decide_eq_false (by omega)
      simp only [e] at h0
      exact h0
    · have := hP (1 + k) (by omega)
      rwa [← Nat.add_assoc] at this
    · have := hP (1 + l.size + k) (by omega)
      rwa [← Nat.add_assoc, ← Nat.add_assoc] at this
def okW (lf : Bool) (d : PD) : Prop := 0 ≤ d.wt ∧ d.wt ≤ 1 ∧ (lf = true → d.wt ≠ 0)
theorem chr_of : ∀ (b : BT) (a σ T : Int), b.each okW → inh redF redO b a = [] → (∀ x ∈ inh sumF sumO b σ, x = T) → ∃ h, Chr b a h ∧ T = σ + h
  | .leaf d, a, σ, T, h1, h2, h3 => by
    obtain ⟨w0, w1, w2⟩ := h1
    have := w2 rfl
    have hx := h3 (σ + d.wt) (by simp [inh, sumO])
    exact ⟨1, ⟨by omega, rfl⟩, by omega⟩
  | .node d l r, a, σ, T, h1, h2, h3 => by
    obtain ⟨⟨w0, w1, -⟩, e1, e2⟩ := h1
    simp only [inh, List.append_eq_nil_iff] at h2
    obtain ⟨r0, r1, r2⟩ := h2
    have s1 : ∀ x ∈ inh sumF sumO l (sumF d σ), x = T := fun x hx => h3 x (by simp [inh, hx])
    have s2 : ∀ x ∈ inh sumF sumO r (sumF d σ), x = T := fun x hx => h3 x (by simp [inh, hx])
    obtain ⟨p, cp, tp⟩ := chr_of l _ _ T e1 r1 s1
    obtain ⟨q, cq, tq⟩ := chr_of r _ _ T e2 r2 s2
    have epq : p = q := by omega
    subst epq
    simp only [redF, sumF] at cp cq tp
    by_cases hw : d.wt = 1
    · rw [hw] at cp cq tp
      exact ⟨p + 1, Or.inl ⟨hw, p, rfl, cp, cq⟩, by omega⟩
    · have hw0 : d.wt = 0 := by omega
      rw [hw0] at cp cq tp
      refine ⟨p, Or.inr ⟨hw0, ?_, cp, cq⟩, by omega⟩
      rintro rfl
      simp [redO, redQ, hw0] at r0
end Go.Proofs.Ythdfpddijocfkaa
