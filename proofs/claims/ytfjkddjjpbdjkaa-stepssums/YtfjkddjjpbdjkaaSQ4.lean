
/- Layer 18, pure: a step built; another tree in the place of one. -/

import Derived.Test.YtfjkddjjpbdjkaaSQ3

import Derived.Test.YtfjkddjjpbdjkaaTGra

namespace Go.Proofs.Ytfjkddjjpbdjkaa

theorem AT.wt {t : NL} {p : Nat} {b : BT} {L : List Nat} (h : AT t p b L) : b.wt = (ndAt t p).wt := by
  cases h.abs <;> rfl
/-- What build makes of the table, and the place of what stands at the top. -/
inductive BldR (t : NL) (x : Nat) : Int → NL → Nat → Prop
  | k1 {l r : Nat} : (ndAt t x).l = (l : Int) → (ndAt t x).r = (r : Int) → BldR t x 1 (ovr (wth (wth t l 1) r 1) x ((ndAt t x).wt - 1) l r) x
  | k2 {l r ll lr : Nat} : (ndAt t x).l = (l : Int) → (ndAt t x).r = (r : Int) → (ndAt t l).l = (ll : Int) → (ndAt t l).r = (lr : Int) → BldR t x 2 (ovr (ovr t x 0 lr r) l (ndAt t x).wt ll x) l
  | k3 {l r ll lr lrl lrr : Nat} : (ndAt t x).l = (l : Int) → (ndAt t x).r = (r : Int) → (ndAt t l).l = (ll : Int) → (ndAt t l).r = (lr : Int) → (ndAt t lr).l = (lrl : Int) → (ndAt t lr).r = (lrr : Int) → BldR t x 3 (ovr (ovr (ovr t l 0 ll lrl) x 0 lrr r) lr (ndAt t x).wt l x) lr
  | k4 {l r : Nat} : (ndAt t x).l = (l : Int) → (ndAt t x).r = (r : Int) → BldR t x 4 (ovr (wth (wth t l ((ndAt t l).wt - 1)) r 0) x ((ndAt t x).wt + 1) l r) x
  | k5 {l r rl rr : Nat} : (ndAt t x).l = (l : Int) → (ndAt t x).r = (r : Int) → (ndAt t r).l = (rl : Int) → (ndAt t r).r = (rr : Int) → BldR t x 5 (ovr (ovr (wth (wth t l ((ndAt t l).wt - 1)) rl ((ndAt t rl).wt - 1)) x 1 l rl) r (ndAt t x).wt x rr) r
  | k6 {l r rl rr : Nat} : (ndAt t x).l = (l : Int) → (ndAt t x).r = (r : Int) → (ndAt t r).l = (rl : Int) → (ndAt t r).r = (rr : Int) → BldR t x 6 (ovr (ovr (wth (wth t l ((ndAt t l).wt - 1)) rl 0) x 1 l rl) r (ndAt t x).wt x rr) r
  | k7 {l r rl rr rll rlr rlll rllr : Nat} : (ndAt t x).l = (l : Int) → (ndAt t x).r = (r : Int) → (ndAt t r).l = (rl : Int) → (ndAt t r).r = (rr : Int) → (ndAt t rl).l = (rll : Int) → (ndAt t rl).r = (rlr : Int) → (ndAt t rll).l = (rlll : Int) → (ndAt t rll).r = (rllr : Int) → BldR t x 7 (ovr (ovr (ovr (ovr (wth t l ((ndAt t l).wt - 1)) x 1 l rlll) rl 1 rllr rlr) rll 0 x rl) r (ndAt t x).wt rll rr) r
  | k8 {l r rl rr rll rlr : Nat} : (ndAt t x).l = (l : Int) → (ndAt t x).r = (r : Int) → (ndAt t r).l = (rl : Int) → (ndAt t r).r = (rr : Int) → (ndAt t rl).l = (rll : Int) → (ndAt t rl).r = (rlr : Int) → BldR t x 8 (ovr (ovr (wth (ovr (wth t l ((ndAt t l).wt - 1)) x 1 l rll) rlr 1) rl 0 x rlr) r (ndAt t x).wt rl rr) r
  | k9 {l r rl rr : Nat} : (ndAt t x).l = (l : Int) → (ndAt t x).r = (r : Int) → (ndAt t r).l = (rl : Int) → (ndAt t r).r = (rr : Int) → BldR t x 9 (ovr (wth (ovr (wth t l ((ndAt t l).wt - 1)) x 1 l rl) rr 1) r (ndAt t x).wt x rr) r
  | k10 {l r rl rr rll rlr : Nat} : (ndAt t x).l = (l : Int) → (ndAt t x).r = (r : Int) → (ndAt t r).l = (rl : Int) → (ndAt t r).r = (rr : Int) → (ndAt t rl).l = (rll : Int) → (ndAt t rl).r = (rlr : Int) → BldR t x 10 (ovr (ovr (ovr (wth t l ((ndAt t l).wt - 1)) x 1 l rll) r 1 rlr rr) rl (ndAt t x).wt x r) rl
  | k11 {l r : Nat} : (ndAt t x).l = (l : Int) → (ndAt t x).r = (r : Int) → BldR t x 11 (ovr (wth (wth t l ((ndAt t l).wt - 1)) r ((ndAt t r).wt - 1)) x ((ndAt t x).wt + 1) l r) x
  | k12 : BldR t x 12 (wth t x 1) x
theorem step_built {root : Bool} {k : Int} {b b' : BT} (h : StepR root k b b') {t : NL} {x : Nat} {M : List Nat} (hA : AT t x b M) (hN : M.Nodup) : ∃ T top, BldR t x k T top ∧ BOut t T M top b' := by
  cases h with
  | blk =>
    obtain ⟨l, r, L, R, rfl, rfl, q1, q2, a1, a2⟩ := hA.open
    exact ⟨_, _, BldR.k1 q1 q2, bout1 _ _ _ hA.lt a1 a2 hN⟩
  | rb1 =>
    obtain ⟨l, r, L, R, rfl, rfl, q1, q2, a1, a2⟩ := hA.open
    obtain ⟨ll, lr, LL, LR, rfl, rfl, q3, q4, a3, a4⟩ := a1.open
    exact ⟨_, _, BldR.k2 q1 q2 q3 q4, bout2 _ _ hA.lt a1.lt a3 a4 a2 hN⟩
  | rb2 =>
    obtain ⟨l, r, L, R, rfl, rfl, q1, q2, a1, a2⟩ := hA.open
    obtain ⟨ll, lr, LL, LR, rfl, rfl, q3, q4, a3, a4⟩ := a1.open
    obtain ⟨lrl, lrr, LRL, LRR, rfl, rfl, q5, q6, a5, a6⟩ := a4.open
    exact ⟨_, _, BldR.k3 q1 q2 q3 q4 q5 q6, bout3 _ _ _ hA.lt a1.lt a4.lt a3 a5 a6 a2 hN⟩
  | push =>
    obtain ⟨l, r, L, R, rfl, rfl, q1, q2, a1, a2⟩ := hA.open
    rw [a1.wt]
    exact ⟨_, _, BldR.k4 q1 q2, bout1 _ _ _ hA.lt a1 a2 hN⟩
  | w1 =>
    obtain ⟨l, r, L, R, rfl, rfl, q1, q2, a1, a2⟩ := hA.open
    obtain ⟨rl, rr, RL, RR, rfl, rfl, q3, q4, a3, a4⟩ := a2.open
    rw [a1.wt, a3.wt]
    exact ⟨_, _, BldR.k5 q1 q2 q3 q4, bout5 _ _ _ _ hA.lt a2.lt a1 a3 a4 hN⟩
  | w2 =>
    obtain ⟨l, r, L, R, rfl, rfl, q1, q2, a1, a2⟩ := hA.open
    obtain ⟨rl, rr, RL, RR, rfl, rfl, q3, q4, a3, a4⟩ := a2.open
    rw [a1.wt]
    exact ⟨_, _, BldR.k6 q1 q2 q3 q4, bout5 _ _ _ _ hA.lt a2.lt a1 a3 a4 hN⟩
  | w3 =>
    obtain ⟨l, r, L, R, rfl, rfl, q1, q2, a1, a2⟩ := hA.open
    obtain ⟨rl, rr, RL, RR, rfl, rfl, q3, q4, a3, a4⟩ := a2.open
    obtain ⟨rll, rlr, RLL, RLR, rfl, rfl, q5, q6, a5, a6⟩ := a3.open
    obtain ⟨rlll, rllr, RLLL, RLLR, rfl, rfl, q7, q8, a7, a8⟩ := a5.open
    rw [a1.wt]
    exact ⟨_, _, BldR.k7 q1 q2 q3 q4 q5 q6 q7 q8, bout7 _ _ _ _ _ hA.lt a2.lt a3.lt a5.lt a1 a7 a8 a6 a4 hN⟩
  | w4 =>
    obtain ⟨l, r, L, R, rfl, rfl, q1, q2, a1, a2⟩ := hA.open
    obtain ⟨rl, rr, RL, RR, rfl, rfl, q3, q4, a3, a4⟩ := a2.open
    obtain ⟨rll, rlr, RLL, RLR, rfl, rfl, q5, q6, a5, a6⟩ := a3.open
    rw [a1.wt]
    exact ⟨_, _, BldR.k8 q1 q2 q3 q4 q5 q6, bout8 _ _ _ _ _ hA.lt a2.lt a3.lt a1 a5 a6 a4 hN⟩
  | w5 =>
    obtain ⟨l, r, L, R, rfl, rfl, q1, q2, a1, a2⟩ := hA.open
    obtain ⟨rl, rr, RL, RR, rfl, rfl, q3, q4, a3, a4⟩ := a2.open
    rw [a1.wt]
    exact ⟨_, _, BldR.k9 q1 q2 q3 q4, bout9 _ _ _ _ hA.lt a2.lt a1 a3 a4 hN⟩
  | w6 =>
    obtain ⟨l, r, L, R, rfl, rfl, q1, q2, a1, a2⟩ := hA.open
    obtain ⟨rl, rr, RL, RR, rfl, rfl, q3, q4, a3, a4⟩ := a2.open
    obtain ⟨rll, rlr, RLL, RLR, rfl, rfl, q5, q6, a5, a6⟩ := a3.open
    rw [a1.wt]
    exact ⟨_, _, BldR.k10 q1 q2 q3 q4 q5 q6, bout10 _ _ _ _ hA.lt a2.lt a3.lt a1 a5 a6 a4 hN⟩
  | w7 =>
    obtain ⟨l, r, L, R, rfl, rfl, q1, q2, a1, a2⟩ := hA.open
    rw [a1.wt, a2.wt]
    exact ⟨_, _, BldR.k11 q1 q2, bout1 _ _ _ hA.lt a1 a2 hN⟩
  | root => exact ⟨_, _, BldR.k12, bout12 _ hA hN⟩
/-- Another tree in x's place, whoever led to x leading to its top. -/
theorem swap_tree {t T : NL} (hf : InForm t) {x top : Nat} {Mx L' : List Nat} {b' : BT} (hTx : Tree t x Mx) (hlen : T.length = t.length)
    (hB : ∀ p, p < t.length → p ∉ Mx → ndP (ndAt T p) = ndP (ndAt t p) ∧ (ndAt T p).l = (if (ndAt t p).l = (x : Int) then (top : Int) else (ndAt t p).l) ∧ (ndAt T p).r = (if (ndAt t p).r = (x : Int) then (top : Int) else (ndAt t p).r))
    (hA : AT T top b' L') (hP : L'.Perm Mx) {p : Nat} {M : List Nat} (h : Tree t p M) : (p = x ∨ p ∉ Mx) →
    ∃ L b, AT T (sig x top p) b L ∧ GraftR t x b' p b ∧ L.Perm M := by
  have hxm : x ∈ Mx := by obtain ⟨L'', rfl⟩ := hTx.head; simp
  induction h with
  | @leaf p hp hl hr =>
    intro hc
    by_cases e : p = x
    · subst e
      obtain rfl := (Tree.leaf hp hl hr).det hTx
      exact ⟨L', b', by rw [show sig p top p = top from if_pos rfl]; exact hA, GraftR.here, hP⟩
    · have hnm := hc.resolve_left e
      obtain ⟨c1, c2, c3⟩ := hB p hp hnm
      rw [hl, if_neg (by omega)] at c2
      rw [hr, if_neg (by omega)] at c3
      rw [show sig x top p = p from if_neg e]
      exact ⟨[p], _, ⟨Abs.leaf (by omega) c2 c3, Tree.leaf (by omega) c2 c3⟩, by rw [c1]; exact GraftR.leaf e hp hl hr, List.Perm.refl _⟩
  | @inner p l r M1 M2 hp hl hr t1 t2 ih1 ih2 =>
    intro hc
    by_cases e : p = x
    · subst e
      obtain rfl := (Tree.inner hp hl hr t1 t2).det hTx
      exact ⟨L', b', by rw [show sig p top p = top from if_pos rfl]; exact hA, GraftR.here, hP⟩
    · have hnm := hc.resolve_left e
      obtain ⟨c1, c2, c3⟩ := hB p hp hnm
      have kid : ∀ c : Nat, c < t.length → Child t p c → c = x ∨ c ∉ Mx := by
        intro c hcl hch
        by_cases q : c = x
        · exact Or.inl q
        · refine Or.inr fun hm => ?_
          obtain ⟨-, -, y, -, hy, hyc⟩ := tree_up hTx c hm q
          have := one_parent hf (x := p) (p := y) hp (hTx.all y hy) hch hyc
          subst this
          exact hnm hy
      obtain ⟨L1, b1, x1, g1, o1⟩ := ih1 (kid l t1.lt (Or.inl hl))
      obtain ⟨L2, b2, x2, g2, o2⟩ := ih2 (kid r t2.lt (Or.inr hr))
      have hc2 : (ndAt T p).l = ((sig x top l : Nat) : Int) := by
        rw [c2, hl]; unfold sig
        by_cases q : l = x
        · rw [if_pos (by omega), if_pos q]
        · rw [if_neg (by omega), if_neg q]
      have hc3 : (ndAt T p).r = ((sig x top r : Nat) : Int) := by
        rw [c3, hr]; unfold sig
        by_cases q : r = x
        · rw [if_pos (by omega), if_pos q]
        · rw [if_neg (by omega), if_neg q]
      rw [show sig x top p = p from if_neg e]
      exact ⟨p :: (L1 ++ L2), _, ⟨Abs.node (by omega) hc2 hc3 x1.abs x2.abs, Tree.inner (by omega) hc2 hc3 x1.tree x2.tree⟩, by rw [c1]; exact GraftR.node e hp hl hr g1 g2, (o1.append o2).cons p⟩
theorem root_off {t : NL} (hf : InForm t) {x : Nat} {Mx : List Nat} (hTx : Tree t x Mx) (hx : x ≠ 0) : 0 ∉ Mx := by
  intro hm
  obtain ⟨-, -, y, -, hy, hyc⟩ := tree_up hTx 0 hm (Ne.symm hx)
  have := child_pos hf.good (hTx.all y hy) hyc
  omega
theorem no_up {t : NL} {x p : Nat} {Mx : List Nat} (hTx : Tree t x Mx) (hN : Mx.Nodup) (hp : p ∈ Mx) : ¬ Child t p x := by
  intro hc
  cases hTx with
  | leaf hpl hl hr =>
    simp at hp
    subst hp
    rcases hc with h | h <;> omega
  | @inner _ l r L R hpl hl hr t1 t2 =>
    rw [List.nodup_cons, List.mem_append, not_or] at hN
    obtain ⟨⟨n1, n2⟩, n3⟩ := hN
    have up : ∀ {c : Nat} {K : List Nat}, Tree t c K → x ∉ K → p ∈ K → False := by
      intro c K hK hx hpK
      rcases hK.each p hpK with ⟨q1, q2⟩ | ⟨a, b, q1, q2, -, -, m1, m2⟩
      · rcases hc with h | h <;> omega
      · rcases hc with h | h
        · obtain rfl : a = x := by omega
          exact hx m1
        · obtain rfl : b = x := by omega
          exact hx m2
    simp only [List.mem_cons, List.mem_append] at hp
    rcases hp with rfl | hp | hp
    · have := t1.lt
      rcases hc with h | h
      · obtain rfl : l = p := by omega
        obtain ⟨K, rfl⟩ := t1.head
        exact n1 (by simp)
      · obtain rfl : r = p := by omega
        obtain ⟨K, rfl⟩ := t2.head
        exact n2 (by simp)
    · exact up t1 n1 hp
    · exact up t2 n2 hp
/-- A table whose places make one right tree is in form. -/
theorem form_of_abs {T : NL} {B : BT} {L : List Nat} (hA : AT T 0 B L) (hB : B.ok) (hN : L.Nodup) (hl : L.length = T.length) : InForm T := by
  have sub : ∀ {p : Nat} {b : BT} {K : List Nat}, Abs T p b → Tree T p K → b.ok → K.Nodup → ∀ y ∈ K, (ndP (ndAt T y)).ok ∧ (((ndAt T y).l = -1 ∧ (ndAt T y).r = -1) ∨ ∃ l r : Nat, (ndAt T y).l = (l : Int) ∧ (ndAt T y).r = (r : Int) ∧ l < T.length ∧ r < T.length ∧ l ≠ r ∧ l ≠ p ∧ r ≠ p ∧ (ndAt T y).val = 0) := by
    intro p b K hAb
    induction hAb generalizing K with
    | @leaf p hp ha hb =>
      intro hK ho _ y hy
      cases hK with
      | inner _ hl' => omega
      | leaf => simp at hy; subst hy; exact ⟨ho, Or.inl ⟨ha, hb⟩⟩
    | @node p l r a b hp ha hb _ _ ih1 ih2 =>
      intro hK ho hKN y hy
      cases hK with
      | leaf _ hl' => omega
      | @inner _ l' r' K1 K2 _ hl' hr' t1 t2 =>
        obtain rfl := Int.ofNat.inj (ha.symm.trans hl')
        obtain rfl := Int.ofNat.inj (hb.symm.trans hr')
        have hl1 : l ∈ K1 := by obtain ⟨K, rfl⟩ := t1.head; simp
        have hr1 : r ∈ K2 := by obtain ⟨K, rfl⟩ := t2.head; simp
        rw [List.nodup_cons, List.mem_append, not_or, List.nodup_append] at hKN
        obtain ⟨⟨n1, n2⟩, d1, d2, d3⟩ := hKN
        simp only [List.mem_cons, List.mem_append] at hy
        have far : ∀ {K : List Nat} {c : Nat}, Tree T c K → p ∉ K → ∀ {z l r : Nat}, z ∈ K → (ndAt T z).l = (l : Int) → (ndAt T z).r = (r : Int) → l ≠ p ∧ r ≠ p := by
          intro K c hK hpK z l r hz q1 q2
          rcases hK.each z hz with h | ⟨u, v, h1, h2, -, -, m1, m2⟩
          · omega
          · obtain rfl : u = l := by omega
            obtain rfl : v = r := by omega
            exact ⟨fun e => hpK (e ▸ m1), fun e => hpK (e ▸ m2)⟩
        rcases hy with rfl | hy | hy
        · exact ⟨ho.1, Or.inr ⟨l, r, ha, hb, t1.lt, t2.lt, d3 l hl1 r hr1, fun e => n1 (e ▸ hl1), fun e => n2 (e ▸ hr1), ho.2.1⟩⟩
        · obtain ⟨u1, u2⟩ := ih1 t1 ho.2.2.1 d1 y hy
          refine ⟨u1, u2.imp id ?_⟩
          rintro ⟨l2, r2, v1, v2, v3, v4, v5, -, -, v8⟩
          have := far t1 n1 hy v1 v2
          exact ⟨l2, r2, v1, v2, v3, v4, v5, this.1, this.2, v8⟩
        · obtain ⟨u1, u2⟩ := ih2 t2 ho.2.2.2 d2 y hy
          refine ⟨u1, u2.imp id ?_⟩
          rintro ⟨l2, r2, v1, v2, v3, v4, v5, -, -, v8⟩
          have := far t2 n2 hy v1 v2
          exact ⟨l2, r2, v1, v2, v3, v4, v5, this.1, this.2, v8⟩
  refine form_of_tree (fun i hi => ?_) hA.tree hN hl
  obtain ⟨u1, u2⟩ := sub hA.abs hA.tree hB hN i (all_in hN hA.tree.all hl i hi)
  refine ⟨?_, u1⟩
  rcases u2 with h | ⟨l, r, v1, v2, v3, v4, v5, v6, v7, v8⟩
  · exact Or.inl h
  · exact Or.inr ⟨by omega, by omega, by omega, by omega, by omega, v8⟩
end Go.Proofs.Ytfjkddjjpbdjkaa
