
/- Layer 16: what Norm, Sub, Mirror, Pairs and Graft answer, as trees. -/

import Derived.Test.YtfjkddjjpbdjkaaTGrB

import Derived.Test.YtfjkddjjpbdjkaaTBt2

import Derived.Test.YtfjkddjjpbdjkaaTWkP

import Derived.Test.YtfjkddjjpbdjkaaSMir

namespace Go.Proofs.Ytfjkddjjpbdjkaa

theorem normL_abs {t : NL} (he : formE t = 0) {b : BT} (hb : Abs t 0 b) : normL t = b.lay 0 := by
  obtain ⟨-, hf⟩ := formE_ok he
  obtain ⟨hT, hN, -⟩ := theL_form hf
  rw [normL_ok he]
  exact part_lay hT hN hb
theorem subL_abs {t : NL} (he : formE t = 0) {x : Nat} (hx : x < t.length) {b : BT} (hb : Abs t x b) : subL t (x : Int) = b.lay 0 ∧ subE t (x : Int) = 0 := by
  obtain ⟨-, hf⟩ := formE_ok he
  obtain ⟨M, h1, h2, -, -⟩ := form_at hf x hx
  unfold subL subE
  rw [if_pos ⟨he, by omega, by omega⟩, if_neg (by simp [he]), if_pos ⟨by omega, by omega⟩, Int.toNat_natCast, theL_of h1]
  exact ⟨part_lay h1 h2 hb, rfl⟩
theorem mirA_abs {t : NL} (he : formE t = 0) {b : BT} (hb : Abs t 0 b) : mirA t = b.mir.lay 0 := by
  obtain ⟨-, hf⟩ := formE_ok he
  obtain ⟨M, h1, h2, -⟩ := mir_form hf
  unfold mirA
  rw [if_pos he, theL_of h1]
  exact part_lay h1 h2 (mir_abs hb)
theorem prs_abs {t : NL} {p : Nat} {L : List Nat} (h : Tree t p L) : ∀ {b : BT}, Abs t p b → prL t (lvL t L) = b.prs := by
  induction h with
  | @leaf p hp hl hr =>
    intro b hb
    cases hb with
    | node _ hl' => omega
    | leaf => by_cases q : (ndAt t p).inf = 0 <;> simp [lvL, lfB, hl, prL, BT.prs, ndP, q]
  | @inner p l r L R hp hl hr _ _ ih1 ih2 =>
    intro b hb
    cases hb with
    | leaf _ hl' => omega
    | node _ hl' hr' a1 a2 =>
      obtain rfl := Int.ofNat.inj (hl.symm.trans hl')
      obtain rfl := Int.ofNat.inj (hr.symm.trans hr')
      have e : lvL t (p :: (L ++ R)) = lvL t L ++ lvL t R := by
        rw [← lv_append]
        unfold lvL
        rw [List.filter_cons_of_neg (by simp [lfB]; omega)]
      rw [e, pr_append, ih1 a1, ih2 a2]
      rfl
theorem pairL_abs {t : NL} (he : formE t = 0) {b : BT} (hb : Abs t 0 b) : pairL t = b.prs := by
  obtain ⟨-, hf⟩ := formE_ok he
  obtain ⟨hT, -, -⟩ := theL_form hf
  unfold pairL leafL
  rw [if_pos he, if_pos he]
  exact prs_abs hT hb
theorem graft_ex {t u : NL} {q : Nat} (hf : InForm t) (hu : InForm u) (hq : q < t.length) : ∃ b bu, Abs u 0 bu ∧ GraftR t q bu 0 b := by
  obtain ⟨L, b, bu, Mq, h1, h2, h3, h4, -⟩ := graft_lay hf hu hq (repl_all (q := q) hu.pos) (f := fun x => if x = 0 then q else t.length - 1 + x) rfl (ren_all hq hu) (fun x y hx hy e => by
    have e' : (if x = 0 then q else t.length - 1 + x) = (if y = 0 then q else t.length - 1 + y) := e
    have := hf.pos
    split at e' <;> split at e' <;> omega) (fun x hx => by
    show (if x = 0 then q else t.length - 1 + x) = q ∨ t.length ≤ (if x = 0 then q else t.length - 1 + x)
    have := hf.pos
    split
    · exact Or.inl rfl
    · exact Or.inr (by omega)) (fun e => e)
  exact ⟨b, bu, h3, h4⟩
theorem graE_abs {t u : NL} (h1 : formE t = 0) (h2 : formE u = 0) {q : Nat} (hq : q < t.length) {b bu : BT} (hu : Abs u 0 bu) (hg : GraftR t q bu 0 b) : graE t (q : Int) u = (if 100000 < b.size then 2 else 0) := by
  unfold graE
  rw [if_neg (by simp [sameE_ok h1 h2]), if_pos ⟨by omega, by omega⟩, Int.toNat_natCast, graB_of hu hg]
theorem graA_abs {t u : NL} (h1 : formE t = 0) (h2 : formE u = 0) {q : Nat} (hq : q < t.length) {b bu : BT} (hu : Abs u 0 bu) (hg : GraftR t q bu 0 b) (hs : b.size ≤ 100000) : graA t (q : Int) u = b.lay 0 := by
  unfold graA
  rw [if_pos (by rw [graE_abs h1 h2 hq hu hg, if_neg (by omega)]), Int.toNat_natCast, graB_of hu hg]
/-- In a table that is numbered from the root on. -/
theorem lay_up {b : BT} (hb : b.ok) (hs : b.size ≤ 100000) : ∀ i, 1 ≤ i → i < (b.lay 0).length → ∃ y : Nat, (parL (b.lay 0)).getD i 0 = (y : Int) ∧ y < i ∧ (ndAt (b.lay 0) y).l = ((y + 1 : Nat) : Int) := by
  intro i h1 h2
  have he := lay_formE hb hs
  have hf := lay_form hb
  obtain ⟨L, t1, t2, t3⟩ := hf.tree
  obtain ⟨-, -, x, -, hx, hc⟩ := tree_up t1 i (all_in t2 t1.all t3 i h2) (by omega)
  have hxl := t1.all x hx
  have e := laid_each b hb (laid_self b) x (by rwa [BT.lay_length] at hxl)
  rw [Nat.zero_add] at e
  have hp : (parL (b.lay 0)).getD i 0 = (x : Int) := by
    unfold parL
    rw [if_pos he]
    simp only [upL, List.getD_eq_getElem?_getD, List.getElem?_map, List.getElem?_range h2]
    exact up_child hf.good hxl hc _ hxl (Nat.le_refl _)
  refine ⟨x, hp, ?_, ?_⟩
  · rcases e.2 with q | q <;> rcases hc with hc | hc <;> omega
  · rcases e.2 with q | q
    · rcases hc with hc | hc <;> omega
    · exact q.1
/-- All that TableGrafts rests on. -/
structure GF (t u : NL) (x : Nat) (N X M V G : NL) (P : PL) : Prop where
  n1 : normL t = N
  n2 : formE N = 0
  n3 : N.length = t.length
  s1 : subL t (x : Int) = X
  s2 : subE t (x : Int) = 0
  g1 : graA t (x : Int) X = N
  g2 : graE t (x : Int) X = 0
  b1 : sameB t N = true
  b2 : sameE t N = 0
  up : ∀ i, 1 ≤ i → i < N.length → ∃ y : Nat, (parL N).getD i 0 = (y : Int) ∧ y < i ∧ (ndAt N y).l = ((y + 1 : Nat) : Int)
  m1 : mirA t = M
  m2 : formE M = 0
  m3 : mirA M = N
  p1 : pairL t = P
  p2 : pairL M = P.reverse
  e1 : graE N (x : Int) u = 2 ∨ graE N (x : Int) u = 0 ∧ graA N (x : Int) u = G ∧ formE G = 0 ∧ subL G (x : Int) = V ∧ subE G (x : Int) = 0
  w1 : normL u = V
theorem gf_of {t u : NL} (h1 : formE t = 0) (h2 : formE u = 0) {x : Nat} (hx : x < t.length) : ∃ N X M V G P, GF t u x N X M V G P := by
  obtain ⟨hb1, hf⟩ := formE_ok h1
  obtain ⟨hb2, hu⟩ := formE_ok h2
  obtain ⟨B, a1, a2, a3⟩ := form_abs hf
  obtain ⟨W, w1, w2, w3⟩ := form_abs hu
  obtain ⟨D, d1, d2, d3⟩ := form_abs_at hf hx
  have n2 := lay_formE a3 (by omega)
  have nN := normL_abs h1 a1
  have x2 := lay_formE d3 (by omega)
  obtain ⟨b, bu, g1, g2⟩ := graft_ex hf (lay_form d3) hx
  obtain rfl := g1.det (lay_abs0 D)
  have g3 := graft_self d1 g2
  obtain rfl := g3.det a1
  have m2 := lay_formE (BT.mir_ok a3) (by rw [BT.mir_size]; omega)
  have hl : (b.lay 0).length = t.length := by rw [BT.lay_length]; exact a2
  have gp := graft_put (u := W) b (o := 0) (i := x) (by omega) (laid_self b)
  rw [Nat.zero_add] at gp
  have go := graft_ok (lay_form a3) w3 gp
  have ge := graE_abs n2 h2 (by omega) w1 gp
  refine ⟨b.lay 0, bu.lay 0, b.mir.lay 0, W.lay 0, (b.put x W).lay 0, b.prs, nN, n2, hl, (subL_abs h1 hx d1).1, (subL_abs h1 hx d1).2, graA_abs h1 x2 hx (lay_abs0 bu) g2 (by omega), by rw [graE_abs h1 x2 hx (lay_abs0 bu) g2, if_neg (by omega)], ?_, sameE_ok h1 n2, lay_up a3 (by omega), mirA_abs h1 a1, m2, by rw [mirA_abs m2 (lay_abs0 _), BT.mir_mir], pairL_abs h1 a1, by rw [pairL_abs m2 (lay_abs0 _), BT.mir_prs], ?_, normL_abs h2 w1⟩
  · unfold sameB
    rw [if_pos ⟨h1, n2⟩, nN, normL_abs n2 (lay_abs0 b)]
    unfold nlEq
    simp
  · by_cases hs : 100000 < (b.put x W).size
    · rw [if_pos hs] at ge
      exact Or.inl ge
    · rw [if_neg hs] at ge
      have f := lay_formE go (by omega)
      have hxx := put_abs (u := W) b (o := 0) (i := x) (by omega) (laid_self (b.put x W))
      rw [Nat.zero_add] at hxx
      exact Or.inr ⟨ge, graA_abs n2 h2 (by omega) w1 gp (by omega), f, subL_abs f hxx.lt hxx⟩
end Go.Proofs.Ytfjkddjjpbdjkaa
