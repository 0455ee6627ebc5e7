
/- Layer 16: Graft of the program. -/

import Derived.Test.YtegajbfefhljmaaDoorTCat

import Derived.Test.YtegajbfefhljmaaDoorTGrP

import Derived.Test.YtegajbfefhljmaaDoorTUpC

namespace Go.Proofs.YtegajbfefhljmaaDoor

open Go.RowKit

attribute [local go_sem ↓] Go.wp_at_zero Go.wp_at_succ

open Classical in
/-- The grafted tree. -/
noncomputable def graB (t : NL) (q : Nat) (u : NL) : BT := if h : ∃ b bu, Abs u 0 bu ∧ GraftR t q bu 0 b then Classical.choose h else .leaf ⟨0, 0, 0, 0⟩
theorem graB_of {t u : NL} {q : Nat} {b bu : BT} (hu : Abs u 0 bu) (h : GraftR t q bu 0 b) : graB t q u = b := by
  have hx : ∃ b bu, Abs u 0 bu ∧ GraftR t q bu 0 b := ⟨b, bu, hu, h⟩
  unfold graB
  rw [dif_pos hx]
  obtain ⟨bu', h1, h2⟩ := Classical.choose_spec hx
  rw [h1.det hu] at h2
  exact h2.det h
theorem ndAt_set_ne (t : NL) (i p : Nat) (m : NdD) (h : p ≠ i) : ndAt (t.set i m) p = ndAt t p := by
  unfold ndAt
  rw [List.getD_eq_getElem?_getD, List.getElem?_set_ne (Ne.symm h), ← List.getD_eq_getElem?_getD]
theorem setL_at (T : NL) (i : Nat) (a : Int) (h : i < T.length) : ndAt (setL T i a) i = ⟨(ndAt T i).key, (ndAt T i).inf, (ndAt T i).wt, (ndAt T i).val, a, (ndAt T i).r⟩ := ndAt_set _ _ _ h
theorem setR_at (T : NL) (i : Nat) (a : Int) (h : i < T.length) : ndAt (setR T i a) i = ⟨(ndAt T i).key, (ndAt T i).inf, (ndAt T i).wt, (ndAt T i).val, (ndAt T i).l, a⟩ := ndAt_set _ _ _ h
theorem setL_ne (T : NL) (i p : Nat) (a : Int) (h : p ≠ i) : ndAt (setL T i a) p = ndAt T p := ndAt_set_ne _ _ _ _ h
theorem setR_ne (T : NL) (i p : Nat) (a : Int) (h : p ≠ i) : ndAt (setR T i a) p = ndAt T p := ndAt_set_ne _ _ _ _ h
theorem one_parent {t : NL} (hf : InForm t) {x p q : Nat} (hx : x < t.length) (hp : p < t.length) (h : Child t x q) (h' : Child t p q) : p = x := by
  obtain ⟨c1, c2⟩ := child_pos hf.good hx h
  exact cnt_uniq (hf.good.one q c1 c2) hp hx h' h
theorem child_ne {t : NL} (hf : InForm t) {x q : Nat} (hx : x < t.length) (h : (ndAt t x).l = (q : Int)) : (ndAt t x).r ≠ (q : Int) := by
  rcases (hf.good.node x hx).1 with ⟨h1, h2⟩ | ⟨h1, h2, h3, h4, h5, -⟩ <;> omega
theorem repl_L {t u : NL} (hf : InForm t) {x q : Nat} (hx : x < t.length) (h : (ndAt t x).l = (q : Int)) : Repl t (setL (bothL t u) x (t.length : Int)) q t.length := by
  intro p hp hne
  have hp' : p < (setL (bothL t u) x (t.length : Int)).length := by rw [setL_length, both_length]; omega
  by_cases e : p = x
  · subst e
    have hr := child_ne hf hx h
    rw [setL_at _ _ _ (by rw [both_length]; omega), both_left t u p hp]
    exact ⟨hp', rfl, by rw [if_pos h], by rw [if_neg hr]⟩
  · rw [setL_ne _ _ _ _ e, both_left t u p hp]
    exact ⟨hp', rfl, by rw [if_neg (fun z => e (one_parent hf hx hp (Or.inl h) (Or.inl z)))], by rw [if_neg (fun z => e (one_parent hf hx hp (Or.inl h) (Or.inr z)))]⟩
theorem repl_R {t u : NL} (hf : InForm t) {x q : Nat} (hx : x < t.length) (hl : (ndAt t x).l ≠ (q : Int)) (h : (ndAt t x).r = (q : Int)) : Repl t (setR (bothL t u) x (t.length : Int)) q t.length := by
  intro p hp hne
  have hp' : p < (setR (bothL t u) x (t.length : Int)).length := by rw [setR_length, both_length]; omega
  by_cases e : p = x
  · subst e
    rw [setR_at _ _ _ (by rw [both_length]; omega), both_left t u p hp]
    exact ⟨hp', rfl, by rw [if_neg hl], by rw [if_pos h]⟩
  · rw [setR_ne _ _ _ _ e, both_left t u p hp]
    exact ⟨hp', rfl, by rw [if_neg (fun z => e (one_parent hf hx hp (Or.inr h) (Or.inl z)))], by rw [if_neg (fun z => e (one_parent hf hx hp (Or.inr h) (Or.inr z)))]⟩
theorem ren_both {t u : NL} : Ren u (bothL t u) (fun x => t.length + x) := shift_ren (fun x hx => ⟨by rw [both_length]; omega, both_right t u x hx⟩)
theorem ren_L {t u : NL} {x : Nat} (hx : x < t.length) : Ren u (setL (bothL t u) x (t.length : Int)) (fun x => t.length + x) := shift_ren (fun y hy => ⟨by rw [setL_length, both_length]; omega, by rw [setL_ne _ _ _ _ (by omega)]; exact both_right t u y hy⟩)
theorem ren_R {t u : NL} {x : Nat} (hx : x < t.length) : Ren u (setR (bothL t u) x (t.length : Int)) (fun x => t.length + x) := shift_ren (fun y hy => ⟨by rw [setR_length, both_length]; omega, by rw [setR_ne _ _ _ _ (by omega)]; exact both_right t u y hy⟩)
/-- What the program's graft rests on, where the place isn't the root. -/
theorem graft_in {t u T : NL} {q : Nat} (hf : InForm t) (hu : InForm u) (hq : q < t.length) (h0 : q ≠ 0) (hR : Repl t T q t.length) (hRn : Ren u T (fun x => t.length + x)) :
    ∃ L, Tree T 0 L ∧ partL T L = (graB t q u).lay 0 ∧ L.length = (graB t q u).size ∧ L.length ≤ t.length + u.length := by
  obtain ⟨L, b, bu, Mq, h1, h2, h3, h4, h5, h6, h7, h8⟩ := graft_lay hf hu hq hR (f := fun x => t.length + x) rfl hRn (fun x y _ _ e => by omega) (fun x _ => Or.inr (by omega)) (fun e => absurd e h0)
  rw [graB_of h3 h4]
  exact ⟨L, h1, h5, h6, by omega⟩
theorem graft_top {t u : NL} (hu : InForm u) : ∃ L, Tree (bothL t u) t.length L ∧ partL (bothL t u) L = (graB t 0 u).lay 0 ∧ L.length = (graB t 0 u).size ∧ L.length ≤ t.length + u.length := by
  obtain ⟨N, hN, hNN, hNl⟩ := hu.tree
  obtain ⟨bu, hbu, hs⟩ := hN.abs
  have h1 := ren_tree (ren_both (t := t)) hN
  have h2 := ren_abs (ren_both (t := t)) hbu
  have h3 : (N.map (fun x => t.length + x)).Nodup := map_nodup (fun x y _ _ e => by omega) hNN
  rw [graB_of hbu GraftR.here]
  exact ⟨_, h1, part_lay h1 h3 h2, by simp [hs], by simp; omega⟩
/-- The first m nodes of the second table shifted. -/
def shN (t u : NL) (m : Nat) : NL := t ++ ((u.take m).map (shiftD t.length) ++ u.drop m)
theorem shN_zero (t u : NL) : shN t u 0 = t ++ u := by simp [shN]
theorem shN_all (t u : NL) : shN t u u.length = bothL t u := by simp [shN, bothL]
theorem shN_length (t u : NL) (m : Nat) : (shN t u m).length = t.length + u.length := by simp [shN]; omega
theorem shN_at (t u : NL) (m : Nat) (h : m < u.length) : ndAt (shN t u m) (t.length + m) = ndAt u m := by
  unfold ndAt shN
  rw [List.getD_eq_getElem?_getD, List.getElem?_append_right (by omega), Nat.add_sub_cancel_left, List.getElem?_append_right (by simp; omega)]
  simp only [List.length_map, List.length_take, Nat.min_eq_left (Nat.le_of_lt h), Nat.sub_self, List.getElem?_drop, Nat.add_zero, List.getD_eq_getElem?_getD]
theorem shN_succ (t u : NL) (m : Nat) (h : m < u.length) : shN t u (m + 1) = (shN t u m).set (t.length + m) (shiftD t.length (ndAt u m)) := by
  unfold shN
  have e : u.drop m = ndAt u m :: u.drop (m + 1) := by
    rw [List.drop_eq_getElem_cons h]
    simp [ndAt, List.getD_eq_getElem?_getD, List.getElem?_eq_getElem h]
  have e2 : u.take (m + 1) = u.take m ++ [ndAt u m] := by
    rw [List.take_succ_eq_append_getElem h]
    simp [ndAt, List.getD_eq_getElem?_getD, List.getElem?_eq_getElem h]
  rw [e, e2, List.set_append_right _ _ (by omega), Nat.add_sub_cancel_left, List.set_append_right _ _ (by simp; omega)]
  simp [Nat.min_eq_left (Nat.le_of_lt h)]
theorem shN_leaf (t u : NL) (m : Nat) (h : m < u.length) (hl : (ndAt u m).l = -1) : shN t u (m + 1) = shN t u m := by
  rw [shN_succ t u m h]
  unfold shiftD
  rw [if_pos hl, ← shN_at t u m h]
  have hlt : t.length + m < (shN t u m).length := by rw [shN_length]; omega
  unfold ndAt
  rw [List.getD_eq_getElem?_getD, List.getElem?_eq_getElem hlt]
  exact List.set_getElem_self hlt
theorem shN_inner (t u : NL) (m l r : Nat) (h : m < u.length) (hl : (ndAt u m).l = (l : Int)) (hr : (ndAt u m).r = (r : Int)) : setR (setL (shN t u m) (t.length + m) ((l : Int) + (t.length : Int))) (t.length + m) ((r : Int) + (t.length : Int)) = shN t u (m + 1) := by
  rw [setLR _ _ _ _ (by rw [shN_length]; omega), shN_at t u m h, shN_succ t u m h]
  unfold shiftD
  rw [if_neg (by omega), hl, hr]
theorem MAt.all {w0 x : World} {g cap : Nat} {T : NL} (h : MAt w0 x g cap T) (i : Nat) (hi : i < T.length) : x.cell? ⟨g, i * 6, none⟩ = some (.int .i64 (ndAt T i).key) ∧ x.cell? ⟨g, i * 6 + 1, none⟩ = some (.int .i64 (ndAt T i).inf) ∧ x.cell? ⟨g, i * 6 + 2, none⟩ = some (.int .i64 (ndAt T i).wt) ∧ x.cell? ⟨g, i * 6 + 3, none⟩ = some (.int .i64 (ndAt T i).val) := by
  have := h.nodes.cells i hi
  simp only [Nat.zero_add] at this
  exact ⟨this.1, this.2.1, this.2.2.1, this.2.2.2.1⟩
theorem tree_up {t : NL} {p : Nat} {L : List Nat} (h : Tree t p L) : ∀ c ∈ L, c ≠ p → ∃ (_ _ : List Nat) (x : Nat), True ∧ x ∈ L ∧ Child t x c := by
  induction h with
  | leaf hp hl hr => intro c hc hn; simp at hc; exact absurd hc hn
  | @inner p l r L R hp hl hr h1 h2 ih1 ih2 =>
    intro c hc hn
    simp only [List.mem_cons, List.mem_append] at hc
    rcases hc with hc | hc | hc
    · exact absurd hc hn
    · by_cases e : c = l
      · subst e
        exact ⟨[], [], p, trivial, by simp, Or.inl hl⟩
      · obtain ⟨A, B, x, -, q2, q3⟩ := ih1 c hc e
        exact ⟨A, B, x, trivial, by simp [q2], q3⟩
    · by_cases e : c = r
      · subst e
        exact ⟨[], [], p, trivial, by simp, Or.inr hr⟩
      · obtain ⟨A, B, x, -, q2, q3⟩ := ih2 c hc e
        exact ⟨A, B, x, trivial, by simp [q2], q3⟩
end Go.Proofs.YtegajbfefhljmaaDoor
