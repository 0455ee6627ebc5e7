
/- Layer 16: Graft of both, whole. -/

import Derived.Test.YtegajbfefhljmaaDoorTGra

namespace Go.Proofs.YtegajbfefhljmaaDoor

open Go.RowKit

attribute [local go_sem ↓] Go.wp_at_zero Go.wp_at_succ

/-- The reference's table: the second one behind the first, its root at the place. -/
def alN (t u : NL) (m : Nat) : NL := t ++ ((u.take m).drop 1).map (shiftD (t.length - 1))
def allL (t u : NL) (q : Nat) : NL := (alN t u u.length).set q (shiftD (t.length - 1) (ndAt u 0))
theorem alN_one (t u : NL) : alN t u 1 = t := by
  unfold alN
  rw [List.drop_eq_nil_of_le (by simp; omega)]
  simp
theorem alN_length (t u : NL) (m : Nat) (h1 : 1 ≤ m) (h : m ≤ u.length) : (alN t u m).length = t.length + (m - 1) := by simp [alN]; omega
theorem alN_succ (t u : NL) (m : Nat) (h1 : 1 ≤ m) (h : m < u.length) : alN t u (m + 1) = alN t u m ++ [shiftD (t.length - 1) (ndAt u m)] := by
  unfold alN
  have e2 : u.take (m + 1) = u.take m ++ [ndAt u m] := by
    rw [List.take_succ_eq_append_getElem h]
    simp [ndAt, List.getD_eq_getElem?_getD, List.getElem?_eq_getElem h]
  rw [e2, List.drop_append_of_le_length (by simp; omega)]
  simp
theorem allL_length (t u : NL) (q : Nat) (h : 0 < u.length) : (allL t u q).length = t.length + (u.length - 1) := by
  unfold allL
  rw [List.length_set, alN_length _ _ _ h (Nat.le_refl _)]
theorem allL_left (t u : NL) (q p : Nat) (hp : p < t.length) (hn : p ≠ q) : ndAt (allL t u q) p = ndAt t p := by
  unfold allL
  rw [ndAt_set_ne _ _ _ _ hn]
  unfold ndAt alN
  rw [List.getD_eq_getElem?_getD, List.getD_eq_getElem?_getD, List.getElem?_append_left hp]
theorem allL_here (t u : NL) (q : Nat) (hq : q < t.length) (h : 0 < u.length) : ndAt (allL t u q) q = shiftD (t.length - 1) (ndAt u 0) := by
  unfold allL
  exact ndAt_set _ _ _ (by rw [alN_length _ _ _ h (Nat.le_refl _)]; omega)
theorem allL_right (t u : NL) (q x : Nat) (hq : q < t.length) (h1 : 1 ≤ x) (h : x < u.length) : ndAt (allL t u q) (t.length - 1 + x) = shiftD (t.length - 1) (ndAt u x) := by
  unfold allL
  rw [ndAt_set_ne _ _ _ _ (by omega)]
  unfold ndAt alN
  rw [List.getD_eq_getElem?_getD, List.getElem?_append_right (by omega), List.getElem?_map, List.take_length, List.getElem?_drop, show 1 + (t.length - 1 + x - t.length) = x by omega, List.getElem?_eq_getElem h]
  simp [List.getD_eq_getElem?_getD, List.getElem?_eq_getElem h]
theorem repl_all {t u : NL} {q : Nat} (hu : 0 < u.length) : Repl t (allL t u q) q q := by
  intro p hp hne
  rw [allL_left t u q p hp hne, allL_length t u q hu]
  refine ⟨by omega, rfl, ?_, ?_⟩ <;> split <;> simp_all
theorem ren_all {t u : NL} {q : Nat} (hq : q < t.length) (hu : InForm u) : Ren u (allL t u q) (fun x => if x = 0 then q else t.length - 1 + x) := by
  intro x hx
  have e : ndAt (allL t u q) (if x = 0 then q else t.length - 1 + x) = shiftD (t.length - 1) (ndAt u x) := by
    by_cases h : x = 0
    · rw [if_pos h, h]; exact allL_here t u q hq hu.pos
    · rw [if_neg h]; exact allL_right t u q x hq (by omega) hx
  refine ⟨?_, ?_, ?_, ?_⟩
  · rw [allL_length t u q hu.pos]
    show (if x = 0 then q else t.length - 1 + x) < _
    split <;> omega
  · show ndP (ndAt (allL t u q) (if x = 0 then q else t.length - 1 + x)) = _
    rw [e]; unfold shiftD; split <;> rfl
  · intro hl hr
    show (ndAt (allL t u q) (if x = 0 then q else t.length - 1 + x)).l = -1 ∧ (ndAt (allL t u q) (if x = 0 then q else t.length - 1 + x)).r = -1
    rw [e]; unfold shiftD; rw [if_pos hl]; exact ⟨hl, hr⟩
  · intro l r hl hr
    have l1 := (child_pos hu.good hx (Or.inl hl)).1
    have r1 := (child_pos hu.good hx (Or.inr hr)).1
    show (ndAt (allL t u q) (if x = 0 then q else t.length - 1 + x)).l = ((if l = 0 then q else t.length - 1 + l : Nat) : Int) ∧ (ndAt (allL t u q) (if x = 0 then q else t.length - 1 + x)).r = ((if r = 0 then q else t.length - 1 + r : Nat) : Int)
    rw [e, if_neg (by omega), if_neg (by omega)]
    unfold shiftD
    rw [if_neg (by omega)]
    simp only [hl, hr]
    exact ⟨by omega, by omega⟩
theorem graft_ref {t u : NL} {q : Nat} (hf : InForm t) (hu : InForm u) (hq : q < t.length) :
    ∃ L Mq, Tree (allL t u q) 0 L ∧ partL (allL t u q) L = (graB t q u).lay 0 ∧ L.length = (graB t q u).size ∧ Tree t q Mq ∧ L.length + Mq.length = t.length + u.length := by
  obtain ⟨L, b, bu, Mq, h1, h2, h3, h4, h5, h6, h7, h8⟩ := graft_lay hf hu hq (repl_all (q := q) hu.pos) (f := fun x => if x = 0 then q else t.length - 1 + x) rfl (ren_all hq hu) (fun x y hx hy e => by
    have e' : (if x = 0 then q else t.length - 1 + x) = (if y = 0 then q else t.length - 1 + y) := e
    have := hf.pos
    split at e' <;> split at e' <;> omega) (fun x hx => by
    show (if x = 0 then q else t.length - 1 + x) = q ∨ t.length ≤ (if x = 0 then q else t.length - 1 + x)
    have := hf.pos
    split
    · exact Or.inl rfl
    · exact Or.inr (by omega)) (fun e => e)
  rw [graB_of h3 h4]
  exact ⟨L, Mq, h1, h5, h6, h7, h8⟩
theorem MAt.six {w0 x : World} {g cap : Nat} {T : NL} (h : MAt w0 x g cap T) (i : Nat) (hi : i < T.length) : (x.cell? ⟨g, i * 6, none⟩ = some (.int .i64 (ndAt T i).key) ∧ x.frozen? ⟨g, i * 6, none⟩ = false) ∧ (x.cell? ⟨g, i * 6 + 1, none⟩ = some (.int .i64 (ndAt T i).inf) ∧ x.frozen? ⟨g, i * 6 + 1, none⟩ = false) ∧ (x.cell? ⟨g, i * 6 + 2, none⟩ = some (.int .i64 (ndAt T i).wt) ∧ x.frozen? ⟨g, i * 6 + 2, none⟩ = false) ∧ (x.cell? ⟨g, i * 6 + 3, none⟩ = some (.int .i64 (ndAt T i).val) ∧ x.frozen? ⟨g, i * 6 + 3, none⟩ = false) ∧ (x.cell? ⟨g, i * 6 + 4, none⟩ = some (.int .i64 (ndAt T i).l) ∧ x.frozen? ⟨g, i * 6 + 4, none⟩ = false) ∧ (x.cell? ⟨g, i * 6 + 5, none⟩ = some (.int .i64 (ndAt T i).r) ∧ x.frozen? ⟨g, i * 6 + 5, none⟩ = false) := by
  obtain ⟨g', cap', hv, -, -, -, -, hc, hfr⟩ := owns_some h.own (by omega)
  injection hv with e1 _ _
  injection e1 with e1
  injection e1 with e1 _ _
  subst e1
  obtain ⟨b0, b1, b2, b3, b4, b5⟩ := ndCells_get T i hi
  exact ⟨⟨(hc _ (by omega)).trans b0, hfr _⟩, ⟨(hc _ (by omega)).trans b1, hfr _⟩, ⟨(hc _ (by omega)).trans b2, hfr _⟩, ⟨(hc _ (by omega)).trans b3, hfr _⟩, ⟨(hc _ (by omega)).trans b4, hfr _⟩, (hc _ (by omega)).trans b5, hfr _⟩
theorem MAt.put6 {w0 x : World} {g cap : Nat} {T : NL} (h : MAt w0 x g cap T) (i : Nat) (n : NdD) (hi : i < T.length) (hg : w0.heap.size ≤ g) : MAt w0 ((((((x.setCell ⟨g, i * 6, none⟩ (.int .i64 n.key)).setCell ⟨g, i * 6 + 1, none⟩ (.int .i64 n.inf)).setCell ⟨g, i * 6 + 2, none⟩ (.int .i64 n.wt)).setCell ⟨g, i * 6 + 3, none⟩ (.int .i64 n.val)).setCell ⟨g, i * 6 + 4, none⟩ (.int .i64 n.l)).setCell ⟨g, i * 6 + 5, none⟩ (.int .i64 n.r)) g cap (T.set i n) := by
  refine ⟨?_, below_six h.below hg _ _ _ _ _ _⟩
  rw [ndCells_set _ _ _ hi, List.length_set]
  exact owns_put (owns_put (owns_put (owns_put (owns_put (owns_put h.own _ _) _ _) _ _) _ _) _ _) _ _
theorem MAt.apart {w0 x : World} {g cap : Nat} {T : NL} (h : MAt w0 x g cap T) (b k : Nat) (v : Value) (hb : b ≠ g) (hB : w0.heap.size ≤ b) : MAt w0 (x.setCell ⟨b, k, none⟩ v) g cap T := ⟨owns_other h.own b k v hb, h.below.setCell hB _⟩
theorem MAt.push {w0 x y : World} {g cap g' cap' : Nat} {T : NL} {n : NdD} {o : Obj} (h : MAt w0 x g cap T) (hg : (x.alloc o).grownBy y (Value.ownBlock (.slice (some ⟨g, 0, none⟩) T.length cap))) (ho : y.ownsRow w0.heap.size 33 6 (.slice (some ⟨g', 0, none⟩) (T.length + 1) cap') (T.length + 1) (ndCells T ++ [.int .i64 n.key, .int .i64 n.inf, .int .i64 n.wt, .int .i64 n.val, .int .i64 n.l, .int .i64 n.r])) : MAt w0 y g' cap' (T ++ [n]) :=
  ⟨by rw [List.length_append, ndCells_append]; exact ho, Below.grown (h.below.alloc h.below.size o) hg (by rw [World.size_alloc]; have := h.below.size; omega) (fun k q => (owns_lt h.own k q).1)⟩
theorem sixc {w : World} {b : Nat} {v0 v1 v2 v3 v4 v5 : Value} {T : TypeId} (h : w.heap[b]? = some (.cells #[v0, v1, v2, v3, v4, v5] T)) : b < w.heap.size ∧ (w.cell? ⟨b, 0, none⟩ = some v0 ∧ w.frozen? ⟨b, 0, none⟩ = false) ∧ (w.cell? ⟨b, 1, none⟩ = some v1 ∧ w.frozen? ⟨b, 1, none⟩ = false) ∧ (w.cell? ⟨b, 2, none⟩ = some v2 ∧ w.frozen? ⟨b, 2, none⟩ = false) ∧ (w.cell? ⟨b, 3, none⟩ = some v3 ∧ w.frozen? ⟨b, 3, none⟩ = false) ∧ (w.cell? ⟨b, 4, none⟩ = some v4 ∧ w.frozen? ⟨b, 4, none⟩ = false) ∧ (w.cell? ⟨b, 5, none⟩ = some v5 ∧ w.frozen? ⟨b, 5, none⟩ = false) := by
  refine ⟨(Array.getElem?_eq_some_iff.1 h).1, ⟨?_, ?_⟩, ⟨?_, ?_⟩, ⟨?_, ?_⟩, ⟨?_, ?_⟩, ⟨?_, ?_⟩, ?_, ?_⟩ <;> simp [World.cell?, World.frozen?, h]
end Go.Proofs.YtegajbfefhljmaaDoor
