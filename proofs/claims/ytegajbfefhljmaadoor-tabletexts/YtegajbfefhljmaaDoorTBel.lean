
/- Layer 16: below. -/

import Derived.Test.YtegajbfefhljmaaDoorTRChk

namespace Go.Proofs.YtegajbfefhljmaaDoor

open Go.RowKit

attribute [local go_sem ↓] Go.wp_at_zero Go.wp_at_succ

theorem zeros_nodes : ∀ n, ndCells (List.replicate n nd0) = List.replicate (n * 6) (Value.int .i64 0)
  | 0 => rfl
  | n + 1 => by
    rw [List.replicate_succ, show (n + 1) * 6 = n * 6 + 1 + 1 + 1 + 1 + 1 + 1 by omega]
    simp only [ndCells, zeros_nodes n, List.replicate_succ]
    rfl
theorem made_nodes (n : Nat) : (madeCells #[Value.int .i64 0, .int .i64 0, .int .i64 0, .int .i64 0, .int .i64 0, .int .i64 0] (n * 6)).toList = ndCells (List.replicate n nd0) := by
  rw [zeros_nodes]
  apply List.ext_getElem
  · simp [madeCells]
  · intro i h1 h2
    simp only [madeCells, Array.toList_map, List.getElem_map, List.getElem_replicate, Array.toList_range, List.getElem_range]
    have : ∀ m, m < 6 → (#[Value.int .i64 0, .int .i64 0, .int .i64 0, .int .i64 0, .int .i64 0, .int .i64 0] : Array Value)[m]! = .int .i64 0 := by
      intro m hm
      match m, hm with
      | 0, _ => rfl
      | 1, _ => rfl
      | 2, _ => rfl
      | 3, _ => rfl
      | 4, _ => rfl
      | 5, _ => rfl
    exact this (i % 6) (Nat.mod_lt _ (by omega))
theorem owns_made6 (w : World) (n : Nat) (hn : n ≤ maxLen) : (w.alloc (.cells (madeCells #[Value.int .i64 0, .int .i64 0, .int .i64 0, .int .i64 0, .int .i64 0, .int .i64 0] (n * 6)) 33)).ownsRow w.heap.size 33 6 (.slice (some ⟨w.heap.size, 0, none⟩) n n) n (ndCells (List.replicate n nd0)) := by
  rw [← made_nodes]
  exact World.ownsRow_lit w _ n (Nat.le_refl _) hn (size_madeCells _ _)
/-- A node of a row set. -/
theorem ndCells_set : ∀ (t : NL) (i : Nat) (n : NdD), i < t.length → ndCells (t.set i n) = ((((((ndCells t).set (i * 6) (.int .i64 n.key)).set (i * 6 + 1) (.int .i64 n.inf)).set (i * 6 + 2) (.int .i64 n.wt)).set (i * 6 + 3) (.int .i64 n.val)).set (i * 6 + 4) (.int .i64 n.l)).set (i * 6 + 5) (.int .i64 n.r)
  | [], i, _, h => by simp at h
  | p :: t, 0, n, _ => by simp [ndCells]
  | p :: t, i + 1, n, h => by
    have ih := ndCells_set t i n (by simpa using h)
    have e : (i + 1) * 6 = i * 6 + 1 + 1 + 1 + 1 + 1 + 1 := by omega
    rw [e]
    simp only [List.set_cons_succ, ndCells]
    rw [ih]
/-- A row of n nodes, the first j as they will be. -/
def halfL (q : NL) (j : Nat) : NL := q.take j ++ List.replicate (q.length - j) nd0
theorem halfL_length (q : NL) (j : Nat) (h : j ≤ q.length) : (halfL q j).length = q.length := by simp [halfL]; omega
theorem halfL_zero (q : NL) : halfL q 0 = List.replicate q.length nd0 := by simp [halfL]
theorem halfL_full (q : NL) : halfL q q.length = q := by simp [halfL]
theorem halfL_at (q : NL) (j : Nat) (h : j < q.length) : ndAt (halfL q j) j = nd0 := by
  unfold ndAt halfL
  rw [List.getD_eq_getElem?_getD, List.getElem?_append_right (by simp; omega)]
  simp only [List.length_take, Nat.min_eq_left (Nat.le_of_lt h), Nat.sub_self]
  rw [List.getElem?_replicate]
  split <;> rfl
theorem halfL_set (q : NL) (j : Nat) (h : j < q.length) : (halfL q j).set j (ndAt q j) = halfL q (j + 1) := by
  have hr : List.replicate (q.length - j) nd0 = nd0 :: List.replicate (q.length - (j + 1)) nd0 := by
    rw [show q.length - j = (q.length - (j + 1)) + 1 by omega, List.replicate_succ]
  unfold halfL
  rw [hr, List.set_append_right _ _ (by simp; omega)]
  simp only [List.length_take, Nat.min_eq_left (Nat.le_of_lt h), Nat.sub_self, List.set_cons_zero]
  rw [List.take_succ_eq_append_getElem h, List.append_assoc]
  congr 1
  simp [ndAt, List.getD_eq_getElem?_getD, List.getElem?_eq_getElem h]
theorem partL_at (t : NL) (L : List Nat) (j : Nat) (h : j < L.length) : ndAt (partL t L) j = renD (atN L L.length) (ndAt t (L.getD j 0)) := by
  unfold ndAt partL
  rw [List.getD_eq_getElem?_getD, List.getElem?_map, List.getElem?_eq_getElem h]
  simp [List.getD_eq_getElem?_getD, List.getElem?_eq_getElem h, ndAt]
theorem renD_leaf {f : Nat → Int} {n : NdD} (h : n.l = -1) : renD f n = n := by unfold renD; rw [if_pos h]
theorem renD_inner {f : Nat → Int} {k0 k1 k2 k3 : Int} {l r : Nat} : renD f ⟨k0, k1, k2, k3, (l : Int), (r : Int)⟩ = ⟨k0, k1, k2, k3, f l, f r⟩ := by
  unfold renD
  rw [if_neg (by simp)]
  simp
theorem atN_bound (L : List Nat) : ∀ i x, 0 ≤ atN L i x ∧ atN L i x ≤ i
  | 0, x => by simp [atN]
  | i + 1, x => by
    have := atN_bound L i x
    simp only [atN]
    split <;> omega
theorem getD_mem {L : List Nat} {j : Nat} (h : j < L.length) : L.getD j 0 ∈ L := by
  rw [List.getD_eq_getElem?_getD, List.getElem?_eq_getElem h]; exact List.getElem_mem h
/-- A row stands when a cell of another block is written. -/
theorem owns_other {w : World} {B sz : Nat} {e : TypeId} {g n cap : Nat} {xs : List Value} (h : w.ownsRow B e sz (.slice (some ⟨g, 0, none⟩) n cap) n xs) (b j : Nat) (u : Value) (hb : b ≠ g) : (w.setCell ⟨b, j, none⟩ u).ownsRow B e sz (.slice (some ⟨g, 0, none⟩) n cap) n xs := by
  obtain ⟨h0, h⟩ := h
  rcases h with ⟨h, _⟩ | ⟨g', cap', cur, hv, hg, hh, r⟩
  · cases h
  · cases hv
    exact ⟨h0, Or.inr ⟨g, cap, cur, rfl, hg, by simp [World.setCell, Array.getElem?_modify, hb, hh], r⟩⟩
/-- The row of nodes, one of them stored. -/
theorem owns_node {w : World} {B g cap n j : Nat} {q : NL} (h : w.ownsRow B 33 6 (.slice (some ⟨g, 0, none⟩) n cap) n (ndCells (halfL q j))) (hj : j < q.length) (k0 k1 k2 k3 k4 k5 : Int) (hd : ndAt q j = ⟨k0, k1, k2, k3, k4, k5⟩) :
    ((((((w.setCell ⟨g, j * 6, none⟩ (.int .i64 k0)).setCell ⟨g, j * 6 + 1, none⟩ (.int .i64 k1)).setCell ⟨g, j * 6 + 2, none⟩ (.int .i64 k2)).setCell ⟨g, j * 6 + 3, none⟩ (.int .i64 k3)).setCell ⟨g, j * 6 + 4, none⟩ (.int .i64 k4)).setCell ⟨g, j * 6 + 5, none⟩ (.int .i64 k5)).ownsRow B 33 6 (.slice (some ⟨g, 0, none⟩) n cap) n (ndCells (halfL q (j + 1))) := by
  rw [← halfL_set q j hj, hd, ndCells_set _ _ _ (by rw [halfL_length q j (by omega)]; exact hj)]
  exact owns_put (owns_put (owns_put (owns_put (owns_put (owns_put h _ _) _ _) _ _) _ _) _ _) _ _
theorem below_six {B g j : Nat} {w w' : World} (h : Below B w w') (hg : B ≤ g) (v0 v1 v2 v3 v4 v5 : Value) : Below B w ((((((w'.setCell ⟨g, j * 6, none⟩ v0).setCell ⟨g, j * 6 + 1, none⟩ v1).setCell ⟨g, j * 6 + 2, none⟩ v2).setCell ⟨g, j * 6 + 3, none⟩ v3).setCell ⟨g, j * 6 + 4, none⟩ v4).setCell ⟨g, j * 6 + 5, none⟩ v5) :=
  (((((h.setCell hg _).setCell hg _).setCell hg _).setCell hg _).setCell hg _).setCell hg _

end Go.Proofs.YtegajbfefhljmaaDoor
