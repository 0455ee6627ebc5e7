
/- Layer 16: slices.Clone at nodes; Mirror of both. -/

import Derived.Test.YthdfpddijocfkaaTRoot

import Derived.Shelf.SlicesE.Clone

namespace Go.Proofs.Ythdfpddijocfkaa

open Go.RowKit

attribute [local go_sem ↓] Go.wp_at_zero Go.wp_at_succ

def swapD (n : NdD) : NdD := ⟨n.key, n.inf, n.wt, n.val, n.r, n.l⟩
/-- The first i nodes have left and right exchanged. -/
def mirN (t : NL) (i : Nat) : NL := (t.take i).map swapD ++ t.drop i
def mirL (t : NL) : NL := t.map swapD
theorem mirN_zero (t : NL) : mirN t 0 = t := by simp [mirN]
theorem mirN_all (t : NL) : mirN t t.length = mirL t := by simp [mirN, mirL]
theorem mirN_length (t : NL) (i : Nat) : (mirN t i).length = t.length := by simp [mirN]; omega
theorem mirN_at (t : NL) (i : Nat) (h : i < t.length) : ndAt (mirN t i) i = ndAt t i := by
  unfold ndAt mirN
  rw [List.getD_eq_getElem?_getD, List.getElem?_append_right (by simp; omega)]
  simp only [List.length_map, List.length_take, Nat.min_eq_left (Nat.le_of_lt h), Nat.sub_self, List.getElem?_drop, Nat.add_zero, List.getD_eq_getElem?_getD]
theorem mirN_succ (t : NL) (i : Nat) (h : i < t.length) : mirN t (i + 1) = (mirN t i).set i (swapD (ndAt t i)) := by
  unfold mirN
  have e : t.drop i = ndAt t i :: t.drop (i + 1) := by
    rw [List.drop_eq_getElem_cons h]
    simp [ndAt, List.getD_eq_getElem?_getD, List.getElem?_eq_getElem h]
  have e2 : t.take (i + 1) = t.take i ++ [ndAt t i] := by
    rw [List.take_succ_eq_append_getElem h]
    simp [ndAt, List.getD_eq_getElem?_getD, List.getElem?_eq_getElem h]
  rw [e, e2, List.set_append_right _ _ (by simp; omega)]
  simp [Nat.min_eq_left (Nat.le_of_lt h)]
theorem mirL_length (t : NL) : (mirL t).length = t.length := by simp [mirL]
theorem mirL_at (t : NL) (i : Nat) (h : i < t.length) : ndAt (mirL t) i = swapD (ndAt t i) := by
  unfold ndAt mirL
  rw [List.getD_eq_getElem?_getD, List.getElem?_map, List.getElem?_eq_getElem h]
  simp [List.getD_eq_getElem?_getD, List.getElem?_eq_getElem h]
theorem mir_tree {t : NL} {p : Nat} {L : List Nat} (h : Tree t p L) : ∃ M, Tree (mirL t) p M ∧ M.Perm L := by
  induction h with
  | @leaf p hp hl hr =>
    have e := mirL_at t p hp
    exact ⟨[p], Tree.leaf (by rw [mirL_length]; exact hp) (by rw [e]; exact hr) (by rw [e]; exact hl), List.Perm.refl _⟩
  | @inner p l r L R hp hl hr _ _ ih1 ih2 =>
    obtain ⟨M1, m1, q1⟩ := ih1
    obtain ⟨M2, m2, q2⟩ := ih2
    have e := mirL_at t p hp
    refine ⟨p :: (M2 ++ M1), Tree.inner (by rw [mirL_length]; exact hp) (by rw [e]; exact hr) (by rw [e]; exact hl) m2 m1, ?_⟩
    exact ((q2.append q1).trans List.perm_append_comm).cons p
theorem mir_form {t : NL} (hf : InForm t) : ∃ M, Tree (mirL t) 0 M ∧ M.Nodup ∧ M.length = t.length := by
  obtain ⟨L, h1, h2, h3⟩ := hf.tree
  obtain ⟨M, q1, q2⟩ := mir_tree h1
  exact ⟨M, q1, q2.nodup_iff.2 h2, by rw [q2.length_eq, h3]⟩
open Classical in
/-- Mirror's answer. -/
noncomputable def mirA (t : NL) : NL := if formE t = 0 then partL (mirL t) (theL (mirL t) 0) else []

theorem ndCells_setK (k : Nat) (u : Value) : ∀ (t : NL) (i : Nat) (m : NdD), i < t.length → k < 6 → (∀ j, j < 6 → j ≠ k → (ndC m)[j]? = (ndC (ndAt t i))[j]?) → (ndC m)[k]? = some u → ndCells (t.set i m) = (ndCells t).set (i * 6 + k) u
  | [], i, m, h, _, _, _ => by simp at h
  | n :: t, 0, m, h, hk, hj, hu => by
    obtain ⟨m0, m1, m2, m3, m4, m5⟩ := m
    obtain ⟨n0, n1, n2, n3, n4, n5⟩ := n
    have c : k = 0 ∨ k = 1 ∨ k = 2 ∨ k = 3 ∨ k = 4 ∨ k = 5 := by omega
    have g : ∀ j, j < 6 → j ≠ k → (ndC ⟨m0, m1, m2, m3, m4, m5⟩)[j]? = (ndC ⟨n0, n1, n2, n3, n4, n5⟩)[j]? := hj
    have g0 := g 0 (by omega)
    have g1 := g 1 (by omega)
    have g2 := g 2 (by omega)
    have g3 := g 3 (by omega)
    have g4 := g 4 (by omega)
    have g5 := g 5 (by omega)
    clear g hj
    rcases c with rfl | rfl | rfl | rfl | rfl | rfl <;> simp_all [ndC, ndCells]
  | n :: t, i + 1, m, h, hk, hj, hu => by
    have ih := ndCells_setK k u t i m (by simpa using h) hk (by simpa [ndAt] using hj) hu
    rw [List.set_cons_succ]
    simp only [ndCells, ih]
    rw [show (i + 1) * 6 + k = (i * 6 + k) + 1 + 1 + 1 + 1 + 1 + 1 by omega]
    simp
theorem ndAt_set (t : NL) (i : Nat) (m : NdD) (h : i < t.length) : ndAt (t.set i m) i = m := by
  unfold ndAt
  rw [List.getD_eq_getElem?_getD, List.getElem?_set_self h]
  rfl
/-- Left and right of one node written. -/
theorem ndCells_set45 (t : NL) (i : Nat) (h : i < t.length) (a b : Int) : ndCells (t.set i ⟨(ndAt t i).key, (ndAt t i).inf, (ndAt t i).wt, (ndAt t i).val, a, b⟩) = ((ndCells t).set (i * 6 + 4) (.int .i64 a)).set (i * 6 + 5) (.int .i64 b) := by
  have h1 := ndCells_setK 4 (.int .i64 a) t i ⟨(ndAt t i).key, (ndAt t i).inf, (ndAt t i).wt, (ndAt t i).val, a, (ndAt t i).r⟩ h (by omega) (fun j hj hn => by
    have c : j = 0 ∨ j = 1 ∨ j = 2 ∨ j = 3 ∨ j = 5 := by omega
    rcases c with rfl | rfl | rfl | rfl | rfl <;> rfl) rfl
  have h2 := ndCells_setK 5 (.int .i64 b) (t.set i ⟨(ndAt t i).key, (ndAt t i).inf, (ndAt t i).wt, (ndAt t i).val, a, (ndAt t i).r⟩) i ⟨(ndAt t i).key, (ndAt t i).inf, (ndAt t i).wt, (ndAt t i).val, a, b⟩ (by simpa using h) (by omega) (fun j hj hn => by
    rw [ndAt_set _ _ _ h]
    have c : j = 0 ∨ j = 1 ∨ j = 2 ∨ j = 3 ∨ j = 4 := by omega
    rcases c with rfl | rfl | rfl | rfl | rfl <;> rfl) rfl
  rw [List.set_set] at h2
  rw [h2, h1]
theorem nodes_news {w : World} {base : Option Addr} {b o : Nat} {t : NL} (h : NodesAt w base b o t) : ∀ ad, base = some ad → ∀ j u, (ndCells t)[j]? = some u → w.cell? (ad.add j) = some u := by
  intro ad had j u hu
  have hl : j < t.length * 6 := by
    obtain ⟨q, _⟩ := List.getElem?_eq_some_iff.1 hu
    rwa [ndCells_length] at q
  have hj : j / 6 < t.length := by omega
  have hb := h.base (by omega)
  rw [had] at hb
  cases hb
  rw [addr_add']
  obtain ⟨a0, a1, a2, a3, a4, a5⟩ := h.cells (j / 6) hj
  obtain ⟨b0, b1, b2, b3, b4, b5⟩ := ndCells_get t (j / 6) hj
  have c : j = j / 6 * 6 ∨ j = j / 6 * 6 + 1 ∨ j = j / 6 * 6 + 2 ∨ j = j / 6 * 6 + 3 ∨ j = j / 6 * 6 + 4 ∨ j = j / 6 * 6 + 5 := by omega
  rcases c with c | c | c | c | c | c
  · rw [← c] at b0 a0; rw [a0, ← b0, hu]
  · rw [← c, hu] at b1; rw [Nat.add_assoc, ← c] at a1; rw [a1, b1]
  · rw [← c, hu] at b2; rw [Nat.add_assoc, ← c] at a2; rw [a2, b2]
  · rw [← c, hu] at b3; rw [Nat.add_assoc, ← c] at a3; rw [a3, b3]
  · rw [← c, hu] at b4; rw [Nat.add_assoc, ← c] at a4; rw [a4, b4]
  · rw [← c, hu] at b5; rw [Nat.add_assoc, ← c] at a5; rw [a5, b5]
theorem nd_info' : (Try.prog.info? 81).map (fun i => (i.zero, i.size, i.bytes)) = some (some (.agg #[.int .i64 0, .int .i64 0, .int .i64 0, .int .i64 0, .int .i64 0, .int .i64 0]), 6, 48) := by kernel_rfl
theorem nds_under' : Try.prog.underlying 22 = some (.slice 81) := by kernel_rfl
/-- What Mirror's loop has: an own row, the first i nodes mirrored. -/
structure MAt (w0 x : World) (g cap : Nat) (T : NL) : Prop where
  own : x.ownsRow w0.heap.size 81 6 (.slice (some ⟨g, 0, none⟩) T.length cap) T.length (ndCells T)
  below : Below w0.heap.size w0 x
theorem MAt.cells {w0 x : World} {g cap : Nat} {T : NL} (h : MAt w0 x g cap T) (i : Nat) (hi : i < T.length) : (x.cell? ⟨g, i * 6 + 4, none⟩ = some (.int .i64 (ndAt T i).l) ∧ x.frozen? ⟨g, i * 6 + 4, none⟩ = false) ∧ (x.cell? ⟨g, i * 6 + 5, none⟩ = some (.int .i64 (ndAt T i).r) ∧ x.frozen? ⟨g, i * 6 + 5, none⟩ = false) := by
  obtain ⟨g', cap', hv, -, -, -, -, hc, hfr⟩ := owns_some h.own (by omega)
  injection hv with e1 _ _
  injection e1 with e1
  injection e1 with e1 _ _
  subst e1
  obtain ⟨-, -, -, -, b4, b5⟩ := ndCells_get T i hi
  exact ⟨⟨(hc _ (by omega)).trans b4, hfr _⟩, (hc _ (by omega)).trans b5, hfr _⟩
theorem MAt.lt {w0 x : World} {g cap : Nat} {T : NL} (h : MAt w0 x g cap T) : w0.heap.size ≤ g ∧ g < x.heap.size := owns_lt h.own g rfl
theorem MAt.quiet {w0 x y : World} {g cap : Nat} {T : NL} (h : MAt w0 x g cap T) (hb : Below x.heap.size x y) : MAt w0 y g cap T := ⟨owns_below h.own hb, h.below.trans (hb.mono h.below.size)⟩
theorem MAt.drew {w0 x : World} {g cap : Nat} {T : NL} (h : MAt w0 x g cap T) : MAt w0 x.drew g cap T := ⟨h.own, h.below.drew⟩
def setL (T : NL) (i : Nat) (a : Int) : NL := T.set i ⟨(ndAt T i).key, (ndAt T i).inf, (ndAt T i).wt, (ndAt T i).val, a, (ndAt T i).r⟩
def setR (T : NL) (i : Nat) (b : Int) : NL := T.set i ⟨(ndAt T i).key, (ndAt T i).inf, (ndAt T i).wt, (ndAt T i).val, (ndAt T i).l, b⟩
theorem setL_length (T : NL) (i : Nat) (a : Int) : (setL T i a).length = T.length := by simp [setL]
theorem setR_length (T : NL) (i : Nat) (a : Int) : (setR T i a).length = T.length := by simp [setR]
theorem setLR (T : NL) (i : Nat) (a b : Int) (h : i < T.length) : setR (setL T i a) i b = T.set i ⟨(ndAt T i).key, (ndAt T i).inf, (ndAt T i).wt, (ndAt T i).val, a, b⟩ := by
  unfold setR setL
  rw [ndAt_set _ _ _ h, List.set_set]
theorem setRL (T : NL) (i : Nat) (a b : Int) (h : i < T.length) : setL (setR T i b) i a = T.set i ⟨(ndAt T i).key, (ndAt T i).inf, (ndAt T i).wt, (ndAt T i).val, a, b⟩ := by
  unfold setR setL
  rw [ndAt_set _ _ _ h, List.set_set]
theorem mir_step (t : NL) (i : Nat) (h : i < t.length) : setR (setL (mirN t i) i (ndAt t i).r) i (ndAt t i).l = mirN t (i + 1) := by
  rw [setLR _ _ _ _ (by rw [mirN_length]; exact h), mirN_at t i h, mirN_succ t i h]; rfl
theorem mir_step' (t : NL) (i : Nat) (h : i < t.length) : setL (setR (mirN t i) i (ndAt t i).l) i (ndAt t i).r = mirN t (i + 1) := by
  rw [setRL _ _ _ _ (by rw [mirN_length]; exact h), mirN_at t i h, mirN_succ t i h]; rfl
theorem MAt.putL {w0 x : World} {g cap : Nat} {T : NL} (h : MAt w0 x g cap T) (i : Nat) (a : Int) (hi : i < T.length) (hg : w0.heap.size ≤ g) : MAt w0 (x.setCell ⟨g, i * 6 + 4, none⟩ (.int .i64 a)) g cap (setL T i a) := by
  refine ⟨?_, h.below.setCell hg _⟩
  unfold setL
  rw [ndCells_setK 4 (.int .i64 a) T i _ hi (by omega) (fun j hj hn => by
    have c : j = 0 ∨ j = 1 ∨ j = 2 ∨ j = 3 ∨ j = 5 := by omega
    rcases c with rfl | rfl | rfl | rfl | rfl <;> rfl) rfl, List.length_set]
  exact owns_put h.own _ _
theorem MAt.putR {w0 x : World} {g cap : Nat} {T : NL} (h : MAt w0 x g cap T) (i : Nat) (a : Int) (hi : i < T.length) (hg : w0.heap.size ≤ g) : MAt w0 (x.setCell ⟨g, i * 6 + 5, none⟩ (.int .i64 a)) g cap (setR T i a) := by
  refine ⟨?_, h.below.setCell hg _⟩
  unfold setR
  rw [ndCells_setK 5 (.int .i64 a) T i _ hi (by omega) (fun j hj hn => by
    have c : j = 0 ∨ j = 1 ∨ j = 2 ∨ j = 3 ∨ j = 4 := by omega
    rcases c with rfl | rfl | rfl | rfl | rfl <;> rfl) rfl, List.length_set]
  exact owns_put h.own _ _
theorem MAt.step {w0 x : World} {g cap i : Nat} {t : NL} (h : MAt w0 x g cap (mirN t i)) (hi : i < t.length) (hg : w0.heap.size ≤ g) : MAt w0 ((x.setCell ⟨g, i * 6 + 4, none⟩ (.int .i64 (ndAt t i).r)).setCell ⟨g, i * 6 + 5, none⟩ (.int .i64 (ndAt t i).l)) g cap (mirN t (i + 1)) := by
  rw [← mir_step t i hi]
  exact (h.putL i _ (by rw [mirN_length]; exact hi) hg).putR i _ (by rw [setL_length, mirN_length]; exact hi) hg
theorem MAt.step' {w0 x : World} {g cap i : Nat} {t : NL} (h : MAt w0 x g cap (mirN t i)) (hi : i < t.length) (hg : w0.heap.size ≤ g) : MAt w0 ((x.setCell ⟨g, i * 6 + 5, none⟩ (.int .i64 (ndAt t i).l)).setCell ⟨g, i * 6 + 4, none⟩ (.int .i64 (ndAt t i).r)) g cap (mirN t (i + 1)) := by
  rw [← mir_step' t i hi]
  exact (h.putR i _ (by rw [mirN_length]; exact hi) hg).putL i _ (by rw [setR_length, mirN_length]; exact hi) hg
theorem MAt.nodes {w0 x : World} {g cap : Nat} {T : NL} (h : MAt w0 x g cap T) : NodesAt x (some ⟨g, 0, none⟩) g 0 T := nodes_of_cells (fun j hj => h.own.cellAt j hj) (owns_lt h.own g rfl).2 (by
  obtain ⟨-, q⟩ := h.own
  rcases q with ⟨q, _⟩ | ⟨g', cap', cur, hv, hg, hh, h1, h2, h3, h4⟩
  · cases q
  · omega)
-- WALK
end Go.Proofs.Ythdfpddijocfkaa
