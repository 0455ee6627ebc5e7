
/- Layer 16: below. -/

import Derived.Test.YthdfpddijocfkaaTRChk

namespace Go.Proofs.Ythdfpddijocfkaa

open Go.RowKit

attribute [local go_sem ↓] Go.wp_at_zero Go.wp_at_succ

theorem zeros_nodes : ∀ n, ndCells (List.replicate n nd0) = List.replicate (n * 6) (Value.int .i64 0)
  | 0 => rfl
  | n + 1 => by
    rw [List.replicate_succ, show (n + 1) * 6 = n * 6 + 1 + 1 + 1 + 1 + 1 + 1 by omega]
    simp only [ndCells, zeros_nodes n, List.replicate_succ]
    rfl
theorem made_nodes (n : Nat) : (madeCells #[Value.int .i64 0, .int .i64 0, .int .i64 0, .int .i64 0, .int .i64 0, .int .i64 0] (n * 6)).toList = ndCells (List.replicate n nd0) := by
  rw [zeros_nodes]
  apply List.ext_getElem
  · simp [madeCells]
  · intro i h1 h2
    simp only [madeCells, Array.toList_map, List.getElem_map, List.getElem_replicate, Array.toList_range, List.getElem_range]
    have : ∀ m, m < 6 → (#[Value.int .i64 0, .int .i64 0, .int .i64 0, .int .i64 0, .int .i64 0, .int .i64 0] : Array Value)[m]! = .int .i64 0 := by
      intro m hm
      match m, hm with
      | 0, _ => rfl
      | 1, _ => rfl
      | 2, _ => rfl
      | 3, _ => rfl
      | 4, _ => rfl
      | 5, _ => rfl
    exact this (i % 6) (Nat.mod_lt _ (by omega))
theorem owns_made6 (w : World) (n : Nat) (hn : n ≤ maxLen) : (w.alloc (.cells (madeCells #[Value.int .i64 0, .int .i64 0, .int .i64 0, .int .i64 0, .int .i64 0, .int .i64 0] (n * 6)) 81)).ownsRow w.heap.size 81 6 (.slice (some ⟨w.heap.size, 0, none⟩) n n) n (ndCells (List.replicate n nd0)) := by
  rw [← made_nodes]
  exact World.ownsRow_lit w _ n (Nat.le_refl _) hn (size_madeCells _ _)
/-- A node of a row set. -/
theorem ndCells_set : ∀ (t : NL) (i : Nat) (n : NdD), i < t.length → ndCells (t.set i n) = ((((((ndCells t).set (i * 6) (.int .i64 n.key)).set (i * 6 + 1) (.int .i64 n.inf)).set (i * 6 + 2) (.int .i64 n.wt)).set (i * 6 + 3) (.int .i64 n.val)).set (i * 6 + 4) (.int .i64 n.l)).set (i * 6 + 5) (.int .i64 n.r)
  | [], i, _, h => by simp at h
  | p :: t, 0, n, _ => by simp [ndCells]
  | p :: t, i + 1, n, h => by
    have ih := ndCells_set t i n (by simpa using h)
    have e : (i + 1) * 6 = i * 6 + 1 + 1 + 1 + 1 + 1 + 1 := by omega
    rw [e]
    simp only [List.set_cons_succ, ndCells]
    rw [ih]
/-- A row of n nodes, the first j as they will be. -/
def halfL (q : NL) (j : Nat) : NL := q.take j ++ List.replicate (q.length - j) nd0
theorem halfL_length (q : NL) (j : Nat) (h : j ≤ q.length) : (halfL q j).length = q.length := by simp [halfL]; omega
theorem halfL_zero (q : NL) : halfL q 0 = List.replicate q.length nd0 := by simp [halfL]
theorem halfL_full (q : NL) : halfL q q.length = q := by simp [halfL]
theorem halfL_at (q : NL) (j : Nat) (h : j < q.length) : ndAt (halfL q j) j = nd0 := by
  unfold ndAt halfL
  rw [List.getD_eq_getElem?_getD, List.getElem?_append_right (by simp; omega)]
  simp only [List.length_take, Nat.min_eq_left (Nat.le_of_lt h), Nat.sub_self]
  rw [List.getElem?_replicate]
  split <;> rfl
theorem halfL_set (q : NL) (j : Nat) (h : j < q.length) : (halfL q j).set j (ndAt q j) = halfL q (j + 1) := by
  have hr : List.replicate (q.length - j) nd0 = nd0 :: List.replicate (q.length - (j + 1)) nd0 := by
    rw [show q.length - j = (q.length - (j + 1)) + 1 by omega, List.replicate_succ]
  unfold halfL
  rw [hr, List.set_append_right _ _ (by simp; omega)]
  simp only [List.length_take, Nat.min_eq_left (Nat.le_of_lt h), Nat.sub_self, List.set_cons_zero]
  rw [List.take_succ_eq_append_getElem h, List.append_assoc]
  congr 1
  simp [ndAt, List.getD_eq_getElem?_getD, List.getElem?_eq_getElem h]
theorem partL_at (t : NL) (L : List Nat) (j : Nat) (h : j < L.length) : ndAt (partL t L) j = renD (atN L L.length) (ndAt t (L.getD j 0)) := by
  unfold ndAt partL
  rw [List.getD_eq_getElem?_getD, List.getElem?_map, List.getElem?_eq_getElem h]
  simp [List.getD_eq_getElem?_getD, List.getElem?_eq_getElem h, ndAt]
theorem renD_leaf {f : Nat → Int} {n : NdD} (h : n.l = -1) : renD f n = n := by unfold renD; rw [if_pos h]
theorem renD_inner {f : Nat → Int} {k0 k1 k2 k3 : Int} {l r : Nat} : renD f ⟨k0, k1, k2, k3, (l : Int), (r : Int)⟩ = ⟨k0, k1, k2, k3, f l, f r⟩ := by
  unfold renD
  rw [if_neg (by simp)]
  simp
theorem atN_bound (L : List Nat) : ∀ i x, 0 ≤ atN L i x ∧ atN L i x ≤ i
  | 0, x => by simp [atN]
  | i + 1, x => by
    have := atN_bound L i x
    simp only [atN]
    split <;> omega
theorem getD_mem {L : List Nat} {j : Nat} (h : j < L.length) : L.getD j 0 ∈ L := by
  rw [List.getD_eq_getElem?_getD, List.getElem?_eq_getElem h]; exact List.getElem_mem h
/-- A row stands when a cell of another block is written. -/
theorem owns_other {w : World} {B sz : Nat} {e : TypeId} {g n cap : Nat} {xs : List Value} (h : w.ownsRow B e sz (.slice (some ⟨g, 0, none⟩) n cap) n xs) (b j : Nat) (u : Value) (hb : b ≠ g) : (w.setCell ⟨b, j, none⟩ u).ownsRow B e sz (.slice (some ⟨g, 0, none⟩) n cap) n xs := by
  obtain ⟨h0, h⟩ := h
  rcases h with ⟨h, _⟩ | ⟨g', cap', cur, hv, hg, hh, r⟩
  · cases h
  · cases hv
    exact ⟨h0, Or.inr ⟨g, cap, cur, rfl, hg, by simp [World.setCell, Array.getElem?_modify, hb, hh], r⟩⟩
/-- The row of nodes, one of them stored. -/
theorem owns_node {w : World} {B g cap n j : Nat} {q : NL} (h : w.ownsRow B 81 6 (.slice (some ⟨g, 0, none⟩) n cap) n (ndCells (halfL q j))) (hj : j < q.length) (k0 k1 k2 k3 k4 k5 : Int) (hd : ndAt q j = ⟨k0, k1, k2, k3, k4, k5⟩) :
    ((((((w.setCell ⟨g, j * 6, none⟩ (.int .i64 k0)).setCell ⟨g, j * 6 + 1, none⟩ (.int .i64 k1)).setCell ⟨g, j * 6 + 2, none⟩ (.int .i64 k2)).setCell ⟨g, j * 6 + 3, none⟩ (.int .i64 k3)).setCell ⟨g, j * 6 + 4, none⟩ (.int .i64 k4)).setCell ⟨g, j * 6 + 5, none⟩ (.int .i64 k5)).ownsRow B 81 6 (.slice (some ⟨g, 0, none⟩) n cap) n (ndCells (halfL q (j + 1))) := by
  rw [← halfL_set q j hj, hd, ndCells_set _ _ _ (by rw [halfL_length q j (by omega)]; exact hj)]
  exact owns_put (owns_put (owns_put (owns_put (owns_put (owns_put h _ _) _ _) _ _) _ _) _ _) _ _
theorem below_six {B g j : Nat} {w w' : World} (h : Below B w w') (hg : B ≤ g) (v0 v1 v2 v3 v4 v5 : Value) : Below B w ((((((w'.setCell ⟨g, j * 6, none⟩ v0).setCell ⟨g, j * 6 + 1, none⟩ v1).setCell ⟨g, j * 6 + 2, none⟩ v2).setCell ⟨g, j * 6 + 3, none⟩ v3).setCell ⟨g, j * 6 + 4, none⟩ v4).setCell ⟨g, j * 6 + 5, none⟩ v5) :=
  (((((h.setCell hg _).setCell hg _).setCell hg _).setCell hg _).setCell hg _).setCell hg _

set_option maxRecDepth 100000 in
set_option maxHeartbeats 2000000 in
theorem below_any (base : Option Addr) (b o c : Nat) (t : NL) (p : Nat) (L : List Nat) (w : World) (h : NodesAt w base b o t) (hT : Tree t p L) (hL : L.length ≤ 1000000) (htl : t.length ≤ 1000000) :
    Calls Try.prog 68 #[.slice base t.length c, .int .i64 p] w fun e w' => ∃ v, e = .returned v ∧ w'.ownsRow w.heap.size 81 6 v L.length (ndCells (partL t L)) ∧ Below w.heap.size w w' := by
  have HA : Hid _ := h
  have HT : Hid _ := hT
  have hlt := hT.lt
  have hLp := hT.pos
  obtain rfl : base = some ⟨b, o, none⟩ := h.base (by omega)
  have hbl := h.lt (by omega)
  clear h hT
  have hmi := run_make_known (P := Try.prog) 23 3 (.int .i64 0) 1 8 ins_under in_info t.length (by omega) (by omega)
  have hmn := run_make_known (P := Try.prog) 22 81 (.agg #[.int .i64 0, .int .i64 0, .int .i64 0, .int .i64 0, .int .i64 0, .int .i64 0]) 6 48 nds_under nd_info L.length (by omega) (by omega)
  go_enter Try.func68, Try.ntmps68
  go_wp2_with (first | (go_at_call 71; refine (order_any _ b o c t p L _ HA.out HT.out hL).mono ?_; rintro e w1 ⟨v, rfl, hown, hb1⟩; obtain ⟨bs1, c1, g1, rfl, hg1, -, hpl⟩ := pls_of_owns hown; obtain rfl : bs1 = some ⟨g1, 0, none⟩ := hpl.base (by omega); have hgl := hpl.lt (by omega); have HP : Hid _ := hpl; have HB1 : Hid _ := hb1; have hz1 := hb1.size; clear hown hpl hb1))
  go_loopw [21] (fun i wr => ∃ j : Nat, j ≤ L.length ∧ i = .int .i64 j ∧ Below w1.heap.size w1 wr ∧ w1.heap.size < wr.heap.size ∧ Ints wr w1.heap.size t.length (fun x => atN L j x)) (fun i _ => L.length - (intOf i).toNat)
  case atStart =>
    refine ⟨0, Nat.zero_le _, rfl, below_alloc _ _, by simp, ?_⟩
    have := zeros_ints w1 3 t.length
    rw [made_zeros]
    exact this
  case round =>
    obtain ⟨j, hj, rfl, hbw, hwz, hI⟩ := hrel
    by_cases hlt1 : j < L.length
    · have v1 := (HP.out.below hbw).cells j hlt1
      have hx : L.getD j 0 < t.length := HT.out.all _ (getD_mem hlt1)
      have HI : Hid (Ints _ _ _ _) := hI
      have HI1 : Hid (∀ W, Ints W w1.heap.size t.length (fun x => atN L j x) → Ints (W.setCell ⟨w1.heap.size, L.getD j 0, none⟩ (.int .i64 (j : Int))) w1.heap.size t.length (fun x => atN L (j + 1) x)) := fun W h => (h.set (L.getD j 0) (j : Int) hx).fn fun x _ => rfl
      generalize L.getD j 0 = x at *
      have f1 := (HI.out x hx).2
      have f2 := (HI.out x hx).1
      have HB : Hid _ := hbw
      have hz := hbw.size
      have x0 : (0 : Int) ≤ (x : Int) := Int.natCast_nonneg _
      have x1 : (x : Int) < (t.length : Int) := by omega
      have j0 : (0 : Int) ≤ (j : Int) := Int.natCast_nonneg _
      have j1 : (j : Int) < (L.length : Int) := by omega
      have hgr : g1 < wr.heap.size := by omega
      clear hbw hI
      go_wp2_with fail
      exact ⟨⟨j + 1, by omega, by go_num, HB.out.setCell (Nat.le_refl _) _, by simpa using hwz, HI1.out _ HI.out⟩, by simp [intOf]; omega⟩
    · obtain rfl : j = L.length := by omega
      have HB : Hid _ := hbw
      have HI : Hid (Ints _ _ _ _) := hI
      have hz := hbw.size
      clear hbw hI
      generalize wr = W1 at *
      go_wp2_with fail
      go_loopw [36] (fun i wr => ∃ j : Nat, j ≤ L.length ∧ i = .int .i64 j ∧ Below W1.heap.size W1 wr ∧ W1.heap.size < wr.heap.size ∧ wr.ownsRow W1.heap.size 81 6 (.slice (some ⟨W1.heap.size, 0, none⟩) L.length L.length) L.length (ndCells (halfL (partL t L) j))) (fun i _ => L.length - (intOf i).toNat)
      case atStart =>
        refine ⟨0, Nat.zero_le _, rfl, below_alloc _ _, by simp, ?_⟩
        rw [halfL_zero, partL_length]
        exact owns_made6 W1 L.length (by unfold maxLen; omega)
      case round =>
        obtain ⟨j, hj, rfl, hbw, hwz2, hown⟩ := hrel
        by_cases hlt1 : j < L.length
        · have v1 := ((HP.out.below HB.out).below hbw).cells j hlt1
          have hx : L.getD j 0 < t.length := HT.out.all _ (getD_mem hlt1)
          have hq : Hid _ := partL_at t L j hlt1
          have hch := HT.out.each _ (getD_mem hlt1)
          have HC : Hid _ := (((HA.out.below HB1.out).below HB.out).below hbw).cells _ hx
          generalize L.getD j 0 = x at *
          have HI2 : Hid (Ints _ _ _ _) := HI.out.below hwz hbw
          have HB2 : Hid _ := hbw
          have HO : Hid (World.ownsRow _ _ _ _ _ _ _) := hown
          have hz2 := hbw.size
          have hu := fun k (hk : k < 6) => (hown.cellAt (j * 6 + k) (by omega))
          obtain ⟨u0, u1, u2, u3, u4, u5⟩ := ndCells_get (halfL (partL t L) j) j (by rw [halfL_length _ _ (by rw [partL_length]; omega), partL_length]; exact hlt1)
          have U : Hid (∀ k, k < 6 → wr.cell? ⟨W1.heap.size, j * 6 + k, none⟩ = some (.int .i64 0)) := by
            rw [halfL_at _ _ (by rw [partL_length]; exact hlt1)] at u0 u1 u2 u3 u4 u5
            intro k hk
            rw [hu k hk]
            match k, hk with
            | 0, _ => exact u0
            | 1, _ => exact u1
            | 2, _ => exact u2
            | 3, _ => exact u3
            | 4, _ => exact u4
            | 5, _ => exact u5
          have V : Hid (∀ k, wr.frozen? ⟨W1.heap.size, k, none⟩ = false) := fun k => hown.frozenAt k
          have x0 : (0 : Int) ≤ (x : Int) := Int.natCast_nonneg _
          have x1 : (x : Int) < (t.length : Int) := by omega
          have j0 : (0 : Int) ≤ (j : Int) := Int.natCast_nonneg _
          have j1 : (j : Int) < (L.length : Int) := by omega
          have hgr : g1 < wr.heap.size := by omega
          have hbr : b < wr.heap.size := by omega
          clear hbw hown hu u0 u1 u2 u3 u4 u5
          rcases hch with ⟨hl, hr⟩ | ⟨l, r, hl, hr, l2, r2, -, -⟩
          · have HLF : Hid _ := leafB_yes (n := ndAt t x) hl hr
            have HQ : Hid (ndAt (partL t L) j = ndAt t x) := by show _ = _; rw [hq.out, renD_leaf hl]
            clear hl hr
            generalize ndAt t x = nd at HC HLF HQ
            obtain ⟨k0, k1, k2, k3, k4, k5⟩ := nd
            simp only at HC
            obtain ⟨c0, c1, c2, c3, c4, c5⟩ := HC.out
            go_wp2_with (first | (go_at_call 70; refine (isLeaf_any _ _ _ _ _ _ _).mono ?_; rintro e w3 ⟨rfl, hb3⟩; rw [HLF.out]; have hz3 := hb3.size; simp only [World.size_alloc] at hz3; have y0 : w3.cell? ⟨wr.heap.size, 0, none⟩ = some (.int .i64 k0) := (hb3.cell (p := ⟨wr.heap.size, 0, none⟩) (by simp)).trans (cell_new wr _ _ 0); have y1 : w3.cell? ⟨wr.heap.size, 1, none⟩ = some (.int .i64 k1) := (hb3.cell (p := ⟨wr.heap.size, 1, none⟩) (by simp)).trans (cell_new wr _ _ 1); have y2 : w3.cell? ⟨wr.heap.size, 2, none⟩ = some (.int .i64 k2) := (hb3.cell (p := ⟨wr.heap.size, 2, none⟩) (by simp)).trans (cell_new wr _ _ 2); have y3 : w3.cell? ⟨wr.heap.size, 3, none⟩ = some (.int .i64 k3) := (hb3.cell (p := ⟨wr.heap.size, 3, none⟩) (by simp)).trans (cell_new wr _ _ 3); have y4 : w3.cell? ⟨wr.heap.size, 4, none⟩ = some (.int .i64 k4) := (hb3.cell (p := ⟨wr.heap.size, 4, none⟩) (by simp)).trans (cell_new wr _ _ 4); have y5 : w3.cell? ⟨wr.heap.size, 5, none⟩ = some (.int .i64 k5) := (hb3.cell (p := ⟨wr.heap.size, 5, none⟩) (by simp)).trans (cell_new wr _ _ 5); have HB3 : Hid (Below wr.heap.size wr w3) := (below_alloc wr _).trans (hb3.mono (by simp)); have t0 : w3.cell? ⟨W1.heap.size, j * 6, none⟩ = some (.int .i64 0) ∧ w3.frozen? ⟨W1.heap.size, j * 6, none⟩ = false := ⟨(HB3.out.cell (p := ⟨W1.heap.size, j * 6 + 0, none⟩) hwz2).trans (U.out 0 (by omega)), (HB3.out.frozen (p := ⟨W1.heap.size, j * 6 + 0, none⟩) hwz2).trans (V.out _)⟩; have t1 : w3.cell? ⟨W1.heap.size, j * 6 + 1, none⟩ = some (.int .i64 0) ∧ w3.frozen? ⟨W1.heap.size, j * 6 + 1, none⟩ = false := ⟨(HB3.out.cell (p := ⟨W1.heap.size, j * 6 + 1, none⟩) hwz2).trans (U.out 1 (by omega)), (HB3.out.frozen (p := ⟨W1.heap.size, j * 6 + 1, none⟩) hwz2).trans (V.out _)⟩; have t2 : w3.cell? ⟨W1.heap.size, j * 6 + 2, none⟩ = some (.int .i64 0) ∧ w3.frozen? ⟨W1.heap.size, j * 6 + 2, none⟩ = false := ⟨(HB3.out.cell (p := ⟨W1.heap.size, j * 6 + 2, none⟩) hwz2).trans (U.out 2 (by omega)), (HB3.out.frozen (p := ⟨W1.heap.size, j * 6 + 2, none⟩) hwz2).trans (V.out _)⟩; have t3 : w3.cell? ⟨W1.heap.size, j * 6 + 3, none⟩ = some (.int .i64 0) ∧ w3.frozen? ⟨W1.heap.size, j * 6 + 3, none⟩ = false := ⟨(HB3.out.cell (p := ⟨W1.heap.size, j * 6 + 3, none⟩) hwz2).trans (U.out 3 (by omega)), (HB3.out.frozen (p := ⟨W1.heap.size, j * 6 + 3, none⟩) hwz2).trans (V.out _)⟩; have t4 : w3.cell? ⟨W1.heap.size, j * 6 + 4, none⟩ = some (.int .i64 0) ∧ w3.frozen? ⟨W1.heap.size, j * 6 + 4, none⟩ = false := ⟨(HB3.out.cell (p := ⟨W1.heap.size, j * 6 + 4, none⟩) hwz2).trans (U.out 4 (by omega)), (HB3.out.frozen (p := ⟨W1.heap.size, j * 6 + 4, none⟩) hwz2).trans (V.out _)⟩; have t5 : w3.cell? ⟨W1.heap.size, j * 6 + 5, none⟩ = some (.int .i64 0) ∧ w3.frozen? ⟨W1.heap.size, j * 6 + 5, none⟩ = false := ⟨(HB3.out.cell (p := ⟨W1.heap.size, j * 6 + 5, none⟩) hwz2).trans (U.out 5 (by omega)), (HB3.out.frozen (p := ⟨W1.heap.size, j * 6 + 5, none⟩) hwz2).trans (V.out _)⟩; clear hb3))
            refine ⟨⟨j + 1, by omega, by go_num, ?_, by simp; omega, ?_⟩, by simp [intOf]; omega⟩
            · exact below_six (HB2.out.trans (HB3.out.mono HB2.out.size)) (Nat.le_refl _) _ _ _ _ _ _
            · exact owns_node (owns_below HO.out HB3.out) (by rw [partL_length]; exact hlt1) k0 k1 k2 k3 k4 k5 HQ.out
          · have HLF : Hid _ := leafB_no (n := ndAt t x) (by omega)
            have l0 : (0 : Int) ≤ (l : Int) := Int.natCast_nonneg _
            have r0 : (0 : Int) ≤ (r : Int) := Int.natCast_nonneg _
            have l3 : (l : Int) < (t.length : Int) := by omega
            have r3 : (r : Int) < (t.length : Int) := by omega
            have hA3 : w1.heap.size < wr.heap.size := by omega
            generalize ndAt t x = nd at HC HLF hq hl hr
            obtain ⟨k0, k1, k2, k3, k4, k5⟩ := nd
            simp only at HC hl hr
            subst hl hr
            have HQ : Hid (ndAt (partL t L) j = ⟨k0, k1, k2, k3, atN L L.length l, atN L L.length r⟩) := hq.out.trans renD_inner
            obtain ⟨c0, c1, c2, c3, c4, c5⟩ := HC.out
            go_wp2_with (first | (go_at_call 70; refine (isLeaf_any _ _ _ _ _ _ _).mono ?_; rintro e w3 ⟨rfl, hb3⟩; rw [HLF.out]; have hz3 := hb3.size; simp only [World.size_alloc] at hz3; have y0 : w3.cell? ⟨wr.heap.size, 0, none⟩ = some (.int .i64 k0) := (hb3.cell (p := ⟨wr.heap.size, 0, none⟩) (by simp)).trans (cell_new wr _ _ 0); have y1 : w3.cell? ⟨wr.heap.size, 1, none⟩ = some (.int .i64 k1) := (hb3.cell (p := ⟨wr.heap.size, 1, none⟩) (by simp)).trans (cell_new wr _ _ 1); have y2 : w3.cell? ⟨wr.heap.size, 2, none⟩ = some (.int .i64 k2) := (hb3.cell (p := ⟨wr.heap.size, 2, none⟩) (by simp)).trans (cell_new wr _ _ 2); have y3 : w3.cell? ⟨wr.heap.size, 3, none⟩ = some (.int .i64 k3) := (hb3.cell (p := ⟨wr.heap.size, 3, none⟩) (by simp)).trans (cell_new wr _ _ 3); have y4 : w3.cell? ⟨wr.heap.size, 4, none⟩ = some (.int .i64 (l : Int)) := (hb3.cell (p := ⟨wr.heap.size, 4, none⟩) (by simp)).trans (cell_new wr _ _ 4); have y5 : w3.cell? ⟨wr.heap.size, 5, none⟩ = some (.int .i64 (r : Int)) := (hb3.cell (p := ⟨wr.heap.size, 5, none⟩) (by simp)).trans (cell_new wr _ _ 5); have HB3 : Hid (Below wr.heap.size wr w3) := (below_alloc wr _).trans (hb3.mono (by simp)); have t0 : w3.cell? ⟨W1.heap.size, j * 6, none⟩ = some (.int .i64 0) ∧ w3.frozen? ⟨W1.heap.size, j * 6, none⟩ = false := ⟨(HB3.out.cell (p := ⟨W1.heap.size, j * 6 + 0, none⟩) hwz2).trans (U.out 0 (by omega)), (HB3.out.frozen (p := ⟨W1.heap.size, j * 6 + 0, none⟩) hwz2).trans (V.out _)⟩; have t1 : w3.cell? ⟨W1.heap.size, j * 6 + 1, none⟩ = some (.int .i64 0) ∧ w3.frozen? ⟨W1.heap.size, j * 6 + 1, none⟩ = false := ⟨(HB3.out.cell (p := ⟨W1.heap.size, j * 6 + 1, none⟩) hwz2).trans (U.out 1 (by omega)), (HB3.out.frozen (p := ⟨W1.heap.size, j * 6 + 1, none⟩) hwz2).trans (V.out _)⟩; have t2 : w3.cell? ⟨W1.heap.size, j * 6 + 2, none⟩ = some (.int .i64 0) ∧ w3.frozen? ⟨W1.heap.size, j * 6 + 2, none⟩ = false := ⟨(HB3.out.cell (p := ⟨W1.heap.size, j * 6 + 2, none⟩) hwz2).trans (U.out 2 (by omega)), (HB3.out.frozen (p := ⟨W1.heap.size, j * 6 + 2, none⟩) hwz2).trans (V.out _)⟩; have t3 : w3.cell? ⟨W1.heap.size, j * 6 + 3, none⟩ = some (.int .i64 0) ∧ w3.frozen? ⟨W1.heap.size, j * 6 + 3, none⟩ = false := ⟨(HB3.out.cell (p := ⟨W1.heap.size, j * 6 + 3, none⟩) hwz2).trans (U.out 3 (by omega)), (HB3.out.frozen (p := ⟨W1.heap.size, j * 6 + 3, none⟩) hwz2).trans (V.out _)⟩; have t4 : w3.cell? ⟨W1.heap.size, j * 6 + 4, none⟩ = some (.int .i64 0) ∧ w3.frozen? ⟨W1.heap.size, j * 6 + 4, none⟩ = false := ⟨(HB3.out.cell (p := ⟨W1.heap.size, j * 6 + 4, none⟩) hwz2).trans (U.out 4 (by omega)), (HB3.out.frozen (p := ⟨W1.heap.size, j * 6 + 4, none⟩) hwz2).trans (V.out _)⟩; have t5 : w3.cell? ⟨W1.heap.size, j * 6 + 5, none⟩ = some (.int .i64 0) ∧ w3.frozen? ⟨W1.heap.size, j * 6 + 5, none⟩ = false := ⟨(HB3.out.cell (p := ⟨W1.heap.size, j * 6 + 5, none⟩) hwz2).trans (U.out 5 (by omega)), (HB3.out.frozen (p := ⟨W1.heap.size, j * 6 + 5, none⟩) hwz2).trans (V.out _)⟩; have HI3 : Hid (Ints w3 _ _ _) := HI2.out.below hA3 HB3.out; have al := (HI3.out l l2).1; have ar := (HI3.out r r2).1; have fl : w3.frozen? ⟨wr.heap.size, 4, none⟩ = false := (hb3.frozen (p := ⟨wr.heap.size, 4, none⟩) (by simp)).trans (by simp); have fr : w3.frozen? ⟨wr.heap.size, 5, none⟩ = false := (hb3.frozen (p := ⟨wr.heap.size, 5, none⟩) (by simp)).trans (by simp); clear hb3))
            go_region
            go_wp2_with fail
            refine ⟨⟨j + 1, by omega, by go_num, ?_, by simp; omega, ?_⟩, by simp [intOf]; omega⟩
            · exact (below_six (((HB2.out.trans (HB3.out.mono HB2.out.size)).setCell (Nat.le_of_lt hwz2) _).setCell (Nat.le_of_lt hwz2) _) (Nat.le_refl _) _ _ _ _ _ _).drew
            · have h1 := owns_other (owns_other (owns_below HO.out HB3.out) wr.heap.size 4 (.int .i64 (atN L L.length l)) (Nat.ne_of_gt hwz2)) wr.heap.size 5 (.int .i64 (atN L L.length r)) (Nat.ne_of_gt hwz2)
              have h2 := owns_node h1 (by rw [partL_length]; exact hlt1) k0 k1 k2 k3 (atN L L.length l) (atN L L.length r) HQ.out
              exact h2.drew
        · obtain rfl : j = L.length := by omega
          have HO : Hid (World.ownsRow _ _ _ _ _ _ _) := hown
          have HB2 : Hid _ := hbw
          clear hown hbw
          go_wp2_with fail
          go_ret
          refine ⟨_, rfl, ?_, ?_⟩
          · have := HO.out
            rw [show halfL (partL t L) L.length = partL t L by have := halfL_full (partL t L); rwa [partL_length] at this] at this
            exact owns_down this (by omega)
          · exact (HB1.out.trans (HB.out.mono HB1.out.size)).trans (HB2.out.mono (by omega))
end Go.Proofs.Ythdfpddijocfkaa
