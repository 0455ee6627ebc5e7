/- Proved: whatever the table, the place and the move, StepsKeeps returns true, and its arguments read as before: the landed calls of steps leave what is handed in as it was, spare room too, and answer memory of their own Layer 18: the law StepsKeeps. Made by mk_skeep.py. -/
import Derived.Test.YthlhbajaogonnaaSLDo
import Derived.Test.YthlhbajaogonnaaSOpen
import Derived.Test.YthlhbajaogonnaaRows

namespace Go.Proofs.Ythlhbajaogonnaa

open Go.RowKit

attribute [local go_sem ↓] Go.wp_at_zero Go.wp_at_succ

theorem owned_set {w : World} {B sz : Nat} {e : TypeId} {v : Value} {n : Nat} {xs : List Value} (h : w.ownsRow B e sz v n xs) (b j : Nat) (u : Value) : ∃ ys, (w.setCell ⟨b, j, none⟩ u).ownsRow B e sz v n ys := by
  rcases Go.Joins.ownsRow_forms h with ⟨rfl, rfl⟩ | ⟨g, cap, rfl⟩
  · obtain ⟨h0, _⟩ := h
    exact ⟨xs, h0, Or.inl ⟨rfl, rfl⟩⟩
  · by_cases e : b = g
    · subst e; exact ⟨_, owns_put h j u⟩
    · exact ⟨_, owns_other h b j u e⟩
theorem owned_cell {w : World} {B sz : Nat} {e : TypeId} {n g cap : Nat} {xs : List Value} (h : w.ownsRow B e sz (.slice (some ⟨g, 0, none⟩) n cap) n xs) {j : Nat} (hj : j < n * sz) : ∃ u, w.cell? ⟨g, j, none⟩ = some u ∧ w.frozen? ⟨g, j, none⟩ = false := by
  have hn : 0 < n := by
    rcases Nat.eq_zero_or_pos n with e | e
    · subst e; omega
    · exact e
  obtain ⟨g', cap', hv, -, -, -, -, hc, hfr⟩ := owns_some h hn
  injection hv with e1 _ _
  injection e1 with e1
  injection e1 with e1 _ _
  subst e1
  have hl : j < xs.length := by rw [h.1]; exact hj
  exact ⟨xs[j], by rw [hc j hj, List.getElem?_eq_getElem hl], hfr j⟩
theorem own_apart {w : World} {B B' sz sz' n n' : Nat} {e e' : TypeId} {v v' : Value} {xs xs' : List Value} (h : w.ownsRow B e sz v n xs) (h' : w.ownsRow B' e' sz' v' n' xs') (he : e ≠ e') : v.ownBlock = none ∨ v.ownBlock ≠ v'.ownBlock := by
  rcases h.2 with ⟨rfl, _⟩ | ⟨g, cap, cur, rfl, _, hg, _⟩
  · exact Or.inl rfl
  · refine Or.inr fun q => ?_
    rcases h'.2 with ⟨rfl, _⟩ | ⟨g', cap', cur', rfl, _, hg', _⟩
    · simp [Value.ownBlock] at q
    · have e1 : g = g' := by simpa [Value.ownBlock] using q
      subst e1
      rw [hg] at hg'
      have := Option.some.inj hg'
      injection this with _ h3 _
      exact he h3
theorem NodesAt.keptB {w z : World} {base : Option Addr} {b o : Nat} {t : NL} (h : NodesAt w base b o t) (hs : w.heap.size ≤ z.heap.size) (hk : t.length ≠ 0 → z.heap[b]? = w.heap[b]?) : NodesAt z base b o t := by
  refine ⟨h.base, fun hn => Nat.lt_of_lt_of_le (h.lt hn) hs, fun i hi => ?_, h.len⟩
  have hb := hk (by omega)
  have q : ∀ j, z.cell? ⟨b, j, none⟩ = w.cell? ⟨b, j, none⟩ := fun j => World.cell?_of_block (w := w) hb
  rw [q, q, q, q, q, q]
  exact h.cells i hi
theorem ItAt.keptB {w z : World} {a : Option Addr} {g : Nat} {V : List Int} (h : ItAt w a g V) (hs : w.heap.size ≤ z.heap.size) (hk : V.length ≠ 0 → z.heap[g]? = w.heap[g]?) : ItAt z a g V := by
  refine ⟨fun hn => ⟨(h.base hn).1, Nat.lt_of_lt_of_le (h.base hn).2 hs⟩, fun j hj => ?_⟩
  rw [World.cell?_of_block (w := w) (a := ⟨g, j, none⟩) (hk (by omega))]
  exact h.cells j hj
theorem MvAt.keptB {w z : World} {T : TypeId} {a : Option Addr} {g : Nat} {V : List MvD} (h : MvAt w T a g V) (hs : w.heap.size ≤ z.heap.size) (hk : V.length ≠ 0 → z.heap[g]? = w.heap[g]?) : MvAt z T a g V := by
  refine ⟨fun hn => ⟨(h.base hn).1, Nat.lt_of_lt_of_le (h.base hn).2 hs⟩, fun j hj => ?_⟩
  rw [World.cell?_of_block (w := w) (a := ⟨g, j * 2, none⟩) (hk (by omega)), World.cell?_of_block (w := w) (a := ⟨g, j * 2 + 1, none⟩) (hk (by omega))]
  exact h.cells j hj
/-- What stays while rows are written over. -/
structure KZ (w Wn : World) (KS : Nat → Prop) (vg vu vx vl : Value) (m u x n : Nat) (z : World) : Prop where
  bel : Below w.heap.size w z
  sz : Wn.heap.size ≤ z.heap.size
  keep : ∀ b, KS b → z.heap[b]? = Wn.heap[b]?
  og : ∃ xs, z.ownsRow w.heap.size 55 6 vg m xs
  ou : ∃ xs, z.ownsRow w.heap.size 55 6 vu u xs
  ox : ∃ xs, z.ownsRow w.heap.size 3 1 vx x xs
  ol : ∃ xs, z.ownsRow w.heap.size 39 2 vl n xs
theorem KZ.set {w Wn z : World} {KS : Nat → Prop} {vg vu vx vl : Value} {m u x n : Nat} (h : KZ w Wn KS vg vu vx vl m u x n z) {b : Nat} (hb : w.heap.size ≤ b) (hk : ¬ KS b) (j : Nat) (v : Value) : KZ w Wn KS vg vu vx vl m u x n (z.setCell ⟨b, j, none⟩ v) := by
  obtain ⟨xg, og⟩ := h.og
  obtain ⟨xu, ou⟩ := h.ou
  obtain ⟨xx, ox⟩ := h.ox
  obtain ⟨xl, ol⟩ := h.ol
  refine ⟨h.bel.setCell hb _, by simpa using h.sz, fun q hq => ?_, owned_set og b j v, owned_set ou b j v, owned_set ox b j v, owned_set ol b j v⟩
  rw [Below.heap_setCell _ _ _ q (fun e => hk (by have e' : q = b := e; rw [← e']; exact hq))]
  exact h.keep q hq
theorem KZ.set6 {w Wn z : World} {KS : Nat → Prop} {vg vu vx vl : Value} {m u x n : Nat} (h : KZ w Wn KS vg vu vx vl m u x n z) {b : Nat} (hb : w.heap.size ≤ b) (hk : ¬ KS b) (j0 j1 j2 j3 j4 j5 : Nat) (v0 v1 v2 v3 v4 v5 : Value) : KZ w Wn KS vg vu vx vl m u x n ((((((z.setCell ⟨b, j0, none⟩ v0).setCell ⟨b, j1, none⟩ v1).setCell ⟨b, j2, none⟩ v2).setCell ⟨b, j3, none⟩ v3).setCell ⟨b, j4, none⟩ v4).setCell ⟨b, j5, none⟩ v5) :=
  (((((h.set hb hk _ _).set hb hk _ _).set hb hk _ _).set hb hk _ _).set hb hk _ _).set hb hk _ _
theorem KZ.grown {w Wn z y : World} {KS : Nat → Prop} {vg vu vx vl : Value} {m u x n : Nat} {o : Obj} (h : KZ w Wn KS vg vu vx vl m u x n z) (hg : (z.alloc o).grownBy y vu.ownBlock) (hk : ∀ b, vu.ownBlock = some b → ¬ KS b) (hl : ∀ b, KS b → b < Wn.heap.size) : KZ w Wn KS (.slice none 0 0) (.slice none 0 0) vx vl 0 0 x n y := by
  obtain ⟨xu, ou⟩ := h.ou
  obtain ⟨xx, ox⟩ := h.ox
  obtain ⟨xl, ol⟩ := h.ol
  have hz : (z.alloc o).heap.size ≤ y.heap.size := (Below.grown (Below.refl 0 _) hg (Nat.zero_le _) (fun _ _ => Nat.zero_le _)).size
  have ba := below_alloc z o
  refine ⟨Below.grown (h.bel.alloc h.bel.size o) hg (by rw [World.size_alloc]; have := h.bel.size; omega) (fun b hb => (owns_lt ou b hb).1), Nat.le_trans h.sz (Nat.le_trans ba.size hz), fun b hb => ?_, ⟨[], World.ownsRow_nil _ _ _ _⟩, ⟨[], World.ownsRow_nil _ _ _ _⟩, ⟨xx, (ox.alloc o).kept hg (own_apart ox ou (by decide))⟩, ⟨xl, (ol.alloc o).kept hg (own_apart ol ou (by decide))⟩⟩
  have lb := hl b hb
  have lz : b < z.heap.size := Nat.lt_of_lt_of_le lb h.sz
  rw [hg.block b (Nat.lt_of_lt_of_le lz ba.size) (fun e => hk b e.symm hb), ba.block b lz]
  exact h.keep b hb
theorem last77 (t : NL) (x y : NdD) : ndAt (t ++ [x, y]) t.length = x ∧ ndAt (t ++ [x, y]) (t.length + 1) = y := by
  unfold ndAt
  constructor
  · rw [List.getD_eq_getElem?_getD, List.getElem?_append_right (Nat.le_refl _)]
    simp
  · rw [List.getD_eq_getElem?_getD, List.getElem?_append_right (Nat.le_succ _), show t.length + 1 - t.length = 1 by omega]
    rfl
theorem NodesAt.first {w : World} {g : Nat} {t : NL} {x y : NdD} (h : NodesAt w (some ⟨g, 0, none⟩) g 0 (t ++ [x, y])) : NodesAt w (some ⟨g, 0, none⟩) g 0 t := by
  refine ⟨fun _ => rfl, fun _ => h.lt (by simp), fun i hi => ?_, by have := h.len; simp at this; omega⟩
  have q := h.cells i (by simp; omega)
  have e : ndAt (t ++ [x, y]) i = ndAt t i := by
    unfold ndAt
    rw [List.getD_eq_getElem?_getD, List.getD_eq_getElem?_getD, List.getElem?_append_left hi]
  rw [e] at q
  exact q
theorem allK_21 : (allK 12).length = 21 := by decide
set_option maxRecDepth 100000 in
set_option maxHeartbeats 16000000 in
theorem stepsKeeps_any (base : Option Addr) (b o c : Nat) (t : NL) (p k : Int) (mi : Bool) (w : World) (h : NodesAt w base b o t) (hnil : base = none → t.length = 0 ∧ c = 0) (hby : t.length * 48 ≤ 140737488351232) :
    Calls Try.prog 4 #[.slice base t.length c, .int .i64 p, .agg #[.int .i64 k, .bool mi]] w fun e w' => e = .returned (.bool true) ∧ Below w.heap.size w w' := by
  have HA : Hid (∀ z, Below w.heap.size w z → NodesAt z base b o t) := fun z hz => h.below hz
  have HN : Hid (base = none → t.length = 0 ∧ c = 0) := hnil
  have B0 : Hid (Below w.heap.size w (w.alloc (.cells #[.int .i64 k, .bool mi] 24))) := below_alloc _ _
  have AW : Hid (∀ W, Calls Try.prog 6 #[] W fun e w' => e = .returned (.bool true) ∧ Below W.heap.size W w') := fun W => awake_any W
  have TV : Hid (∀ W, Calls Try.prog 12 #[.agg #[.int .i64 k, .bool mi]] W fun e w' => e = .returned (.agg #[.int .i64 k, .bool mi]) ∧ Below W.heap.size W w') := fun W => to_any k mi W
  have PC : Hid (∀ (bs : Option Addr) (g o c : Nat) W, NodesAt W bs g o t → Calls Try.prog 11 #[.slice bs t.length c, .int .i64 p, .agg #[.int .i64 k, .bool mi]] W fun e w' => ∃ x y, e = .returned (.tuple #[x, y]) ∧ Below W.heap.size W w') := fun bs g o c W hW => (Can_any bs g o c t p k mi W hW).mono fun e w' ⟨h1, h2⟩ => ⟨_, _, h1, h2⟩
  have RD : Hid (∀ W, NodesAt W base b o t → Calls Try.prog 8 #[.slice base t.length c, .int .i64 p, .agg #[.int .i64 k, .bool mi]] W fun e w' => ∃ v, e = .returned (.tuple #[v, .int .i64 (doE t p k mi)]) ∧ w'.ownsRow W.heap.size 55 6 v (doL t p k mi).length (ndCells (doL t p k mi)) ∧ Below W.heap.size W w') := fun W hW => rDo_any base b o c t p k mi W hW
  have PD : Hid (∀ (bs : Option Addr) (g o c : Nat) W, NodesAt W bs g o t → Calls Try.prog 14 #[.slice bs t.length c, .int .i64 p, .agg #[.int .i64 k, .bool mi]] W fun e w' => ∃ v, e = .returned (.tuple #[v, .int .i64 (doE t p k mi)]) ∧ w'.ownsRow W.heap.size 55 6 v (doL t p k mi).length (ndCells (doL t p k mi)) ∧ Below W.heap.size W w') := fun bs g o c W hW => Do_any bs g o c t p k mi W hW
  have PH : Hid (∀ (bs : Option Addr) (g o c : Nat) W, NodesAt W bs g o t → Calls Try.prog 16 #[.slice bs t.length c, .int .i64 p] W fun e w' => ∃ x y, e = .returned (.tuple #[x, y]) ∧ Below W.heap.size W w') := fun bs g o c W hW => (Here_any bs g o c t p W hW).mono fun e w' ⟨v, h1, h2⟩ => ⟨_, _, h1, h2.below⟩
  have PS : Hid (∀ (bs : Option Addr) (g o c : Nat) W, NodesAt W bs g o t → Calls Try.prog 22 #[.slice bs t.length c] W fun e w' => ∃ x y z, e = .returned (.tuple #[x, y, z]) ∧ Below W.heap.size W w') := fun bs g o c W hW => (Spots_any bs g o c t W hW).mono fun e w' ⟨u, v, h1, h2⟩ => ⟨_, _, _, h1, h2.below⟩
  have RT : Hid (∀ W, NodesAt W base b o t → Calls Try.prog 10 #[.slice base t.length c, .int .i64 p, .agg #[.int .i64 k, .bool mi]] W fun e w' => ∃ v, e = .returned (.tuple #[v, .int .i64 (todoE t p k mi)]) ∧ IntR W w' v (touL t p k mi)) := fun W hW => rTouched_any base b o c t p k mi W hW
  have PO : Hid (∀ (bs : Option Addr) (g o c : Nat) W, NodesAt W bs g o t → Calls Try.prog 19 #[.slice bs t.length c, .int .i64 p, .agg #[.int .i64 k, .bool mi]] W fun e w' => ∃ v, e = .returned (.tuple #[v, .int .i64 (todoE t p k mi)]) ∧ IntR W w' v (touL t p k mi)) := fun bs g o c W hW => Touched_any bs g o c t p k mi W hW
  have PA : Hid (∀ W, Calls Try.prog 21 #[] W fun e w' => ∃ v, e = .returned v ∧ MvRow W w' v (allK 12)) := fun W => All_any W
  have RA : Hid (∀ W, Calls Try.prog 23 #[] W fun e w' => ∃ v, e = .returned v ∧ RvRow W w' v (allK 12)) := fun W => rAll_any W
  have LT : Hid ((touL t p k mi).length ≤ 3000000) := touL_len t p k mi
  have LUd : Hid ((doL t p k mi).length ≤ 1000000) := by
    show _ ≤ _
    by_cases he : doE t p k mi = 0
    · obtain ⟨_, _, _, _, _, _, _, _, _, _, _, D⟩ := dof_of he
      rw [D.dol, D.len]
      have := (formE_ok D.crn.form).1
      omega
    · unfold doL; rw [if_neg he]; simp
  obtain ⟨i0, hi0, hz0, hz1, hz2⟩ := info_parts nd_info
  have KL : Hid ((allK 12).length = 21) := allK_21
  clear h hnil
  generalize doL t p k mi = U at *
  generalize doE t p k mi = e2 at *
  generalize touL t p k mi = I at *
  generalize todoE t p k mi = e4 at *
  generalize allK 12 = V at *
  have LV' : Hid (V.length ≤ 3000000) := by show _ ≤ _; rw [KL.out]; omega
  have tb : (t.length : Int) ≤ 2932031007400 := by omega
  have tb' : t.length ≤ 2932031007400 := by omega
  have t0 : (0 : Int) ≤ (t.length : Int) := Int.natCast_nonneg _
  have t1 : (t.length : Int) < (t.length : Int) + 2 := by omega
  have HT : Hid (t.length * 48 ≤ 140737488351232) := hby
  clear hby
  go_enter Try.func4, Try.ntmps4
  go_wp2_with fail
  refine (AW.out _).mono ?_
  rintro e w1 ⟨rfl, hb⟩
  have B1 : Hid (Below w.heap.size w w1) := B0.out.trans (hb.mono B0.out.size)
  have M1 : Hid (w1.heap[w.heap.size]? = some (.cells #[.int .i64 k, .bool mi] 24 (0, 0))) := (hb.block _ (by simp)).trans (heap_alloc_at _ _ _ rfl)
  have CC : Hid (∀ z, Below w1.heap.size w1 z → w.heap.size < z.heap.size ∧ z.cell? ⟨w.heap.size, 0, none⟩ = some (.int .i64 k) ∧ z.cell? ⟨w.heap.size, 1, none⟩ = some (.bool mi)) := fun z hz => by
    have q := (hz.block _ (Array.getElem?_eq_some_iff.1 M1.out).1).trans M1.out
    exact ⟨(Array.getElem?_eq_some_iff.1 q).1, (cell_of q 0 _ rfl).1, (cell_of q 1 _ rfl).1⟩
  have HB : Hid (∀ z, Below w1.heap.size w1 z → NodesAt z base b o t) := fun z hz => HA.out z (B1.out.trans (hz.mono B1.out.size))
  obtain ⟨ml1, m1, n1⟩ := CC.out w1 (Below.refl _ _)
  have C1 : Hid (Below w1.heap.size w1 w1) := Below.refl _ _
  clear hb
  go_wp2_with fail
  refine (RD.out _ (HB.out _ C1.out)).mono ?_
  rintro e w2 ⟨v, rfl, ho, hb⟩
  obtain ⟨aW, cW, gW, rfl, -, -, hn⟩ := nodes_of_owns ho
  have W_2 : Hid (NodesAt w2 aW gW 0 U) := hn
  have C2 : Hid (Below w1.heap.size w1 w2) := C1.out.trans (hb.mono C1.out.size)
  obtain ⟨ml2, m2, n2⟩ := CC.out w2 C2.out
  clear hb ho hn
  go_wp2_with fail
  refine (RT.out _ (HB.out _ C2.out)).mono ?_
  rintro e w3 ⟨v, rfl, hr⟩
  obtain ⟨aO, cO, gO, rfl, hn⟩ := itAt_of hr.own
  have O_3 : Hid (ItAt w3 aO gO I) := hn
  have W_3 : Hid (NodesAt w3 aW gW 0 U) := W_2.out.below hr.below
  have C3 : Hid (Below w1.heap.size w1 w3) := C2.out.trans (hr.below.mono C2.out.size)
  have DW_3 : Hid (Below w2.heap.size w2 w3) := hr.below
  have s3 := hr.below.size
  obtain ⟨ml3, m3, n3⟩ := CC.out w3 C3.out
  clear hr hn
  have K0 : Hid True := trivial
  have hts : (t.length + 2) * 48 ≤ 140737488355328 := by have := HT.out; omega
  go_wp2_with (first | (at_builtin; have hq := K0; (refine wpList_append_all (by rfl) _ _ _ (by rfl) w3.heap.size 55 i0 _ 6 48 nds_under hi0 hz0 hz1 hz2 rfl (by omega) _ 0 [] (by rfl) ⟨rfl, Or.inr ⟨w3.heap.size, 0, #[], rfl, Nat.le_refl _, heap_alloc_at _ _ _ rfl, Nat.le_refl _, (by unfold maxLen; omega), rfl, rfl⟩⟩ base t.length c (ndCells t) (by rfl) HN.out (ndCells_length _) (nodes_news ((HB.out _ C3.out).below (below_alloc _ _))) (ndCells_all _) (by unfold maxLen; omega) (by omega) (by simp) ?_); intro v2 w4 ho2 hgrow hnl; rw [Nat.zero_add, List.nil_append] at ho2; have O2 : Hid (w4.ownsRow w3.heap.size 55 6 v2 t.length (ndCells t)) := ho2; have B4 : Hid (Below w3.heap.size w3 w4) := Below.grown (below_alloc _ _) hgrow (by simp) (by intro k hk; simp [Value.ownBlock] at hk; omega); have s4 := B4.out.size; clear hgrow hnl ho2 hq K0) | (at_builtin; (refine wpList_append_lies _ (by rfl) _ _ _ (by rfl) w3.heap.size 55 i0 _ 6 48 nds_under hi0 hz0 hz1 hz2 rfl (by omega) _ t.length _ (by rfl) (O2.out.alloc _) ⟨w4.heap.size, 0, none⟩ 2 2 (ndCells [⟨77, 0, 0, 0, 0, 0⟩, ⟨78, 0, 0, 0, 0, 0⟩]) (by rfl) (by rfl) (World.news_of_block (cs := #[.int .i64 77, .int .i64 0, .int .i64 0, .int .i64 0, .int .i64 0, .int .i64 0, .int .i64 78, .int .i64 0, .int .i64 0, .int .i64 0, .int .i64 0, .int .i64 0]) (t := 55) (fr := (0, 0)) (heap_alloc_at _ _ _ (by simp))) (by simp [Value.oneCell', ndCells]) (by omega) (by unfold maxLen; omega) (by omega) (by simp; omega) (w4.heap.size + 1) (by simp) ?_); intro g5 c5 w5 ho5 hg5 hat5 hl5; have O5 : Hid (w5.ownsRow w3.heap.size 55 6 (.slice (some ⟨g5, 0, none⟩) (t.length + 2) c5) (t.length + 2) (ndCells (t ++ [⟨77, 0, 0, 0, 0, 0⟩, ⟨78, 0, 0, 0, 0, 0⟩]))) := (by rw [ndCells_append]; exact ho5); have B5 : Hid (Below w3.heap.size w3 w5) := Below.grown (B4.out.alloc s4 _) hg5 (by rw [World.size_alloc]; omega) (fun k hk => (owns_lt O2.out k hk).1); have lg5 : t.length ≤ c5 := (by obtain ⟨_, _, hv, _, _, hc, _⟩ := owns_some O5.out (by omega); injection hv with _ _ e; omega); have C5 : Hid (Below w1.heap.size w1 w5) := C3.out.trans (B5.out.mono C3.out.size); obtain ⟨ml5, m5, n5⟩ := CC.out w5 C5.out; clear ho5 hg5 hat5 hl5))

  have DW_5 : Hid (Below w2.heap.size w2 w5) := DW_3.out.trans (B5.out.mono DW_3.out.size)
  have DO_5 : Hid (Below w3.heap.size w3 w5) := B5.out
  have DG_5 : Hid (Below w5.heap.size w5 w5) := Below.refl _ _
  have s5 := B5.out.size
  have GB : Hid (w3.heap.size ≤ g5 ∧ g5 < w5.heap.size) := owns_lt O5.out g5 rfl
  have GN : Hid (NodesAt w5 (some ⟨g5, 0, none⟩) g5 0 (t ++ [⟨77, 0, 0, 0, 0, 0⟩, ⟨78, 0, 0, 0, 0, 0⟩])) := nodes_of_cells (fun j hj => O5.out.cellAt j (by simpa using hj)) GB.out.2 (by simp; unfold maxLen; omega)
  go_wp2_with fail
  refine (TV.out _).mono ?_
  rintro e w6 ⟨rfl, hb⟩
  have C6 : Hid (Below w1.heap.size w1 w6) := C5.out.trans (hb.mono C5.out.size)
  have DW_6 : Hid (Below w2.heap.size w2 w6) := DW_5.out.trans (hb.mono DW_5.out.size)
  have DO_6 : Hid (Below w3.heap.size w3 w6) := DO_5.out.trans (hb.mono DO_5.out.size)
  have DG_6 : Hid (Below w5.heap.size w5 w6) := DG_5.out.trans (hb.mono DG_5.out.size)
  have s6 := hb.size
  obtain ⟨ml6, m6, n6⟩ := CC.out w6 C6.out
  clear hb
  go_wp2_with fail
  refine (PD.out _ g5 0 c5 _ (GN.out.first.below DG_6.out)).mono ?_
  rintro e w7 ⟨v, rfl, ho, hb⟩
  obtain ⟨aU, cU, gU, rfl, hlo, -, hn⟩ := nodes_of_owns ho
  have NU_0 : Hid (NodesAt w7 aU gU 0 U) := hn
  have RU : Hid (w7.ownsRow w6.heap.size 55 6 (.slice aU U.length cU) U.length (ndCells U)) := ho
  have LU : Hid (U.length ≠ 0 → w6.heap.size ≤ gU ∧ gU < w7.heap.size) := fun q => ⟨hlo q, hn.lt q⟩
  have C7 : Hid (Below w1.heap.size w1 w7) := C6.out.trans (hb.mono C6.out.size)
  have DW_7 : Hid (Below w2.heap.size w2 w7) := DW_6.out.trans (hb.mono DW_6.out.size)
  have DO_7 : Hid (Below w3.heap.size w3 w7) := DO_6.out.trans (hb.mono DO_6.out.size)
  have DG_7 : Hid (Below w5.heap.size w5 w7) := DG_6.out.trans (hb.mono DG_6.out.size)
  have s7 := hb.size
  obtain ⟨ml7, m7, n7⟩ := CC.out w7 C7.out
  have DU_7 : Hid (Below w7.heap.size w7 w7) := Below.refl _ _
  clear hb ho hn hlo
  go_wp2_with fail
  refine (TV.out _).mono ?_
  rintro e w8 ⟨rfl, hb⟩
  have C8 : Hid (Below w1.heap.size w1 w8) := C7.out.trans (hb.mono C7.out.size)
  have DW_8 : Hid (Below w2.heap.size w2 w8) := DW_7.out.trans (hb.mono DW_7.out.size)
  have DO_8 : Hid (Below w3.heap.size w3 w8) := DO_7.out.trans (hb.mono DO_7.out.size)
  have DG_8 : Hid (Below w5.heap.size w5 w8) := DG_7.out.trans (hb.mono DG_7.out.size)
  have DU_8 : Hid (Below w7.heap.size w7 w8) := DU_7.out.trans (hb.mono DU_7.out.size)
  have s8 := hb.size
  obtain ⟨ml8, m8, n8⟩ := CC.out w8 C8.out
  clear hb
  go_wp2_with fail
  refine (PD.out _ g5 0 c5 _ (GN.out.first.below DG_8.out)).mono ?_
  rintro e w9 ⟨v, rfl, ho, hb⟩
  obtain ⟨aV, cV, gV, rfl, hlo, -, hn⟩ := nodes_of_owns ho
  have NV : Hid (NodesAt w9 aV gV 0 U) := hn
  have RV : Hid (w9.ownsRow w8.heap.size 55 6 (.slice aV U.length cV) U.length (ndCells U)) := ho
  have LV : Hid (U.length ≠ 0 → w8.heap.size ≤ gV ∧ gV < w9.heap.size) := fun q => ⟨hlo q, hn.lt q⟩
  have C9 : Hid (Below w1.heap.size w1 w9) := C8.out.trans (hb.mono C8.out.size)
  have DW_9 : Hid (Below w2.heap.size w2 w9) := DW_8.out.trans (hb.mono DW_8.out.size)
  have DO_9 : Hid (Below w3.heap.size w3 w9) := DO_8.out.trans (hb.mono DO_8.out.size)
  have DG_9 : Hid (Below w5.heap.size w5 w9) := DG_8.out.trans (hb.mono DG_8.out.size)
  have DU_9 : Hid (Below w7.heap.size w7 w9) := DU_8.out.trans (hb.mono DU_8.out.size)
  have s9 := hb.size
  obtain ⟨ml9, m9, n9⟩ := CC.out w9 C9.out
  have DV_9 : Hid (Below w9.heap.size w9 w9) := Below.refl _ _
  clear hb ho hn hlo
  go_wp2_with fail
  refine (TV.out _).mono ?_
  rintro e w10 ⟨rfl, hb⟩
  have C10 : Hid (Below w1.heap.size w1 w10) := C9.out.trans (hb.mono C9.out.size)
  have DW_10 : Hid (Below w2.heap.size w2 w10) := DW_9.out.trans (hb.mono DW_9.out.size)
  have DO_10 : Hid (Below w3.heap.size w3 w10) := DO_9.out.trans (hb.mono DO_9.out.size)
  have DG_10 : Hid (Below w5.heap.size w5 w10) := DG_9.out.trans (hb.mono DG_9.out.size)
  have DU_10 : Hid (Below w7.heap.size w7 w10) := DU_9.out.trans (hb.mono DU_9.out.size)
  have DV_10 : Hid (Below w9.heap.size w9 w10) := DV_9.out.trans (hb.mono DV_9.out.size)
  have s10 := hb.size
  obtain ⟨ml10, m10, n10⟩ := CC.out w10 C10.out
  clear hb
  go_wp2_with fail
  refine (PO.out _ g5 0 c5 _ (GN.out.first.below DG_10.out)).mono ?_
  rintro e w11 ⟨v, rfl, hr⟩
  have hro := hr.own
  obtain ⟨aX, cX, gX, rfl, hn⟩ := itAt_of hr.own
  have NX_0 : Hid (ItAt w11 aX gX I) := hn
  have RX : Hid (w11.ownsRow w10.heap.size 3 1 (.slice aX I.length cX) I.length (I.map (Value.int .i64))) := hro
  have LX : Hid (I.length ≠ 0 → w10.heap.size ≤ gX ∧ gX < w11.heap.size) := fun q => owns_lt hro gX (by rw [(hn.base (by omega)).1]; rfl)
  have C11 : Hid (Below w1.heap.size w1 w11) := C10.out.trans (hr.below.mono C10.out.size)
  have DW_11 : Hid (Below w2.heap.size w2 w11) := DW_10.out.trans (hr.below.mono DW_10.out.size)
  have DO_11 : Hid (Below w3.heap.size w3 w11) := DO_10.out.trans (hr.below.mono DO_10.out.size)
  have DG_11 : Hid (Below w5.heap.size w5 w11) := DG_10.out.trans (hr.below.mono DG_10.out.size)
  have DU_11 : Hid (Below w7.heap.size w7 w11) := DU_10.out.trans (hr.below.mono DU_10.out.size)
  have DV_11 : Hid (Below w9.heap.size w9 w11) := DV_10.out.trans (hr.below.mono DV_10.out.size)
  have s11 := hr.below.size
  obtain ⟨ml11, m11, n11⟩ := CC.out w11 C11.out
  have DX_11 : Hid (Below w11.heap.size w11 w11) := Below.refl _ _
  clear hr hn hro
  go_wp2_with fail
  refine (TV.out _).mono ?_
  rintro e w12 ⟨rfl, hb⟩
  have C12 : Hid (Below w1.heap.size w1 w12) := C11.out.trans (hb.mono C11.out.size)
  have DW_12 : Hid (Below w2.heap.size w2 w12) := DW_11.out.trans (hb.mono DW_11.out.size)
  have DO_12 : Hid (Below w3.heap.size w3 w12) := DO_11.out.trans (hb.mono DO_11.out.size)
  have DG_12 : Hid (Below w5.heap.size w5 w12) := DG_11.out.trans (hb.mono DG_11.out.size)
  have DU_12 : Hid (Below w7.heap.size w7 w12) := DU_11.out.trans (hb.mono DU_11.out.size)
  have DV_12 : Hid (Below w9.heap.size w9 w12) := DV_11.out.trans (hb.mono DV_11.out.size)
  have DX_12 : Hid (Below w11.heap.size w11 w12) := DX_11.out.trans (hb.mono DX_11.out.size)
  have s12 := hb.size
  obtain ⟨ml12, m12, n12⟩ := CC.out w12 C12.out
  clear hb
  go_wp2_with fail
  refine (PO.out _ g5 0 c5 _ (GN.out.first.below DG_12.out)).mono ?_
  rintro e w13 ⟨v, rfl, hr⟩
  have hro := hr.own
  obtain ⟨aY, cY, gY, rfl, hn⟩ := itAt_of hr.own
  have NY : Hid (ItAt w13 aY gY I) := hn
  have RY : Hid (w13.ownsRow w12.heap.size 3 1 (.slice aY I.length cY) I.length (I.map (Value.int .i64))) := hro
  have LY : Hid (I.length ≠ 0 → w12.heap.size ≤ gY ∧ gY < w13.heap.size) := fun q => owns_lt hro gY (by rw [(hn.base (by omega)).1]; rfl)
  have C13 : Hid (Below w1.heap.size w1 w13) := C12.out.trans (hr.below.mono C12.out.size)
  have DW_13 : Hid (Below w2.heap.size w2 w13) := DW_12.out.trans (hr.below.mono DW_12.out.size)
  have DO_13 : Hid (Below w3.heap.size w3 w13) := DO_12.out.trans (hr.below.mono DO_12.out.size)
  have DG_13 : Hid (Below w5.heap.size w5 w13) := DG_12.out.trans (hr.below.mono DG_12.out.size)
  have DU_13 : Hid (Below w7.heap.size w7 w13) := DU_12.out.trans (hr.below.mono DU_12.out.size)
  have DV_13 : Hid (Below w9.heap.size w9 w13) := DV_12.out.trans (hr.below.mono DV_12.out.size)
  have DX_13 : Hid (Below w11.heap.size w11 w13) := DX_12.out.trans (hr.below.mono DX_12.out.size)
  have s13 := hr.below.size
  obtain ⟨ml13, m13, n13⟩ := CC.out w13 C13.out
  have DY_13 : Hid (Below w13.heap.size w13 w13) := Below.refl _ _
  clear hr hn hro
  go_wp2_with fail
  refine (PA.out _).mono ?_
  rintro e w14 ⟨v, rfl, hr⟩
  have hro := hr.own
  obtain ⟨aL, cL, gL, rfl, hn⟩ := mvAt_of hr.own
  have NL_0 : Hid (MvAt w14 39 aL gL V) := hn
  have RL : Hid (w14.ownsRow w13.heap.size 39 2 (.slice aL V.length cL) V.length (mvC V)) := hro
  have LL : Hid (w13.heap.size ≤ gL ∧ gL < w14.heap.size) := owns_lt hro gL (by rw [(hn.base (by rw [KL.out]; omega)).1]; rfl)
  have C14 : Hid (Below w1.heap.size w1 w14) := C13.out.trans (hr.below.mono C13.out.size)
  have DW_14 : Hid (Below w2.heap.size w2 w14) := DW_13.out.trans (hr.below.mono DW_13.out.size)
  have DO_14 : Hid (Below w3.heap.size w3 w14) := DO_13.out.trans (hr.below.mono DO_13.out.size)
  have DG_14 : Hid (Below w5.heap.size w5 w14) := DG_13.out.trans (hr.below.mono DG_13.out.size)
  have DU_14 : Hid (Below w7.heap.size w7 w14) := DU_13.out.trans (hr.below.mono DU_13.out.size)
  have DV_14 : Hid (Below w9.heap.size w9 w14) := DV_13.out.trans (hr.below.mono DV_13.out.size)
  have DX_14 : Hid (Below w11.heap.size w11 w14) := DX_13.out.trans (hr.below.mono DX_13.out.size)
  have DY_14 : Hid (Below w13.heap.size w13 w14) := DY_13.out.trans (hr.below.mono DY_13.out.size)
  have s14 := hr.below.size
  obtain ⟨ml14, m14, n14⟩ := CC.out w14 C14.out
  have DL_14 : Hid (Below w14.heap.size w14 w14) := Below.refl _ _
  clear hr hn hro
  go_wp2_with fail
  refine (PA.out _).mono ?_
  rintro e w15 ⟨v, rfl, hr⟩
  have hro := hr.own
  obtain ⟨aK, cK, gK, rfl, hn⟩ := mvAt_of hr.own
  have NK : Hid (MvAt w15 39 aK gK V) := hn
  have RK : Hid (w15.ownsRow w14.heap.size 39 2 (.slice aK V.length cK) V.length (mvC V)) := hro
  have LK : Hid (w14.heap.size ≤ gK ∧ gK < w15.heap.size) := owns_lt hro gK (by rw [(hn.base (by rw [KL.out]; omega)).1]; rfl)
  have C15 : Hid (Below w1.heap.size w1 w15) := C14.out.trans (hr.below.mono C14.out.size)
  have DW_15 : Hid (Below w2.heap.size w2 w15) := DW_14.out.trans (hr.below.mono DW_14.out.size)
  have DO_15 : Hid (Below w3.heap.size w3 w15) := DO_14.out.trans (hr.below.mono DO_14.out.size)
  have DG_15 : Hid (Below w5.heap.size w5 w15) := DG_14.out.trans (hr.below.mono DG_14.out.size)
  have DU_15 : Hid (Below w7.heap.size w7 w15) := DU_14.out.trans (hr.below.mono DU_14.out.size)
  have DV_15 : Hid (Below w9.heap.size w9 w15) := DV_14.out.trans (hr.below.mono DV_14.out.size)
  have DX_15 : Hid (Below w11.heap.size w11 w15) := DX_14.out.trans (hr.below.mono DX_14.out.size)
  have DY_15 : Hid (Below w13.heap.size w13 w15) := DY_14.out.trans (hr.below.mono DY_14.out.size)
  have DL_15 : Hid (Below w14.heap.size w14 w15) := DL_14.out.trans (hr.below.mono DL_14.out.size)
  have s15 := hr.below.size
  obtain ⟨ml15, m15, n15⟩ := CC.out w15 C15.out
  have DK_15 : Hid (Below w15.heap.size w15 w15) := Below.refl _ _
  clear hr hn hro
  go_wp2_with fail
  refine (TV.out _).mono ?_
  rintro e w16 ⟨rfl, hb⟩
  have C16 : Hid (Below w1.heap.size w1 w16) := C15.out.trans (hb.mono C15.out.size)
  have DW_16 : Hid (Below w2.heap.size w2 w16) := DW_15.out.trans (hb.mono DW_15.out.size)
  have DO_16 : Hid (Below w3.heap.size w3 w16) := DO_15.out.trans (hb.mono DO_15.out.size)
  have DG_16 : Hid (Below w5.heap.size w5 w16) := DG_15.out.trans (hb.mono DG_15.out.size)
  have DU_16 : Hid (Below w7.heap.size w7 w16) := DU_15.out.trans (hb.mono DU_15.out.size)
  have DV_16 : Hid (Below w9.heap.size w9 w16) := DV_15.out.trans (hb.mono DV_15.out.size)
  have DX_16 : Hid (Below w11.heap.size w11 w16) := DX_15.out.trans (hb.mono DX_15.out.size)
  have DY_16 : Hid (Below w13.heap.size w13 w16) := DY_15.out.trans (hb.mono DY_15.out.size)
  have DL_16 : Hid (Below w14.heap.size w14 w16) := DL_15.out.trans (hb.mono DL_15.out.size)
  have DK_16 : Hid (Below w15.heap.size w15 w16) := DK_15.out.trans (hb.mono DK_15.out.size)
  have s16 := hb.size
  obtain ⟨ml16, m16, n16⟩ := CC.out w16 C16.out
  clear hb
  go_wp2_with fail
  refine (PC.out _ g5 0 c5 _ (GN.out.first.below DG_16.out)).mono ?_
  rintro e w17 ⟨x1, y1, rfl, hb⟩
  have C17 : Hid (Below w1.heap.size w1 w17) := C16.out.trans (hb.mono C16.out.size)
  have DW_17 : Hid (Below w2.heap.size w2 w17) := DW_16.out.trans (hb.mono DW_16.out.size)
  have DO_17 : Hid (Below w3.heap.size w3 w17) := DO_16.out.trans (hb.mono DO_16.out.size)
  have DG_17 : Hid (Below w5.heap.size w5 w17) := DG_16.out.trans (hb.mono DG_16.out.size)
  have DU_17 : Hid (Below w7.heap.size w7 w17) := DU_16.out.trans (hb.mono DU_16.out.size)
  have DV_17 : Hid (Below w9.heap.size w9 w17) := DV_16.out.trans (hb.mono DV_16.out.size)
  have DX_17 : Hid (Below w11.heap.size w11 w17) := DX_16.out.trans (hb.mono DX_16.out.size)
  have DY_17 : Hid (Below w13.heap.size w13 w17) := DY_16.out.trans (hb.mono DY_16.out.size)
  have DL_17 : Hid (Below w14.heap.size w14 w17) := DL_16.out.trans (hb.mono DL_16.out.size)
  have DK_17 : Hid (Below w15.heap.size w15 w17) := DK_16.out.trans (hb.mono DK_16.out.size)
  have s17 := hb.size
  obtain ⟨ml17, m17, n17⟩ := CC.out w17 C17.out
  clear hb
  go_wp2_with fail
  refine (PH.out _ g5 0 c5 _ (GN.out.first.below DG_17.out)).mono ?_
  rintro e w18 ⟨x2, y2, rfl, hb⟩
  have C18 : Hid (Below w1.heap.size w1 w18) := C17.out.trans (hb.mono C17.out.size)
  have DW_18 : Hid (Below w2.heap.size w2 w18) := DW_17.out.trans (hb.mono DW_17.out.size)
  have DO_18 : Hid (Below w3.heap.size w3 w18) := DO_17.out.trans (hb.mono DO_17.out.size)
  have DG_18 : Hid (Below w5.heap.size w5 w18) := DG_17.out.trans (hb.mono DG_17.out.size)
  have DU_18 : Hid (Below w7.heap.size w7 w18) := DU_17.out.trans (hb.mono DU_17.out.size)
  have DV_18 : Hid (Below w9.heap.size w9 w18) := DV_17.out.trans (hb.mono DV_17.out.size)
  have DX_18 : Hid (Below w11.heap.size w11 w18) := DX_17.out.trans (hb.mono DX_17.out.size)
  have DY_18 : Hid (Below w13.heap.size w13 w18) := DY_17.out.trans (hb.mono DY_17.out.size)
  have DL_18 : Hid (Below w14.heap.size w14 w18) := DL_17.out.trans (hb.mono DL_17.out.size)
  have DK_18 : Hid (Below w15.heap.size w15 w18) := DK_17.out.trans (hb.mono DK_17.out.size)
  have s18 := hb.size
  obtain ⟨ml18, m18, n18⟩ := CC.out w18 C18.out
  clear hb
  cases hm : decide ((t.length : Int) ≤ 120)
  · go_wp2_with fail
    refine (sameT_same _ _ g5 0 c5 b o c t _ (GN.out.first.below DG_18.out) (HB.out _ C18.out)).mono ?_
    rintro e w19 ⟨rfl, hb⟩
    have C19 : Hid (Below w1.heap.size w1 w19) := C18.out.trans (hb.mono C18.out.size)
    have DW_19 : Hid (Below w2.heap.size w2 w19) := DW_18.out.trans (hb.mono DW_18.out.size)
    have DO_19 : Hid (Below w3.heap.size w3 w19) := DO_18.out.trans (hb.mono DO_18.out.size)
    have DG_19 : Hid (Below w5.heap.size w5 w19) := DG_18.out.trans (hb.mono DG_18.out.size)
    have DU_19 : Hid (Below w7.heap.size w7 w19) := DU_18.out.trans (hb.mono DU_18.out.size)
    have DV_19 : Hid (Below w9.heap.size w9 w19) := DV_18.out.trans (hb.mono DV_18.out.size)
    have DX_19 : Hid (Below w11.heap.size w11 w19) := DX_18.out.trans (hb.mono DX_18.out.size)
    have DY_19 : Hid (Below w13.heap.size w13 w19) := DY_18.out.trans (hb.mono DY_18.out.size)
    have DL_19 : Hid (Below w14.heap.size w14 w19) := DL_18.out.trans (hb.mono DL_18.out.size)
    have DK_19 : Hid (Below w15.heap.size w15 w19) := DK_18.out.trans (hb.mono DK_18.out.size)
    have s19 := hb.size
    obtain ⟨ml19, m19, n19⟩ := CC.out w19 C19.out
    clear hb
    have GF : Hid (NodesAt w19 (some ⟨g5, 0, none⟩) g5 0 (t ++ [⟨77, 0, 0, 0, 0, 0⟩, ⟨78, 0, 0, 0, 0, 0⟩])) := GN.out.below DG_19.out
    have k7 : w19.cell? ⟨g5, t.length * 6, none⟩ = some (.int .i64 77) := by have q := (GF.out.cells t.length (by simp)).1; rw [(last77 t _ _).1, Nat.zero_add] at q; exact q
    have k8 : w19.cell? ⟨g5, (t.length + 1) * 6, none⟩ = some (.int .i64 78) := by have q := (GF.out.cells (t.length + 1) (by simp)).1; rw [(last77 t _ _).2, Nat.zero_add] at q; exact q
    have lg : g5 < w19.heap.size := GF.out.lt (by simp)
    have wr1 : IntKind.i64.wrap ((t.length : Int) + 1) = (t.length : Int) + 1 := wrapo _ (by omega) (by omega)
    have sB : w.heap.size ≤ w1.heap.size := B1.out.size
    have s2 : w1.heap.size ≤ w2.heap.size := C2.out.size
    obtain ⟨KS, hKS⟩ : ∃ KS : Nat → Prop, ∀ q, KS q ↔ ((U.length ≠ 0 ∧ (q = gV ∨ q = gW)) ∨ (I.length ≠ 0 ∧ (q = gY ∨ q = gO)) ∨ q = gK) := ⟨fun q => (U.length ≠ 0 ∧ (q = gV ∨ q = gW)) ∨ (I.length ≠ 0 ∧ (q = gY ∨ q = gO)) ∨ q = gK, fun _ => Iff.rfl⟩
    have WL : Hid (U.length ≠ 0 → gW < w2.heap.size) := fun q => W_2.out.lt q
    have OL : Hid (I.length ≠ 0 → gO < w3.heap.size) := fun q => (O_3.out.base (by omega)).2
    have NG : Hid (¬ KS g5) := by
      show ¬ _
      rw [hKS]
      have h1 := GB.out; have h2 := LV.out; have h3 := LY.out; have h4 := LK.out; have h5 := WL.out; have h6 := OL.out
      rintro (⟨q1, q2 | q2⟩ | ⟨q1, q2 | q2⟩ | q2)
      · have := h2 q1; omega
      · have := h5 q1; omega
      · have := h3 q1; omega
      · have := h6 q1; omega
      · omega
    have NU : Hid (∀ q, Value.ownBlock (.slice aU U.length cU) = some q → w.heap.size ≤ q ∧ ¬ KS q) := fun q hq => by
      have h1 := owns_lt RU.out q hq
      refine ⟨by omega, ?_⟩
      rw [hKS]
      have h2 := LV.out; have h3 := LY.out; have h4 := LK.out; have h5 := WL.out; have h6 := OL.out
      rintro (⟨q1, q2 | q2⟩ | ⟨q1, q2 | q2⟩ | q2)
      · have := h2 q1; omega
      · have := h5 q1; omega
      · have := h3 q1; omega
      · have := h6 q1; omega
      · omega
    have NX : Hid (∀ q, Value.ownBlock (.slice aX I.length cX) = some q → w.heap.size ≤ q ∧ ¬ KS q) := fun q hq => by
      have h1 := owns_lt RX.out q hq
      refine ⟨by omega, ?_⟩
      rw [hKS]
      have h2 := LV.out; have h3 := LY.out; have h4 := LK.out; have h5 := WL.out; have h6 := OL.out
      rintro (⟨q1, q2 | q2⟩ | ⟨q1, q2 | q2⟩ | q2)
      · have := h2 q1; omega
      · have := h5 q1; omega
      · have := h3 q1; omega
      · have := h6 q1; omega
      · omega
    have NL' : Hid (∀ q, Value.ownBlock (.slice aL V.length cL) = some q → w.heap.size ≤ q ∧ ¬ KS q) := fun q hq => by
      have h1 := owns_lt RL.out q hq
      refine ⟨by omega, ?_⟩
      rw [hKS]
      have h2 := LV.out; have h3 := LY.out; have h4 := LK.out; have h5 := WL.out; have h6 := OL.out
      rintro (⟨q1, q2 | q2⟩ | ⟨q1, q2 | q2⟩ | q2)
      · have := h2 q1; omega
      · have := h5 q1; omega
      · have := h3 q1; omega
      · have := h6 q1; omega
      · omega
    have KLt : Hid (∀ q, KS q → q < w19.heap.size) := fun q hq => by
      have h2 := LV.out; have h3 := LY.out; have h4 := LK.out; have h5 := WL.out; have h6 := OL.out
      have e1 := DV_19.out.size; have e2 := DY_19.out.size; have e3 := DK_19.out.size; have e4 := DW_19.out.size; have e5 := DO_19.out.size
      rcases (hKS q).1 hq with ⟨q1, q2 | q2⟩ | ⟨q1, q2 | q2⟩ | q2
      · have := h2 q1; omega
      · have := h5 q1; omega
      · have := h3 q1; omega
      · have := h6 q1; omega
      · omega
    have FV : Hid (∀ z, w19.heap.size ≤ z.heap.size → (∀ q, KS q → z.heap[q]? = w19.heap[q]?) → NodesAt z aV gV 0 U ∧ NodesAt z aW gW 0 U ∧ ItAt z aY gY I ∧ ItAt z aO gO I ∧ MvAt z 39 aK gK V) := fun z hz hk =>
      ⟨(NV.out.below DV_19.out).keptB hz (fun q => hk _ ((hKS _).2 (Or.inl ⟨q, Or.inl rfl⟩))), (W_2.out.below DW_19.out).keptB hz (fun q => hk _ ((hKS _).2 (Or.inl ⟨q, Or.inr rfl⟩))), (NY.out.below DY_19.out).keptB hz (fun q => hk _ ((hKS _).2 (Or.inr (Or.inl ⟨q, Or.inl rfl⟩)))), (O_3.out.below DO_19.out).keptB hz (fun q => hk _ ((hKS _).2 (Or.inr (Or.inl ⟨q, Or.inr rfl⟩)))), (NK.out.below DK_19.out).keptB hz (fun _ => hk _ ((hKS _).2 (Or.inr (Or.inr rfl))))⟩
    have BN : Hid (Below w.heap.size w w19) := B1.out.trans (C19.out.mono B1.out.size)
    have Z0 : Hid (KZ w w19 KS (.slice (some ⟨g5, 0, none⟩) (t.length + 2) c5) (.slice aU U.length cU) (.slice aX I.length cX) (.slice aL V.length cL) (t.length + 2) U.length I.length V.length w19) := ⟨BN.out, Nat.le_refl _, fun _ _ => rfl, ⟨_, owns_down (owns_below O5.out DG_19.out) (by omega)⟩, ⟨_, owns_down (owns_below RU.out DU_19.out) (by omega)⟩, ⟨_, owns_down (owns_below RX.out DX_19.out) (by omega)⟩, ⟨_, owns_down (owns_below RL.out DL_19.out) (by omega)⟩⟩
    have UB : Hid (U.length ≠ 0 → aU = some ⟨gU, 0, none⟩) := fun q => NU_0.out.base q
    have XB : Hid (0 < I.length → aX = some ⟨gX, 0, none⟩) := fun q => (NX_0.out.base q).1
    have LB : Hid (0 < V.length → aL = some ⟨gL, 0, none⟩) := fun q => (NL_0.out.base q).1
    have gb5 : w.heap.size ≤ g5 := by have := GB.out; omega
    have lu1 : (U.length : Int) ≤ 1000000 := by have := LUd.out; omega
    have li1 : (I.length : Int) ≤ 3000000 := by have := LT.out; omega
    have lv1 : (V.length : Int) ≤ 3000000 := by have := LV'.out; omega
    generalize w19 = Wn at *
    go_wp2_with fail
    go_loopw [126] (fun i z => ∃ j : Nat, j ≤ t.length ∧ i = .int .i64 j ∧ KZ w Wn KS (.slice (some ⟨g5, 0, none⟩) (t.length + 2) c5) (.slice aU U.length cU) (.slice aX I.length cX) (.slice aL V.length cL) (t.length + 2) U.length I.length V.length z) (fun i _ => t.length - (intOf i).toNat)
    case atStart => exact ⟨0, Nat.zero_le _, rfl, Z0.out⟩
    case round =>
      obtain ⟨j, hj, rfl, hZ⟩ := hrel
      have j0 : (0 : Int) ≤ (j : Int) := Int.natCast_nonneg _
      have ZJ : Hid (KZ w Wn KS (.slice (some ⟨g5, 0, none⟩) (t.length + 2) c5) (.slice aU U.length cU) (.slice aX I.length cX) (.slice aL V.length cL) (t.length + 2) U.length I.length V.length wr) := hZ
      by_cases hlt : j < t.length
      · obtain ⟨xg, og⟩ := hZ.og
        obtain ⟨d0, y0⟩ := owned_cell og (j := j * 6) (by omega)
        obtain ⟨d1, y1⟩ := owned_cell og (j := j * 6 + 1) (by omega)
        obtain ⟨d2, y2⟩ := owned_cell og (j := j * 6 + 2) (by omega)
        obtain ⟨d3, y3⟩ := owned_cell og (j := j * 6 + 3) (by omega)
        obtain ⟨d4, y4⟩ := owned_cell og (j := j * 6 + 4) (by omega)
        obtain ⟨d5, y5⟩ := owned_cell og (j := j * 6 + 5) (by omega)
        have lg5' : g5 < wr.heap.size := (owns_lt og g5 rfl).2
        have jlt : (j : Int) < (t.length : Int) := by omega
        clear hZ og
        go_wp2_with fail
        exact ⟨⟨j + 1, by omega, by go_num, ZJ.out.set6 gb5 NG.out _ _ _ _ _ _ _ _ _ _ _ _⟩, by simp [intOf]; omega⟩
      · have nlt : ¬ ((j : Int) < (t.length : Int)) := by omega
        clear hZ
        generalize wr = WA at *
        go_wp2_with fail
        go_loopw [136] (fun i z => ∃ j : Nat, j ≤ U.length ∧ i = .int .i64 j ∧ KZ w Wn KS (.slice (some ⟨g5, 0, none⟩) (t.length + 2) c5) (.slice aU U.length cU) (.slice aX I.length cX) (.slice aL V.length cL) (t.length + 2) U.length I.length V.length z) (fun i _ => U.length - (intOf i).toNat)
        case atStart => exact ⟨0, Nat.zero_le _, rfl, ZJ.out⟩
        case round =>
          obtain ⟨j2, hj2, rfl, hZ⟩ := hrel
          have j20 : (0 : Int) ≤ (j2 : Int) := Int.natCast_nonneg _
          have ZK : Hid (KZ w Wn KS (.slice (some ⟨g5, 0, none⟩) (t.length + 2) c5) (.slice aU U.length cU) (.slice aX I.length cX) (.slice aL V.length cL) (t.length + 2) U.length I.length V.length wr) := hZ
          by_cases hlt2 : j2 < U.length
          · have eU := UB.out (by omega)
            subst eU
            obtain ⟨xu, ou⟩ := hZ.ou
            obtain ⟨d0, y0⟩ := owned_cell ou (j := j2 * 6) (by omega)
            obtain ⟨d1, y1⟩ := owned_cell ou (j := j2 * 6 + 1) (by omega)
            obtain ⟨d2, y2⟩ := owned_cell ou (j := j2 * 6 + 2) (by omega)
            obtain ⟨d3, y3⟩ := owned_cell ou (j := j2 * 6 + 3) (by omega)
            obtain ⟨d4, y4⟩ := owned_cell ou (j := j2 * 6 + 4) (by omega)
            obtain ⟨d5, y5⟩ := owned_cell ou (j := j2 * 6 + 5) (by omega)
            have lgU : gU < wr.heap.size := (owns_lt ou gU rfl).2
            have jlt2 : (j2 : Int) < (U.length : Int) := by omega
            have NUg := NU.out gU rfl
            have NUH : Hid (w.heap.size ≤ gU ∧ ¬ KS gU) := NUg
            clear hZ ou NUg
            go_wp2_with fail
            exact ⟨⟨j2 + 1, by omega, by go_num, ZK.out.set6 NUH.out.1 NUH.out.2 _ _ _ _ _ _ _ _ _ _ _ _⟩, by simp [intOf]; omega⟩
          · have nlt2 : ¬ ((j2 : Int) < (U.length : Int)) := by omega
            obtain ⟨xu, ou⟩ := hZ.ou
            have OU : Hid (wr.ownsRow w.heap.size 55 6 (.slice aU U.length cU) U.length xu) := ou
            have sw : w.heap.size ≤ wr.heap.size := hZ.bel.size
            have lU : U.length ≤ 1000000 := LUd.out
            clear hZ ou
            generalize wr = WB at *
            go_wp2_with (first | (at_builtin; (refine wpList_append_lies _ (by rfl) _ _ _ (by rfl) w.heap.size 55 i0 _ 6 48 nds_under hi0 hz0 hz1 hz2 rfl (by omega) _ U.length _ (by rfl) (OU.out.alloc _) ⟨WB.heap.size, 0, none⟩ 2 2 (ndCells [⟨0, 0, 0, 0, 0, 0⟩, ⟨0, 0, 0, 0, 0, 0⟩]) (by rfl) (by rfl) (World.news_of_block (cs := #[.int .i64 0, .int .i64 0, .int .i64 0, .int .i64 0, .int .i64 0, .int .i64 0, .int .i64 0, .int .i64 0, .int .i64 0, .int .i64 0, .int .i64 0, .int .i64 0]) (t := 55) (fr := (0, 0)) (heap_alloc_at _ _ _ (by simp))) (by simp [Value.oneCell', ndCells]) (by omega) (by unfold maxLen; omega) (by omega) (by simp; omega) (WB.heap.size + 1) (by simp) ?_); intro g6 c6 wC ho hg hat hl; have ZC : Hid (KZ w Wn KS (.slice none 0 0) (.slice none 0 0) (.slice aX I.length cX) (.slice aL V.length cL) 0 0 I.length V.length wC) := ZK.out.grown hg (fun q hq => (NU.out q hq).2) KLt.out; clear ho hg hat hl))
            go_loopw [151] (fun i z => ∃ j : Nat, j ≤ I.length ∧ i = .int .i64 j ∧ KZ w Wn KS (.slice none 0 0) (.slice none 0 0) (.slice aX I.length cX) (.slice aL V.length cL) 0 0 I.length V.length z) (fun i _ => I.length - (intOf i).toNat)
            case atStart => exact ⟨0, Nat.zero_le _, rfl, ZC.out⟩
            case round =>
              obtain ⟨j3, hj3, rfl, hZ⟩ := hrel
              have j30 : (0 : Int) ≤ (j3 : Int) := Int.natCast_nonneg _
              have ZL : Hid (KZ w Wn KS (.slice none 0 0) (.slice none 0 0) (.slice aX I.length cX) (.slice aL V.length cL) 0 0 I.length V.length wr) := hZ
              by_cases hlt3 : j3 < I.length
              · have eX := XB.out (by omega)
                subst eX
                obtain ⟨xx, ox⟩ := hZ.ox
                obtain ⟨d0, y0⟩ := owned_cell ox (j := j3) (by omega)
                have lgX : gX < wr.heap.size := (owns_lt ox gX rfl).2
                have jlt3 : (j3 : Int) < (I.length : Int) := by omega
                have NXH : Hid (w.heap.size ≤ gX ∧ ¬ KS gX) := NX.out gX rfl
                obtain ⟨y0a, y0b⟩ := y0
                clear hZ ox
                go_wp2_with fail
                exact ⟨⟨j3 + 1, by omega, by go_num, ZL.out.set NXH.out.1 NXH.out.2 _ _⟩, by simp [intOf]; omega⟩
              · have nlt3 : ¬ ((j3 : Int) < (I.length : Int)) := by omega
                clear hZ
                generalize wr = WD at *
                go_wp2_with fail
                go_loopw [160] (fun i z => ∃ j : Nat, j ≤ V.length ∧ i = .int .i64 j ∧ KZ w Wn KS (.slice none 0 0) (.slice none 0 0) (.slice aX I.length cX) (.slice aL V.length cL) 0 0 I.length V.length z) (fun i _ => V.length - (intOf i).toNat)
                case atStart => exact ⟨0, Nat.zero_le _, rfl, ZL.out⟩
                case round =>
                  obtain ⟨j4, hj4, rfl, hZ⟩ := hrel
                  have j40 : (0 : Int) ≤ (j4 : Int) := Int.natCast_nonneg _
                  have ZM : Hid (KZ w Wn KS (.slice none 0 0) (.slice none 0 0) (.slice aX I.length cX) (.slice aL V.length cL) 0 0 I.length V.length wr) := hZ
                  by_cases hlt4 : j4 < V.length
                  · have eL := LB.out (by omega)
                    subst eL
                    obtain ⟨xl, ol⟩ := hZ.ol
                    obtain ⟨d0, y0⟩ := owned_cell ol (j := j4 * 2) (by omega)
                    obtain ⟨d1, y1⟩ := owned_cell ol (j := j4 * 2 + 1) (by omega)
                    have lgL : gL < wr.heap.size := (owns_lt ol gL rfl).2
                    have jlt4 : (j4 : Int) < (V.length : Int) := by omega
                    have NLH : Hid (w.heap.size ≤ gL ∧ ¬ KS gL) := NL'.out gL rfl
                    clear hZ ol
                    go_wp2_with fail
                    exact ⟨⟨j4 + 1, by omega, by go_num, (ZM.out.set NLH.out.1 NLH.out.2 _ _).set NLH.out.1 NLH.out.2 _ _⟩, by simp [intOf]; omega⟩
                  · have nlt4 : ¬ ((j4 : Int) < (V.length : Int)) := by omega
                    obtain ⟨f1, f2, f3, f4, f5⟩ := FV.out wr hZ.sz hZ.keep
                    have F1 : Hid (NodesAt wr aV gV 0 U) := f1
                    have F2 : Hid (NodesAt wr aW gW 0 U) := f2
                    have F3 : Hid (ItAt wr aY gY I) := f3
                    have F4 : Hid (ItAt wr aO gO I) := f4
                    have F5 : Hid (MvAt wr 39 aK gK V) := f5
                    have FB : Hid (Below w.heap.size w wr) := hZ.bel
                    clear hZ f1 f2 f3 f4 f5 ZM
                    generalize wr = WE at *
                    go_wp2_with fail
                    refine (sameT_same _ _ _ _ _ _ _ _ U _ F1.out F2.out).mono ?_
                    rintro e x1 ⟨rfl, hb⟩
                    have X1 : Hid (Below WE.heap.size WE x1) := hb
                    clear hb
                    go_wp2_with fail
                    refine (ints_same _ _ _ _ _ _ I _ (F3.out.below X1.out) (F4.out.below X1.out) LT.out).mono ?_
                    rintro e x2 ⟨rfl, hb⟩
                    have X2 : Hid (Below WE.heap.size WE x2) := X1.out.trans (hb.mono X1.out.size)
                    clear hb
                    go_wp2_with fail
                    refine (from_any _ _ _ _ V _ (F5.out.below X2.out) LV'.out).mono ?_
                    rintro e x3 ⟨v3, rfl, hr⟩
                    obtain ⟨a3, c3, g3, rfl, hn⟩ := mvAt_of hr.own
                    have N3 : Hid (MvAt x3 24 a3 g3 V) := hn
                    have X3 : Hid (Below WE.heap.size WE x3) := X2.out.trans (hr.below.mono X2.out.size)
                    clear hr hn
                    go_wp2_with fail
                    refine (RA.out _).mono ?_
                    rintro e x4 ⟨v4, rfl, hr⟩
                    obtain ⟨a4, c4, g4, rfl, hn⟩ := mvAt_of hr.own
                    have N4 : Hid (MvAt x4 24 a4 g4 V) := hn
                    have N3' : Hid (MvAt x4 24 a3 g3 V) := N3.out.below hr.below
                    have X4 : Hid (Below WE.heap.size WE x4) := X3.out.trans (hr.below.mono X3.out.size)
                    clear hr hn
                    go_wp2_with fail
                    refine (sameMoves_same _ _ _ _ _ _ _ _ V _ N3'.out N4.out LV'.out).mono ?_
                    rintro e x5 ⟨rfl, hb⟩
                    have X5 : Hid (Below WE.heap.size WE x5) := X4.out.trans (hb.mono X4.out.size)
                    clear hb
                    go_wp2_with fail
                    go_ret
                    exact ⟨rfl, FB.out.trans (X5.out.mono FB.out.size)⟩
  · go_wp2_with fail
    refine (PS.out _ g5 0 c5 _ (GN.out.first.below DG_18.out)).mono ?_
    rintro e w19 ⟨x3, y3, z3, rfl, hb⟩
    have C19 : Hid (Below w1.heap.size w1 w19) := C18.out.trans (hb.mono C18.out.size)
    have DW_19 : Hid (Below w2.heap.size w2 w19) := DW_18.out.trans (hb.mono DW_18.out.size)
    have DO_19 : Hid (Below w3.heap.size w3 w19) := DO_18.out.trans (hb.mono DO_18.out.size)
    have DG_19 : Hid (Below w5.heap.size w5 w19) := DG_18.out.trans (hb.mono DG_18.out.size)
    have DU_19 : Hid (Below w7.heap.size w7 w19) := DU_18.out.trans (hb.mono DU_18.out.size)
    have DV_19 : Hid (Below w9.heap.size w9 w19) := DV_18.out.trans (hb.mono DV_18.out.size)
    have DX_19 : Hid (Below w11.heap.size w11 w19) := DX_18.out.trans (hb.mono DX_18.out.size)
    have DY_19 : Hid (Below w13.heap.size w13 w19) := DY_18.out.trans (hb.mono DY_18.out.size)
    have DL_19 : Hid (Below w14.heap.size w14 w19) := DL_18.out.trans (hb.mono DL_18.out.size)
    have DK_19 : Hid (Below w15.heap.size w15 w19) := DK_18.out.trans (hb.mono DK_18.out.size)
    have s19 := hb.size
    obtain ⟨ml19, m19, n19⟩ := CC.out w19 C19.out
    clear hb
    go_wp2_with fail
    refine (sameT_same _ _ g5 0 c5 b o c t _ (GN.out.first.below DG_19.out) (HB.out _ C19.out)).mono ?_
    rintro e w20 ⟨rfl, hb⟩
    have C20 : Hid (Below w1.heap.size w1 w20) := C19.out.trans (hb.mono C19.out.size)
    have DW_20 : Hid (Below w2.heap.size w2 w20) := DW_19.out.trans (hb.mono DW_19.out.size)
    have DO_20 : Hid (Below w3.heap.size w3 w20) := DO_19.out.trans (hb.mono DO_19.out.size)
    have DG_20 : Hid (Below w5.heap.size w5 w20) := DG_19.out.trans (hb.mono DG_19.out.size)
    have DU_20 : Hid (Below w7.heap.size w7 w20) := DU_19.out.trans (hb.mono DU_19.out.size)
    have DV_20 : Hid (Below w9.heap.size w9 w20) := DV_19.out.trans (hb.mono DV_19.out.size)
    have DX_20 : Hid (Below w11.heap.size w11 w20) := DX_19.out.trans (hb.mono DX_19.out.size)
    have DY_20 : Hid (Below w13.heap.size w13 w20) := DY_19.out.trans (hb.mono DY_19.out.size)
    have DL_20 : Hid (Below w14.heap.size w14 w20) := DL_19.out.trans (hb.mono DL_19.out.size)
    have DK_20 : Hid (Below w15.heap.size w15 w20) := DK_19.out.trans (hb.mono DK_19.out.size)
    have s20 := hb.size
    obtain ⟨ml20, m20, n20⟩ := CC.out w20 C20.out
    clear hb
    have GF : Hid (NodesAt w20 (some ⟨g5, 0, none⟩) g5 0 (t ++ [⟨77, 0, 0, 0, 0, 0⟩, ⟨78, 0, 0, 0, 0, 0⟩])) := GN.out.below DG_20.out
    have k7 : w20.cell? ⟨g5, t.length * 6, none⟩ = some (.int .i64 77) := by have q := (GF.out.cells t.length (by simp)).1; rw [(last77 t _ _).1, Nat.zero_add] at q; exact q
    have k8 : w20.cell? ⟨g5, (t.length + 1) * 6, none⟩ = some (.int .i64 78) := by have q := (GF.out.cells (t.length + 1) (by simp)).1; rw [(last77 t _ _).2, Nat.zero_add] at q; exact q
    have lg : g5 < w20.heap.size := GF.out.lt (by simp)
    have wr1 : IntKind.i64.wrap ((t.length : Int) + 1) = (t.length : Int) + 1 := wrapo _ (by omega) (by omega)
    have sB : w.heap.size ≤ w1.heap.size := B1.out.size
    have s2 : w1.heap.size ≤ w2.heap.size := C2.out.size
    obtain ⟨KS, hKS⟩ : ∃ KS : Nat → Prop, ∀ q, KS q ↔ ((U.length ≠ 0 ∧ (q = gV ∨ q = gW)) ∨ (I.length ≠ 0 ∧ (q = gY ∨ q = gO)) ∨ q = gK) := ⟨fun q => (U.length ≠ 0 ∧ (q = gV ∨ q = gW)) ∨ (I.length ≠ 0 ∧ (q = gY ∨ q = gO)) ∨ q = gK, fun _ => Iff.rfl⟩
    have WL : Hid (U.length ≠ 0 → gW < w2.heap.size) := fun q => W_2.out.lt q
    have OL : Hid (I.length ≠ 0 → gO < w3.heap.size) := fun q => (O_3.out.base (by omega)).2
    have NG : Hid (¬ KS g5) := by
      show ¬ _
      rw [hKS]
      have h1 := GB.out; have h2 := LV.out; have h3 := LY.out; have h4 := LK.out; have h5 := WL.out; have h6 := OL.out
      rintro (⟨q1, q2 | q2⟩ | ⟨q1, q2 | q2⟩ | q2)
      · have := h2 q1; omega
      · have := h5 q1; omega
      · have := h3 q1; omega
      · have := h6 q1; omega
      · omega
    have NU : Hid (∀ q, Value.ownBlock (.slice aU U.length cU) = some q → w.heap.size ≤ q ∧ ¬ KS q) := fun q hq => by
      have h1 := owns_lt RU.out q hq
      refine ⟨by omega, ?_⟩
      rw [hKS]
      have h2 := LV.out; have h3 := LY.out; have h4 := LK.out; have h5 := WL.out; have h6 := OL.out
      rintro (⟨q1, q2 | q2⟩ | ⟨q1, q2 | q2⟩ | q2)
      · have := h2 q1; omega
      · have := h5 q1; omega
      · have := h3 q1; omega
      · have := h6 q1; omega
      · omega
    have NX : Hid (∀ q, Value.ownBlock (.slice aX I.length cX) = some q → w.heap.size ≤ q ∧ ¬ KS q) := fun q hq => by
      have h1 := owns_lt RX.out q hq
      refine ⟨by omega, ?_⟩
      rw [hKS]
      have h2 := LV.out; have h3 := LY.out; have h4 := LK.out; have h5 := WL.out; have h6 := OL.out
      rintro (⟨q1, q2 | q2⟩ | ⟨q1, q2 | q2⟩ | q2)
      · have := h2 q1; omega
      · have := h5 q1; omega
      · have := h3 q1; omega
      · have := h6 q1; omega
      · omega
    have NL' : Hid (∀ q, Value.ownBlock (.slice aL V.length cL) = some q → w.heap.size ≤ q ∧ ¬ KS q) := fun q hq => by
      have h1 := owns_lt RL.out q hq
      refine ⟨by omega, ?_⟩
      rw [hKS]
      have h2 := LV.out; have h3 := LY.out; have h4 := LK.out; have h5 := WL.out; have h6 := OL.out
      rintro (⟨q1, q2 | q2⟩ | ⟨q1, q2 | q2⟩ | q2)
      · have := h2 q1; omega
      · have := h5 q1; omega
      · have := h3 q1; omega
      · have := h6 q1; omega
      · omega
    have KLt : Hid (∀ q, KS q → q < w20.heap.size) := fun q hq => by
      have h2 := LV.out; have h3 := LY.out; have h4 := LK.out; have h5 := WL.out; have h6 := OL.out
      have e1 := DV_20.out.size; have e2 := DY_20.out.size; have e3 := DK_20.out.size; have e4 := DW_20.out.size; have e5 := DO_20.out.size
      rcases (hKS q).1 hq with ⟨q1, q2 | q2⟩ | ⟨q1, q2 | q2⟩ | q2
      · have := h2 q1; omega
      · have := h5 q1; omega
      · have := h3 q1; omega
      · have := h6 q1; omega
      · omega
    have FV : Hid (∀ z, w20.heap.size ≤ z.heap.size → (∀ q, KS q → z.heap[q]? = w20.heap[q]?) → NodesAt z aV gV 0 U ∧ NodesAt z aW gW 0 U ∧ ItAt z aY gY I ∧ ItAt z aO gO I ∧ MvAt z 39 aK gK V) := fun z hz hk =>
      ⟨(NV.out.below DV_20.out).keptB hz (fun q => hk _ ((hKS _).2 (Or.inl ⟨q, Or.inl rfl⟩))), (W_2.out.below DW_20.out).keptB hz (fun q => hk _ ((hKS _).2 (Or.inl ⟨q, Or.inr rfl⟩))), (NY.out.below DY_20.out).keptB hz (fun q => hk _ ((hKS _).2 (Or.inr (Or.inl ⟨q, Or.inl rfl⟩)))), (O_3.out.below DO_20.out).keptB hz (fun q => hk _ ((hKS _).2 (Or.inr (Or.inl ⟨q, Or.inr rfl⟩)))), (NK.out.below DK_20.out).keptB hz (fun _ => hk _ ((hKS _).2 (Or.inr (Or.inr rfl))))⟩
    have BN : Hid (Below w.heap.size w w20) := B1.out.trans (C20.out.mono B1.out.size)
    have Z0 : Hid (KZ w w20 KS (.slice (some ⟨g5, 0, none⟩) (t.length + 2) c5) (.slice aU U.length cU) (.slice aX I.length cX) (.slice aL V.length cL) (t.length + 2) U.length I.length V.length w20) := ⟨BN.out, Nat.le_refl _, fun _ _ => rfl, ⟨_, owns_down (owns_below O5.out DG_20.out) (by omega)⟩, ⟨_, owns_down (owns_below RU.out DU_20.out) (by omega)⟩, ⟨_, owns_down (owns_below RX.out DX_20.out) (by omega)⟩, ⟨_, owns_down (owns_below RL.out DL_20.out) (by omega)⟩⟩
    have UB : Hid (U.length ≠ 0 → aU = some ⟨gU, 0, none⟩) := fun q => NU_0.out.base q
    have XB : Hid (0 < I.length → aX = some ⟨gX, 0, none⟩) := fun q => (NX_0.out.base q).1
    have LB : Hid (0 < V.length → aL = some ⟨gL, 0, none⟩) := fun q => (NL_0.out.base q).1
    have gb5 : w.heap.size ≤ g5 := by have := GB.out; omega
    have lu1 : (U.length : Int) ≤ 1000000 := by have := LUd.out; omega
    have li1 : (I.length : Int) ≤ 3000000 := by have := LT.out; omega
    have lv1 : (V.length : Int) ≤ 3000000 := by have := LV'.out; omega
    generalize w20 = Wn at *
    go_wp2_with fail
    go_loopw [126] (fun i z => ∃ j : Nat, j ≤ t.length ∧ i = .int .i64 j ∧ KZ w Wn KS (.slice (some ⟨g5, 0, none⟩) (t.length + 2) c5) (.slice aU U.length cU) (.slice aX I.length cX) (.slice aL V.length cL) (t.length + 2) U.length I.length V.length z) (fun i _ => t.length - (intOf i).toNat)
    case atStart => exact ⟨0, Nat.zero_le _, rfl, Z0.out⟩
    case round =>
      obtain ⟨j, hj, rfl, hZ⟩ := hrel
      have j0 : (0 : Int) ≤ (j : Int) := Int.natCast_nonneg _
      have ZJ : Hid (KZ w Wn KS (.slice (some ⟨g5, 0, none⟩) (t.length + 2) c5) (.slice aU U.length cU) (.slice aX I.length cX) (.slice aL V.length cL) (t.length + 2) U.length I.length V.length wr) := hZ
      by_cases hlt : j < t.length
      · obtain ⟨xg, og⟩ := hZ.og
        obtain ⟨d0, y0⟩ := owned_cell og (j := j * 6) (by omega)
        obtain ⟨d1, y1⟩ := owned_cell og (j := j * 6 + 1) (by omega)
        obtain ⟨d2, y2⟩ := owned_cell og (j := j * 6 + 2) (by omega)
        obtain ⟨d3, y3⟩ := owned_cell og (j := j * 6 + 3) (by omega)
        obtain ⟨d4, y4⟩ := owned_cell og (j := j * 6 + 4) (by omega)
        obtain ⟨d5, y5⟩ := owned_cell og (j := j * 6 + 5) (by omega)
        have lg5' : g5 < wr.heap.size := (owns_lt og g5 rfl).2
        have jlt : (j : Int) < (t.length : Int) := by omega
        clear hZ og
        go_wp2_with fail
        exact ⟨⟨j + 1, by omega, by go_num, ZJ.out.set6 gb5 NG.out _ _ _ _ _ _ _ _ _ _ _ _⟩, by simp [intOf]; omega⟩
      · have nlt : ¬ ((j : Int) < (t.length : Int)) := by omega
        clear hZ
        generalize wr = WA at *
        go_wp2_with fail
        go_loopw [136] (fun i z => ∃ j : Nat, j ≤ U.length ∧ i = .int .i64 j ∧ KZ w Wn KS (.slice (some ⟨g5, 0, none⟩) (t.length + 2) c5) (.slice aU U.length cU) (.slice aX I.length cX) (.slice aL V.length cL) (t.length + 2) U.length I.length V.length z) (fun i _ => U.length - (intOf i).toNat)
        case atStart => exact ⟨0, Nat.zero_le _, rfl, ZJ.out⟩
        case round =>
          obtain ⟨j2, hj2, rfl, hZ⟩ := hrel
          have j20 : (0 : Int) ≤ (j2 : Int) := Int.natCast_nonneg _
          have ZK : Hid (KZ w Wn KS (.slice (some ⟨g5, 0, none⟩) (t.length + 2) c5) (.slice aU U.length cU) (.slice aX I.length cX) (.slice aL V.length cL) (t.length + 2) U.length I.length V.length wr) := hZ
          by_cases hlt2 : j2 < U.length
          · have eU := UB.out (by omega)
            subst eU
            obtain ⟨xu, ou⟩ := hZ.ou
            obtain ⟨d0, y0⟩ := owned_cell ou (j := j2 * 6) (by omega)
            obtain ⟨d1, y1⟩ := owned_cell ou (j := j2 * 6 + 1) (by omega)
            obtain ⟨d2, y2⟩ := owned_cell ou (j := j2 * 6 + 2) (by omega)
            obtain ⟨d3, y3⟩ := owned_cell ou (j := j2 * 6 + 3) (by omega)
            obtain ⟨d4, y4⟩ := owned_cell ou (j := j2 * 6 + 4) (by omega)
            obtain ⟨d5, y5⟩ := owned_cell ou (j := j2 * 6 + 5) (by omega)
            have lgU : gU < wr.heap.size := (owns_lt ou gU rfl).2
            have jlt2 : (j2 : Int) < (U.length : Int) := by omega
            have NUg := NU.out gU rfl
            have NUH : Hid (w.heap.size ≤ gU ∧ ¬ KS gU) := NUg
            clear hZ ou NUg
            go_wp2_with fail
            exact ⟨⟨j2 + 1, by omega, by go_num, ZK.out.set6 NUH.out.1 NUH.out.2 _ _ _ _ _ _ _ _ _ _ _ _⟩, by simp [intOf]; omega⟩
          · have nlt2 : ¬ ((j2 : Int) < (U.length : Int)) := by omega
            obtain ⟨xu, ou⟩ := hZ.ou
            have OU : Hid (wr.ownsRow w.heap.size 55 6 (.slice aU U.length cU) U.length xu) := ou
            have sw : w.heap.size ≤ wr.heap.size := hZ.bel.size
            have lU : U.length ≤ 1000000 := LUd.out
            clear hZ ou
            generalize wr = WB at *
            go_wp2_with (first | (at_builtin; (refine wpList_append_lies _ (by rfl) _ _ _ (by rfl) w.heap.size 55 i0 _ 6 48 nds_under hi0 hz0 hz1 hz2 rfl (by omega) _ U.length _ (by rfl) (OU.out.alloc _) ⟨WB.heap.size, 0, none⟩ 2 2 (ndCells [⟨0, 0, 0, 0, 0, 0⟩, ⟨0, 0, 0, 0, 0, 0⟩]) (by rfl) (by rfl) (World.news_of_block (cs := #[.int .i64 0, .int .i64 0, .int .i64 0, .int .i64 0, .int .i64 0, .int .i64 0, .int .i64 0, .int .i64 0, .int .i64 0, .int .i64 0, .int .i64 0, .int .i64 0]) (t := 55) (fr := (0, 0)) (heap_alloc_at _ _ _ (by simp))) (by simp [Value.oneCell', ndCells]) (by omega) (by unfold maxLen; omega) (by omega) (by simp; omega) (WB.heap.size + 1) (by simp) ?_); intro g6 c6 wC ho hg hat hl; have ZC : Hid (KZ w Wn KS (.slice none 0 0) (.slice none 0 0) (.slice aX I.length cX) (.slice aL V.length cL) 0 0 I.length V.length wC) := ZK.out.grown hg (fun q hq => (NU.out q hq).2) KLt.out; clear ho hg hat hl))
            go_loopw [151] (fun i z => ∃ j : Nat, j ≤ I.length ∧ i = .int .i64 j ∧ KZ w Wn KS (.slice none 0 0) (.slice none 0 0) (.slice aX I.length cX) (.slice aL V.length cL) 0 0 I.length V.length z) (fun i _ => I.length - (intOf i).toNat)
            case atStart => exact ⟨0, Nat.zero_le _, rfl, ZC.out⟩
            case round =>
              obtain ⟨j3, hj3, rfl, hZ⟩ := hrel
              have j30 : (0 : Int) ≤ (j3 : Int) := Int.natCast_nonneg _
              have ZL : Hid (KZ w Wn KS (.slice none 0 0) (.slice none 0 0) (.slice aX I.length cX) (.slice aL V.length cL) 0 0 I.length V.length wr) := hZ
              by_cases hlt3 : j3 < I.length
              · have eX := XB.out (by omega)
                subst eX
                obtain ⟨xx, ox⟩ := hZ.ox
                obtain ⟨d0, y0⟩ := owned_cell ox (j := j3) (by omega)
                have lgX : gX < wr.heap.size := (owns_lt ox gX rfl).2
                have jlt3 : (j3 : Int) < (I.length : Int) := by omega
                have NXH : Hid (w.heap.size ≤ gX ∧ ¬ KS gX) := NX.out gX rfl
                obtain ⟨y0a, y0b⟩ := y0
                clear hZ ox
                go_wp2_with fail
                exact ⟨⟨j3 + 1, by omega, by go_num, ZL.out.set NXH.out.1 NXH.out.2 _ _⟩, by simp [intOf]; omega⟩
              · have nlt3 : ¬ ((j3 : Int) < (I.length : Int)) := by omega
                clear hZ
                generalize wr = WD at *
                go_wp2_with fail
                go_loopw [160] (fun i z => ∃ j : Nat, j ≤ V.length ∧ i = .int .i64 j ∧ KZ w Wn KS (.slice none 0 0) (.slice none 0 0) (.slice aX I.length cX) (.slice aL V.length cL) 0 0 I.length V.length z) (fun i _ => V.length - (intOf i).toNat)
                case atStart => exact ⟨0, Nat.zero_le _, rfl, ZL.out⟩
                case round =>
                  obtain ⟨j4, hj4, rfl, hZ⟩ := hrel
                  have j40 : (0 : Int) ≤ (j4 : Int) := Int.natCast_nonneg _
                  have ZM : Hid (KZ w Wn KS (.slice none 0 0) (.slice none 0 0) (.slice aX I.length cX) (.slice aL V.length cL) 0 0 I.length V.length wr) := hZ
                  by_cases hlt4 : j4 < V.length
                  · have eL := LB.out (by omega)
                    subst eL
                    obtain ⟨xl, ol⟩ := hZ.ol
                    obtain ⟨d0, y0⟩ := owned_cell ol (j := j4 * 2) (by omega)
                    obtain ⟨d1, y1⟩ := owned_cell ol (j := j4 * 2 + 1) (by omega)
                    have lgL : gL < wr.heap.size := (owns_lt ol gL rfl).2
                    have jlt4 : (j4 : Int) < (V.length : Int) := by omega
                    have NLH : Hid (w.heap.size ≤ gL ∧ ¬ KS gL) := NL'.out gL rfl
                    clear hZ ol
                    go_wp2_with fail
                    exact ⟨⟨j4 + 1, by omega, by go_num, (ZM.out.set NLH.out.1 NLH.out.2 _ _).set NLH.out.1 NLH.out.2 _ _⟩, by simp [intOf]; omega⟩
                  · have nlt4 : ¬ ((j4 : Int) < (V.length : Int)) := by omega
                    obtain ⟨f1, f2, f3, f4, f5⟩ := FV.out wr hZ.sz hZ.keep
                    have F1 : Hid (NodesAt wr aV gV 0 U) := f1
                    have F2 : Hid (NodesAt wr aW gW 0 U) := f2
                    have F3 : Hid (ItAt wr aY gY I) := f3
                    have F4 : Hid (ItAt wr aO gO I) := f4
                    have F5 : Hid (MvAt wr 39 aK gK V) := f5
                    have FB : Hid (Below w.heap.size w wr) := hZ.bel
                    clear hZ f1 f2 f3 f4 f5 ZM
                    generalize wr = WE at *
                    go_wp2_with fail
                    refine (sameT_same _ _ _ _ _ _ _ _ U _ F1.out F2.out).mono ?_
                    rintro e x1 ⟨rfl, hb⟩
                    have X1 : Hid (Below WE.heap.size WE x1) := hb
                    clear hb
                    go_wp2_with fail
                    refine (ints_same _ _ _ _ _ _ I _ (F3.out.below X1.out) (F4.out.below X1.out) LT.out).mono ?_
                    rintro e x2 ⟨rfl, hb⟩
                    have X2 : Hid (Below WE.heap.size WE x2) := X1.out.trans (hb.mono X1.out.size)
                    clear hb
                    go_wp2_with fail
                    refine (from_any _ _ _ _ V _ (F5.out.below X2.out) LV'.out).mono ?_
                    rintro e x3 ⟨v3, rfl, hr⟩
                    obtain ⟨a3, c3, g3, rfl, hn⟩ := mvAt_of hr.own
                    have N3 : Hid (MvAt x3 24 a3 g3 V) := hn
                    have X3 : Hid (Below WE.heap.size WE x3) := X2.out.trans (hr.below.mono X2.out.size)
                    clear hr hn
                    go_wp2_with fail
                    refine (RA.out _).mono ?_
                    rintro e x4 ⟨v4, rfl, hr⟩
                    obtain ⟨a4, c4, g4, rfl, hn⟩ := mvAt_of hr.own
                    have N4 : Hid (MvAt x4 24 a4 g4 V) := hn
                    have N3' : Hid (MvAt x4 24 a3 g3 V) := N3.out.below hr.below
                    have X4 : Hid (Below WE.heap.size WE x4) := X3.out.trans (hr.below.mono X3.out.size)
                    clear hr hn
                    go_wp2_with fail
                    refine (sameMoves_same _ _ _ _ _ _ _ _ V _ N3'.out N4.out LV'.out).mono ?_
                    rintro e x5 ⟨rfl, hb⟩
                    have X5 : Hid (Below WE.heap.size WE x5) := X4.out.trans (hb.mono X4.out.size)
                    clear hb
                    go_wp2_with fail
                    go_ret
                    exact ⟨rfl, FB.out.trans (X5.out.mono FB.out.size)⟩
end Go.Proofs.Ythlhbajaogonnaa



namespace Go.Proofs.Ythlhbajaogonnaa

open Go.ChangeShapes Go.WideShapes Go.ChangeAt Go.RowKit Go.Deep

theorem open_len {H : Type} {enc : TypeId × Value → H} {w : World} {n : Nat} {a0 : Option Addr} {len cap : Nat} {x : DataW H × List MemPlace} (h : DataW.trod enc Try.prog w 0 (fun _ => true) true n 22 [.slice a0 len cap] = some x) : len = 0 ∨ ∃ el sp, x.1 = .slice el sp ∧ el.length = len := by
  rcases open_slice Try.underlying22 h with ⟨hcs, _⟩ | ⟨a, l, c, m, n, D, Pl, hcs, _, hl, hm, hme, hx, hel⟩
  · simp at hcs
    exact Or.inl hcs.2.1
  · simp at hcs
    obtain ⟨rfl, rfl, rfl⟩ := hcs
    exact Or.inr ⟨_, _, by rw [hx], by simp⟩
set_option maxRecDepth 100000 in
theorem stepsKeeps_lifted (os : Os) (started : os.Started) (H : Type) (enc : TypeId × Value → H) :
    ReturnsInHanded {} Try.checked os 4 .any (Rows.stepsKeepsSpec.pre6 enc Try.prog Try.f4 Rows.stepsKeepsRow.domain false) (Rows.stepsKeepsSpec.post enc Try.prog Try.f4 false true false false) := by
  refine returnsInHanded_of_change_sized (C := Try.checked) own started (by kernel_rfl) Try.func4
    (ChangeSpec.witness6 (enc := enc) (C := Try.checked) false ⟨#[], #[.slice none 0 0, .int .i64 0, .agg #[.int .i64 0, .bool false]], []⟩ 8 (by kernel_rfl) (by kernel_rfl) (by kernel_rfl) (by kernel_rfl)) ?_
  intro W base args ds gs before hval0 hW _ hsz0 _
  have hsz : (DataW.weightsEach Try.prog (Try.f4.params.toList ++ Rows.stepsKeepsSpec.plain.varTypes Try.prog) (ds ++ gs)).all (· ≤ reachBytes) = true := hsz0
  have hval : ∀ (j : Nat) t v, Try.f4.params[j]? = some t → args[j]? = some v → Value.okWide Try.prog W .any base t v := hval0
  have hW' := hW
  obtain ⟨p, q, hA0, hV, rfl, hfz, hnd⟩ := hW
  have hA : DataW.TrodAll enc Try.prog W 0 (fun _ => true) true Try.f4.params.toList args.toList ds p := hA0
  rw [Try.params4] at hA hval hsz
  obtain ⟨v0, v1, v2, d0, d1, d2, p0, p1, p2, rfl, rfl, rfl, h0, h1, h2⟩ := trodAll_three hA
  obtain ⟨rfl, rfl⟩ := trodVars_none hV
  obtain ⟨ad0, m0, ca0, rfl⟩ := okWide_slice Try.underlying22 (hval 0 22 v0 rfl rfl)
  obtain ⟨x1, rfl⟩ := okWide_int Try.underlying3 (hval 1 3 v1 rfl rfl)
  obtain ⟨cs2, rfl, hcs2⟩ := okWide_struct Try.underlying24 (hval 2 24 v2 rfl rfl)
  have k0 := h0
  have k1 := h1
  have k2 := h2
  have lt0 : ∀ x ∈ p0, x.block < W.heap.size := by obtain ⟨m, hm⟩ := k0; exact DataW.trod_lt m _ _ _ hm
  have lt1 : ∀ x ∈ p1, x.block < W.heap.size := by obtain ⟨m, hm⟩ := k1; exact DataW.trod_lt m _ _ _ hm
  have lt2 : ∀ x ∈ p2, x.block < W.heap.size := by obtain ⟨m, hm⟩ := k2; exact DataW.trod_lt m _ _ _ hm
  obtain ⟨fuel0, hf0⟩ := h0
  obtain ⟨b0, o0, t0, rfl, hE0, -, -, hZ0⟩ := open_nodes hf0
  obtain ⟨fuel2, hf2⟩ := h2
  obtain ⟨km2, mi2, e2⟩ := open_move hf2
  obtain rfl : cs2 = #[.int .i64 km2, .bool mi2] := by
    apply Array.ext'
    simpa [Value.cells] using e2
  have hdat := open_len hf0
  have hbytes : t0.length * 48 ≤ 140737488351232 := by
    rcases hdat with h | ⟨el, sp, hd, hl⟩
    · omega
    · simp at hd
      subst hd
      have := sized_slice hsz (j := 0) (t := 22) (e := 55) rfl rfl Try.underlying22
      have hb : Try.prog.bytesOf 55 = 48 := by kernel_rfl
      rw [hb] at this
      simp only [reachBytes] at this
      omega
  clear hA0 hval0
  refine (stepsKeeps_any ad0 b0 o0 ca0 t0 x1 km2 mi2 W hE0 hZ0 hbytes).mono fun e W' ⟨he, bel⟩ => ?_
  subst he
  exact ⟨_, rfl, _, _, _, [], _, [], hW', trodAll_mk1 (shut_bool Try.underlying4 _), trodAll_mk3 (Below.trod laidOut (by kernel_rfl) (of_decide_eq_true (by kernel_rfl)) k0 bel lt0) (Below.trod laidOut (by kernel_rfl) (of_decide_eq_true (by kernel_rfl)) k1 bel lt1) (Below.trod laidOut (by kernel_rfl) (of_decide_eq_true (by kernel_rfl)) k2 bel lt2), rfl, bel.frame _, fun h => by cases h⟩

/-- For every input StepsKeeps returns true, and its arguments read as before. -/
theorem stepsKeeps_proved : Rows.StepsKeepsSaid :=
  OpenClaim.holds_of_wide 4 Try.f4 rfl rfl rfl rfl rfl rfl rfl ⟨rfl, rfl, rfl, rfl, rfl⟩ rfl rfl rfl rfl rfl (by kernel_rfl) Try.func4 (by kernel_rfl)
    (of_decide_eq_true (by kernel_rfl)) (by unfold Func.isWrapper; first | (rw [if_pos (by decide +kernel)]; kernel_rfl) | (rw [if_neg (by decide +kernel)]; exact ⟨rfl, rfl⟩))
    (fun os started H enc _ => stepsKeeps_lifted os started H enc)
#print axioms stepsKeeps_proved

end Go.Proofs.Ythlhbajaogonnaa
