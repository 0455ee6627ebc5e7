
/- Layer 18: the reference's trees of pointers: w, left, right, inner, grow. -/

import Derived.Test.YthlhbajaogonnaaSMvR

namespace Go.Proofs.Ythlhbajaogonnaa

open Go.RowKit

attribute [local go_sem ↓] Go.wp_at_zero Go.wp_at_succ

/-- A tree of pointers as data: each node with its place. -/
inductive PT
  | lf (n : NdD) (pl : Int)
  | nd (n : NdD) (pl : Int) (l r : PT)
def PT.n : PT → NdD
  | .lf n _ => n
  | .nd n _ _ _ => n
def PT.pl : PT → Int
  | .lf _ p => p
  | .nd _ p _ _ => p
def PT.bt : PT → BT
  | .lf n _ => .leaf (ndP n)
  | .nd n _ l r => .node (ndP n) l.bt r.bt
def ptC (n : NdD) (pl : Int) (l r : Value) : Array Value := #[.int .i64 n.key, .int .i64 n.inf, .int .i64 n.wt, .int .i64 n.val, .int .i64 n.l, .int .i64 n.r, l, r, .int .i64 pl]
/-- It lies in memory, in blocks of B and above. -/
def PTAt (w : World) (B : Nat) : PT → Nat → Prop
  | .lf n pl, g => B ≤ g ∧ w.heap[g]? = some (.cells (ptC n pl (.pointer none) (.pointer none)) 76 (0, 0))
  | .nd n pl l r, g => ∃ gl gr : Nat, B ≤ g ∧ w.heap[g]? = some (.cells (ptC n pl (.pointer (some ⟨gl, 0, none⟩)) (.pointer (some ⟨gr, 0, none⟩))) 76 (0, 0)) ∧ PTAt w B l gl ∧ PTAt w B r gr
theorem PTAt.kept {w y : World} {B : Nat} : ∀ {P : PT} {g : Nat}, PTAt w B P g → (∀ k, B ≤ k → k < w.heap.size → y.heap[k]? = w.heap[k]?) → PTAt y B P g
  | .lf _ _, _, h, hk => ⟨h.1, (hk _ h.1 (Array.getElem?_eq_some_iff.1 h.2).1).trans h.2⟩
  | .nd _ _ _ _, _, ⟨gl, gr, h1, h2, h3, h4⟩, hk => ⟨gl, gr, h1, (hk _ h1 (Array.getElem?_eq_some_iff.1 h2).1).trans h2, h3.kept hk, h4.kept hk⟩
theorem PTAt.below {w y : World} {B : Nat} {P : PT} {g : Nat} (h : PTAt w B P g) (hb : Below w.heap.size w y) : PTAt y B P g := h.kept fun k _ hk => hb.block k hk
theorem PTAt.set {w : World} {B : Nat} {P : PT} {g b j : Nat} {u : Value} (h : PTAt w B P g) (hb : b < B) : PTAt (w.setCell ⟨b, j, none⟩ u) B P g := h.kept fun k hk _ => Below.heap_setCell _ _ _ k (by simp; omega)
theorem PTAt.down {w : World} {B C : Nat} (hBC : C ≤ B) : ∀ {P : PT} {g : Nat}, PTAt w B P g → PTAt w C P g
  | .lf _ _, _, h => ⟨Nat.le_trans hBC h.1, h.2⟩
  | .nd _ _ _ _, _, ⟨gl, gr, h1, h2, h3, h4⟩ => ⟨gl, gr, Nat.le_trans hBC h1, h2, h3.down hBC, h4.down hBC⟩
def POAt (w : World) (B : Nat) : Option PT → Value → Prop
  | none, v => v = .pointer none
  | some P, v => ∃ g : Nat, v = .pointer (some ⟨g, 0, none⟩) ∧ PTAt w B P g
theorem POAt.below {w y : World} {B : Nat} : ∀ {o : Option PT} {v : Value}, POAt w B o v → Below w.heap.size w y → POAt y B o v
  | none, _, h, _ => h
  | some _, _, ⟨g, h1, h2⟩, hb => ⟨g, h1, h2.below hb⟩
def plO : Option PT → Option PT
  | some (.nd _ _ l _) => some l
  | _ => none
def prO : Option PT → Option PT
  | some (.nd _ _ _ r) => some r
  | _ => none
def pwO : Option PT → Int
  | none => -1
  | some P => P.n.wt
/-- The block of a tree. -/
theorem PTAt.block {w : World} {B : Nat} {P : PT} {g : Nat} (h : PTAt w B P g) : ∃ vl vr, w.heap[g]? = some (.cells (ptC P.n P.pl vl vr) 76 (0, 0)) ∧ POAt w B (plO (some P)) vl ∧ POAt w B (prO (some P)) vr := by
  cases P with
  | lf n pl => exact ⟨_, _, h.2, rfl, rfl⟩
  | nd n pl l r =>
    obtain ⟨gl, gr, h1, h2, h3, h4⟩ := h
    exact ⟨_, _, h2, ⟨gl, rfl, h3⟩, ⟨gr, rfl, h4⟩⟩
set_option maxRecDepth 100000 in
theorem w_any (B : Nat) (o : Option PT) (v : Value) (w : World) (h : POAt w B o v) :
    Calls Try.prog 62 #[v] w fun e w' => e = .returned (.int .i64 (pwO o)) ∧ Below w.heap.size w w' := by
  cases o with
  | none =>
    obtain rfl : v = .pointer none := h
    go_enter Try.func62, Try.ntmps62
    go_wp2_with fail
    go_ret
    exact ⟨rfl, Below.refl _ _⟩
  | some P =>
    obtain ⟨g, rfl, hP⟩ := h
    obtain ⟨vl, vr, hb, -, -⟩ := hP.block
    have c2 : w.cell? ⟨g, 2, none⟩ = some (.int .i64 P.n.wt) := (cell_of hb 2 _ rfl).1
    have hl := (Array.getElem?_eq_some_iff.1 hb).1
    have F : Hid (pwO (some P) = P.n.wt) := rfl
    rw [F.out]
    clear hb hP F
    generalize P.n.wt = q at *
    go_enter Try.func62, Try.ntmps62
    go_wp2_with fail
    go_ret
    exact ⟨rfl, Below.refl _ _⟩
set_option maxRecDepth 100000 in
theorem left_any (B : Nat) (o : Option PT) (v : Value) (w : World) (h : POAt w B o v) :
    Calls Try.prog 60 #[v] w fun e w' => ∃ u, e = .returned u ∧ POAt w' B (plO o) u ∧ Below w.heap.size w w' := by
  cases o with
  | none =>
    obtain rfl : v = .pointer none := h
    go_enter Try.func60, Try.ntmps60
    go_wp2_with fail
    go_ret
    exact ⟨_, rfl, rfl, Below.refl _ _⟩
  | some P =>
    obtain ⟨g, rfl, hP⟩ := h
    obtain ⟨vl, vr, hb, hL, -⟩ := hP.block
    have c6 : w.cell? ⟨g, 6, none⟩ = some vl := (cell_of hb 6 _ rfl).1
    have hl := (Array.getElem?_eq_some_iff.1 hb).1
    have HL : Hid (POAt w B (plO (some P)) vl) := hL
    clear hb hP hL
    go_enter Try.func60, Try.ntmps60
    go_wp2_with fail
    go_ret
    exact ⟨_, rfl, HL.out, Below.refl _ _⟩
set_option maxRecDepth 100000 in
theorem right_any (B : Nat) (o : Option PT) (v : Value) (w : World) (h : POAt w B o v) :
    Calls Try.prog 61 #[v] w fun e w' => ∃ u, e = .returned u ∧ POAt w' B (prO o) u ∧ Below w.heap.size w w' := by
  cases o with
  | none =>
    obtain rfl : v = .pointer none := h
    go_enter Try.func61, Try.ntmps61
    go_wp2_with fail
    go_ret
    exact ⟨_, rfl, rfl, Below.refl _ _⟩
  | some P =>
    obtain ⟨g, rfl, hP⟩ := h
    obtain ⟨vl, vr, hb, -, hL⟩ := hP.block
    have c7 : w.cell? ⟨g, 7, none⟩ = some vr := (cell_of hb 7 _ rfl).1
    have hl := (Array.getElem?_eq_some_iff.1 hb).1
    have HL : Hid (POAt w B (prO (some P)) vr) := hL
    clear hb hP hL
    go_enter Try.func61, Try.ntmps61
    go_wp2_with fail
    go_ret
    exact ⟨_, rfl, HL.out, Below.refl _ _⟩
set_option maxRecDepth 100000 in
theorem inner_any (B : Nat) (P : PT) (v : Value) (w : World) (h : POAt w B (some P) v) :
    Calls Try.prog 63 #[v] w fun e w' => e = .returned (.bool (inO (some P.bt))) ∧ Below w.heap.size w w' := by
  obtain ⟨g, rfl, hP⟩ := h
  cases P with
  | lf n pl =>
    have hb := hP.2
    have c6 : w.cell? ⟨g, 6, none⟩ = some (.pointer none) := (cell_of hb 6 _ rfl).1
    have hl := (Array.getElem?_eq_some_iff.1 hb).1
    clear hb hP
    go_enter Try.func63, Try.ntmps63
    go_wp2_with fail
    go_ret
    exact ⟨rfl, Below.refl _ _⟩
  | nd n pl l r =>
    obtain ⟨gl, gr, -, hb, -, -⟩ := hP
    have c6 : w.cell? ⟨g, 6, none⟩ = some (.pointer (some ⟨gl, 0, none⟩)) := (cell_of hb 6 _ rfl).1
    have hl := (Array.getElem?_eq_some_iff.1 hb).1
    clear hb
    go_enter Try.func63, Try.ntmps63
    go_wp2_with fail
    go_ret
    exact ⟨rfl, Below.refl _ _⟩
theorem heap_set_at {w : World} {g j : Nat} {cs : Array Value} {T : TypeId} {u : Value} (h : w.heap[g]? = some (.cells cs T (0, 0))) : (w.setCell ⟨g, j, none⟩ u).heap[g]? = some (.cells (cs.setIfInBounds j u) T (0, 0)) := by
  simp [World.setCell, Array.getElem?_modify, h]
/-- The tree that grows from a place. -/
inductive GrP (t : NL) : Nat → PT → Prop
  | lf {p : Nat} : p < t.length → (ndAt t p).l = -1 → (ndAt t p).r = -1 → GrP t p (.lf (ndAt t p) (p : Int))
  | nd {p l r : Nat} {L R : PT} : p < t.length → (ndAt t p).l = (l : Int) → (ndAt t p).r = (r : Int) → GrP t l L → GrP t r R → GrP t p (.nd (ndAt t p) (p : Int) L R)
theorem grp_of {t : NL} {p : Nat} {b : BT} (h : Abs t p b) : ∃ P, GrP t p P ∧ P.bt = b := by
  induction h with
  | leaf h1 h2 h3 => exact ⟨_, .lf h1 h2 h3, rfl⟩
  | node h1 h2 h3 _ _ i1 i2 =>
    obtain ⟨L, hL, rfl⟩ := i1
    obtain ⟨R, hR, rfl⟩ := i2
    exact ⟨_, .nd h1 h2 h3 hL hR, rfl⟩
set_option maxRecDepth 100000 in
set_option maxHeartbeats 2000000 in
theorem grow_any (base : Option Addr) (b o c : Nat) (t : NL) {p : Nat} {P : PT} (hG : GrP t p P) : ∀ w, NodesAt w base b o t →
    Calls Try.prog 34 #[.slice base t.length c, .int .i64 (p : Int)] w fun e w' => ∃ g : Nat, e = .returned (.pointer (some ⟨g, 0, none⟩)) ∧ PTAt w' w.heap.size P g ∧ Below w.heap.size w w' := by
  induction hG with
  | @lf p hp h2 h3 =>
    intro w h
    obtain rfl : base = some ⟨b, o, none⟩ := h.base (by omega)
    have hbl := h.lt (by omega)
    obtain ⟨c0, c1, c2, c3, c4, c5⟩ := h.cells p hp
    have p0 : (0 : Int) ≤ (p : Int) := Int.natCast_nonneg _
    have p1 : (p : Int) < (t.length : Int) := by omega
    have HN : Hid (NodesAt w (some ⟨b, o, none⟩) b o t) := h
    clear h
    have hq : decide ((ndAt t p).l ≥ 0) = false := by rw [h2]; rfl
    clear h2 h3
    generalize ndAt t p = n at *
    obtain ⟨k0, k1, k2, k3, k4, k5⟩ := n
    simp only at c0 c1 c2 c3 c4 c5 hq
    have hbl' : b < w.heap.size + 1 := by omega
    have CN : Hid (∀ ob : Obj, (w.alloc ob).cell? ⟨b, o + p * 6 + 4, none⟩ = some (.int .i64 k4)) := fun ob => ((below_alloc w ob).cell (p := ⟨b, o + p * 6 + 4, none⟩) hbl).trans c4
    have CNN := CN.out (.cells #[.int .i64 k0, .int .i64 k1, .int .i64 k2, .int .i64 k3, .int .i64 k4, .int .i64 k5, .pointer none, .pointer none, .int .i64 (p : Int)] 76)
    go_enter Try.func34, Try.ntmps34
    go_wp2_with fail
    go_ret
    exact ⟨_, rfl, ⟨Nat.le_refl _, heap_alloc_at _ _ _ rfl⟩, below_alloc _ _⟩
  | @nd p l r L R hp h2 h3 _ _ i1 i2 =>
    intro w h
    obtain rfl : base = some ⟨b, o, none⟩ := h.base (by omega)
    have hbl := h.lt (by omega)
    obtain ⟨c0, c1, c2, c3, c4, c5⟩ := h.cells p hp
    have p0 : (0 : Int) ≤ (p : Int) := Int.natCast_nonneg _
    have p1 : (p : Int) < (t.length : Int) := by omega
    have HN : Hid (NodesAt w (some ⟨b, o, none⟩) b o t) := h
    have I1 : Hid (∀ W, NodesAt W (some ⟨b, o, none⟩) b o t → Calls Try.prog 34 #[.slice (some ⟨b, o, none⟩) t.length c, .int .i64 (l : Int)] W fun e w' => ∃ g : Nat, e = .returned (.pointer (some ⟨g, 0, none⟩)) ∧ PTAt w' W.heap.size L g ∧ Below W.heap.size W w') := i1
    have I2 : Hid (∀ W, NodesAt W (some ⟨b, o, none⟩) b o t → Calls Try.prog 34 #[.slice (some ⟨b, o, none⟩) t.length c, .int .i64 (r : Int)] W fun e w' => ∃ g : Nat, e = .returned (.pointer (some ⟨g, 0, none⟩)) ∧ PTAt w' W.heap.size R g ∧ Below W.heap.size W w') := i2
    clear h i1 i2
    have hq : decide ((l : Int) ≥ 0) = true := by simp
    generalize ndAt t p = n at *
    obtain ⟨k0, k1, k2, k3, k4, k5⟩ := n
    simp only at c0 c1 c2 c3 c4 c5 h2 h3
    have E4 : Hid (k4 = (l : Int)) := h2
    have E5 : Hid (k5 = (r : Int)) := h3
    clear h2 h3
    have E4' := E4.out
    have E5' := E5.out
    subst E4' E5'
    have hbl' : b < w.heap.size + 1 := by omega
    have B1 : Hid (Below w.heap.size w (w.alloc (.cells #[.int .i64 k0, .int .i64 k1, .int .i64 k2, .int .i64 k3, .int .i64 (l : Int), .int .i64 (r : Int), .pointer none, .pointer none, .int .i64 (p : Int)] 76))) := below_alloc _ _
    have CNN : (w.alloc (.cells #[.int .i64 k0, .int .i64 k1, .int .i64 k2, .int .i64 k3, .int .i64 (l : Int), .int .i64 (r : Int), .pointer none, .pointer none, .int .i64 (p : Int)] 76)).cell? ⟨b, o + p * 6 + 4, none⟩ = some (.int .i64 (l : Int)) := (B1.out.cell (p := ⟨b, o + p * 6 + 4, none⟩) hbl).trans c4
    have K0 : Hid True := trivial
    have HC5 : Hid (w.cell? ⟨b, o + p * 6 + 5, none⟩ = some (.int .i64 (r : Int))) := c5
    go_enter Try.func34, Try.ntmps34
    go_wp2_with (first | (go_at_call 34; have hz := K0; refine (I1.out _ (HN.out.below B1.out)).mono ?_; rintro e w2 ⟨g1, rfl, hT, hb⟩; have B2 : Hid (Below w.heap.size w w2) := B1.out.trans (hb.mono B1.out.size); have M2 : Hid (w2.heap[w.heap.size]? = some (.cells #[.int .i64 k0, .int .i64 k1, .int .i64 k2, .int .i64 k3, .int .i64 (l : Int), .int .i64 (r : Int), .pointer none, .pointer none, .int .i64 (p : Int)] 76 (0, 0))) := (hb.block _ (by simp)).trans (heap_alloc_at _ _ _ rfl); have y6 : w2.cell? ⟨w.heap.size, 6, none⟩ = some (.pointer none) := (cell_of M2.out 6 _ rfl).1; have f6 : w2.frozen? ⟨w.heap.size, 6, none⟩ = false := (cell_of M2.out 6 _ rfl).2; have l2 : w.heap.size < w2.heap.size := (Array.getElem?_eq_some_iff.1 M2.out).1; have T3 : Hid (PTAt (w2.setCell ⟨w.heap.size, 6, none⟩ (.pointer (some ⟨g1, 0, none⟩))) (w.heap.size + 1) L g1) := PTAt.set (by simpa using hT) (Nat.lt_succ_self _); have M3 : Hid ((w2.setCell ⟨w.heap.size, 6, none⟩ (.pointer (some ⟨g1, 0, none⟩))).heap[w.heap.size]? = some (.cells #[.int .i64 k0, .int .i64 k1, .int .i64 k2, .int .i64 k3, .int .i64 (l : Int), .int .i64 (r : Int), .pointer (some ⟨g1, 0, none⟩), .pointer none, .int .i64 (p : Int)] 76 (0, 0))) := heap_set_at M2.out; have B3 : Hid (Below w.heap.size w (w2.setCell ⟨w.heap.size, 6, none⟩ (.pointer (some ⟨g1, 0, none⟩)))) := B2.out.setCell (Nat.le_refl _) _; have d5 : (w2.setCell ⟨w.heap.size, 6, none⟩ (.pointer (some ⟨g1, 0, none⟩))).cell? ⟨b, o + p * 6 + 5, none⟩ = some (.int .i64 (r : Int)) := (B3.out.cell (p := ⟨b, o + p * 6 + 5, none⟩) hbl).trans HC5.out; clear hb hT hz K0) | (go_at_call 34; refine (I2.out _ (HN.out.below B3.out)).mono ?_; rintro e w4 ⟨g2, rfl, hT, hb⟩; have B4 : Hid (Below w.heap.size w w4) := B3.out.trans (hb.mono B3.out.size); have M4 : Hid (w4.heap[w.heap.size]? = some (.cells #[.int .i64 k0, .int .i64 k1, .int .i64 k2, .int .i64 k3, .int .i64 (l : Int), .int .i64 (r : Int), .pointer (some ⟨g1, 0, none⟩), .pointer none, .int .i64 (p : Int)] 76 (0, 0))) := (hb.block _ (by simpa using l2)).trans M3.out; have y7 : w4.cell? ⟨w.heap.size, 7, none⟩ = some (.pointer none) := (cell_of M4.out 7 _ rfl).1; have f7 : w4.frozen? ⟨w.heap.size, 7, none⟩ = false := (cell_of M4.out 7 _ rfl).2; have l4 : w.heap.size < w4.heap.size := (Array.getElem?_eq_some_iff.1 M4.out).1; have T5 : Hid (PTAt (w4.setCell ⟨w.heap.size, 7, none⟩ (.pointer (some ⟨g2, 0, none⟩))) (w.heap.size + 1) L g1) := PTAt.set (T3.out.below hb) (Nat.lt_succ_self _); have T6 : Hid (PTAt (w4.setCell ⟨w.heap.size, 7, none⟩ (.pointer (some ⟨g2, 0, none⟩))) (w.heap.size + 1) R g2) := PTAt.set (hT.down (by simp; omega)) (Nat.lt_succ_self _); have M5 : Hid ((w4.setCell ⟨w.heap.size, 7, none⟩ (.pointer (some ⟨g2, 0, none⟩))).heap[w.heap.size]? = some (.cells #[.int .i64 k0, .int .i64 k1, .int .i64 k2, .int .i64 k3, .int .i64 (l : Int), .int .i64 (r : Int), .pointer (some ⟨g1, 0, none⟩), .pointer (some ⟨g2, 0, none⟩), .int .i64 (p : Int)] 76 (0, 0))) := heap_set_at M4.out; have B5 : Hid (Below w.heap.size w (w4.setCell ⟨w.heap.size, 7, none⟩ (.pointer (some ⟨g2, 0, none⟩)))) := B4.out.setCell (Nat.le_refl _) _; clear hb hT))
    go_ret
    exact ⟨_, rfl, ⟨g1, g2, Nat.le_refl _, M5.out, T5.out.down (Nat.le_succ _), T6.out.down (Nat.le_succ _)⟩, B5.out⟩
end Go.Proofs.Ythlhbajaogonnaa
