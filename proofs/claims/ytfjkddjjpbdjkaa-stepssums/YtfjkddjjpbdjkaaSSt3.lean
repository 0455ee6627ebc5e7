
/- Layer 18: siteAt. -/

import Derived.Test.YtfjkddjjpbdjkaaSSt2

namespace Go.Proofs.Ytfjkddjjpbdjkaa

open Go.RowKit

attribute [local go_sem ↓] Go.wp_at_zero Go.wp_at_succ

def plOk (t : NL) (p : Int) : Prop := p = -1 ∨ 0 ≤ p ∧ p < t.length
theorem bel_ok {t : NL} (hf : InForm t) (mi : Bool) {p : Int} (hp : plOk t p) : plOk t (belL t mi p) ∧ plOk t (belR t mi p) := by
  unfold belL belR
  by_cases q : p = -1
  · rw [if_pos q, if_pos q]; exact ⟨Or.inl rfl, Or.inl rfl⟩
  · rw [if_neg q, if_neg q]
    rcases hp with h | ⟨h1, h2⟩
    · exact absurd h q
    · have hn := (hf.good.node p.toNat (by omega)).1
      cases mi <;> simp only [plOk, if_true, Bool.false_eq_true, if_false] <;> omega
theorem results_cell1 {fn : Func} {p : Tmp} {ty : TypeId} (h : fn.results = #[.cell p ty]) (tmps : Array Value) (P : Program) (w : World) :
    (results fn tmps).run P w = ((asAddr (tmps.getD p undef)).run P w).andThen fun a w₁ => (loadVar ty a).run P w₁ := by
  simp only [results, h]
  simp [Sem.run_bind, Result.andThen]
theorem heap_set {z : World} {k i : Nat} {cs : Array Value} {T : TypeId} (h : z.heap[k]? = some (.cells cs T (0, 0))) (v : Value) : (z.setCell ⟨k, i, none⟩ v).heap[k]? = some (.cells (cs.setIfInBounds i v) T (0, 0)) := by
  simp [World.setCell, Array.getElem?_modify, h]
theorem heap_off {z : World} {k j i : Nat} {ob : Obj} (h : z.heap[k]? = some ob) (v : Value) (hne : j ≠ k) : (z.setCell ⟨j, i, none⟩ v).heap[k]? = some ob := by
  rw [Below.heap_setCell _ _ _ _ (by simpa using Ne.symm hne)]; exact h
theorem cell_of {z : World} {k : Nat} {cs : Array Value} {T : TypeId} (h : z.heap[k]? = some (.cells cs T (0, 0))) (i : Nat) (v : Value) (hv : cs[i]? = some v) : z.cell? ⟨k, i, none⟩ = some v ∧ z.frozen? ⟨k, i, none⟩ = false := by
  simp [World.cell?, World.frozen?, h, hv]
/-- A site in its box, and the box of the answer. -/
structure S12 (w z : World) (T : Value) (root : Int) (mi : Bool) (x v4 v5 v6 v7 v8 v9 v10 v11 : Int) : Prop where
  box : z.heap[w.heap.size + 1]? = some (.cells #[T, .int .i64 root, .bool mi, .int .i64 x, .int .i64 v4, .int .i64 v5, .int .i64 v6, .int .i64 v7, .int .i64 v8, .int .i64 v9, .int .i64 v10, .int .i64 v11] 98 (0, 0))
  res : z.heap[w.heap.size]? = some (.cells #[.slice none 0 0, .int .i64 0, .bool false, .int .i64 0, .int .i64 0, .int .i64 0, .int .i64 0, .int .i64 0, .int .i64 0, .int .i64 0, .int .i64 0, .int .i64 0] 98 (0, 0))
  below : Below w.heap.size w z
theorem S12.quiet {w z y : World} {T : Value} {root : Int} {mi : Bool} {x v4 v5 v6 v7 v8 v9 v10 v11 : Int} (h : S12 w z T root mi x v4 v5 v6 v7 v8 v9 v10 v11) (hb : Below z.heap.size z y) : S12 w y T root mi x v4 v5 v6 v7 v8 v9 v10 v11 :=
  ⟨(hb.block _ (Array.getElem?_eq_some_iff.1 h.box).1).trans h.box, (hb.block _ (Array.getElem?_eq_some_iff.1 h.res).1).trans h.res, h.below.trans (hb.mono h.below.size)⟩
theorem S12.lt {w z : World} {T : Value} {root : Int} {mi : Bool} {x v4 v5 v6 v7 v8 v9 v10 v11 : Int} (h : S12 w z T root mi x v4 v5 v6 v7 v8 v9 v10 v11) : w.heap.size + 1 < z.heap.size := (Array.getElem?_eq_some_iff.1 h.box).1
theorem S12.st {w z : World} {base : Option Addr} {b o c : Nat} {t : NL} {root : Int} {mi : Bool} {x v4 v5 v6 v7 v8 v9 v10 v11 : Int} (h : S12 w z (.slice base t.length c) root mi x v4 v5 v6 v7 v8 v9 v10 v11) (hn : NodesAt w base b o t) : StAt z (w.heap.size + 1) base b o c t mi :=
  ⟨(cell_of h.box 0 _ rfl).1, (cell_of h.box 2 _ rfl).1, h.lt, hn.below h.below⟩
theorem S12.set4 {w z : World} {T : Value} {root : Int} {mi : Bool} {x v4 v5 v6 v7 v8 v9 v10 v11 : Int} (h : S12 w z T root mi x v4 v5 v6 v7 v8 v9 v10 v11) (a : Int) : S12 w (z.setCell ⟨w.heap.size + 1, 4, none⟩ (.int .i64 a)) T root mi x a v5 v6 v7 v8 v9 v10 v11 :=
  ⟨heap_set h.box _, heap_off h.res _ (by omega), h.below.setCell (by simp) _⟩
theorem S12.set5 {w z : World} {T : Value} {root : Int} {mi : Bool} {x v4 v5 v6 v7 v8 v9 v10 v11 : Int} (h : S12 w z T root mi x v4 v5 v6 v7 v8 v9 v10 v11) (a : Int) : S12 w (z.setCell ⟨w.heap.size + 1, 5, none⟩ (.int .i64 a)) T root mi x v4 a v6 v7 v8 v9 v10 v11 :=
  ⟨heap_set h.box _, heap_off h.res _ (by omega), h.below.setCell (by simp) _⟩
theorem S12.set6 {w z : World} {T : Value} {root : Int} {mi : Bool} {x v4 v5 v6 v7 v8 v9 v10 v11 : Int} (h : S12 w z T root mi x v4 v5 v6 v7 v8 v9 v10 v11) (a : Int) : S12 w (z.setCell ⟨w.heap.size + 1, 6, none⟩ (.int .i64 a)) T root mi x v4 v5 a v7 v8 v9 v10 v11 :=
  ⟨heap_set h.box _, heap_off h.res _ (by omega), h.below.setCell (by simp) _⟩
theorem S12.set7 {w z : World} {T : Value} {root : Int} {mi : Bool} {x v4 v5 v6 v7 v8 v9 v10 v11 : Int} (h : S12 w z T root mi x v4 v5 v6 v7 v8 v9 v10 v11) (a : Int) : S12 w (z.setCell ⟨w.heap.size + 1, 7, none⟩ (.int .i64 a)) T root mi x v4 v5 v6 a v8 v9 v10 v11 :=
  ⟨heap_set h.box _, heap_off h.res _ (by omega), h.below.setCell (by simp) _⟩
theorem S12.set8 {w z : World} {T : Value} {root : Int} {mi : Bool} {x v4 v5 v6 v7 v8 v9 v10 v11 : Int} (h : S12 w z T root mi x v4 v5 v6 v7 v8 v9 v10 v11) (a : Int) : S12 w (z.setCell ⟨w.heap.size + 1, 8, none⟩ (.int .i64 a)) T root mi x v4 v5 v6 v7 a v9 v10 v11 :=
  ⟨heap_set h.box _, heap_off h.res _ (by omega), h.below.setCell (by simp) _⟩
theorem S12.set9 {w z : World} {T : Value} {root : Int} {mi : Bool} {x v4 v5 v6 v7 v8 v9 v10 v11 : Int} (h : S12 w z T root mi x v4 v5 v6 v7 v8 v9 v10 v11) (a : Int) : S12 w (z.setCell ⟨w.heap.size + 1, 9, none⟩ (.int .i64 a)) T root mi x v4 v5 v6 v7 v8 a v10 v11 :=
  ⟨heap_set h.box _, heap_off h.res _ (by omega), h.below.setCell (by simp) _⟩
theorem S12.set10 {w z : World} {T : Value} {root : Int} {mi : Bool} {x v4 v5 v6 v7 v8 v9 v10 v11 : Int} (h : S12 w z T root mi x v4 v5 v6 v7 v8 v9 v10 v11) (a : Int) : S12 w (z.setCell ⟨w.heap.size + 1, 10, none⟩ (.int .i64 a)) T root mi x v4 v5 v6 v7 v8 v9 a v11 :=
  ⟨heap_set h.box _, heap_off h.res _ (by omega), h.below.setCell (by simp) _⟩
theorem S12.set11 {w z : World} {T : Value} {root : Int} {mi : Bool} {x v4 v5 v6 v7 v8 v9 v10 v11 : Int} (h : S12 w z T root mi x v4 v5 v6 v7 v8 v9 v10 v11) (a : Int) : S12 w (z.setCell ⟨w.heap.size + 1, 11, none⟩ (.int .i64 a)) T root mi x v4 v5 v6 v7 v8 v9 v10 a :=
  ⟨heap_set h.box _, heap_off h.res _ (by omega), h.below.setCell (by simp) _⟩
set_option maxRecDepth 100000 in
set_option maxHeartbeats 2000000 in
theorem siteAt_any (base : Option Addr) (b o c : Nat) (t : NL) (root x : Int) (mi : Bool) (w : World) (h : NodesAt w base b o t) (hf : InForm t) (hx : plOk t x) :
    Calls Try.prog 91 #[.slice base t.length c, .int .i64 root, .int .i64 x, .bool mi] w fun e w' => e = .returned (.agg #[.slice base t.length c, .int .i64 root, .bool mi, .int .i64 x, .int .i64 (belL t mi x), .int .i64 (belR t mi x), .int .i64 (belL t mi (belL t mi x)), .int .i64 (belR t mi (belL t mi x)), .int .i64 (belL t mi (belR t mi x)), .int .i64 (belR t mi (belR t mi x)), .int .i64 (belL t mi (belL t mi (belR t mi x))), .int .i64 (belR t mi (belL t mi (belR t mi x)))]) ∧ Below w.heap.size w w' := by
  obtain ⟨o1, o2⟩ := bel_ok hf mi hx
  obtain ⟨o3, o4⟩ := bel_ok hf mi o1
  obtain ⟨o5, o6⟩ := bel_ok hf mi o2
  have HA : Hid (NodesAt _ _ _ _ _) := h
  have BE : Hid (∀ (W : World) (sb : Nat) (p : Int), StAt W sb base b o c t mi → plOk t p → Calls Try.prog 96 #[.pointer (some ⟨sb, 0, none⟩), .int .i64 p] W fun e w' => e = .returned (.tuple #[.int .i64 (belL t mi p), .int .i64 (belR t mi p)]) ∧ Below W.heap.size W w') := fun W sb p h1 h2 => sbelow_any sb base b o c t mi p W h1 h2
  clear h hf
  go_enter Try.func91, Try.ntmps91
  go_wp2_with fail
  generalize hW0 : (w.alloc (.cells #[.slice none 0 0, .int .i64 0, .bool false, .int .i64 0, .int .i64 0, .int .i64 0, .int .i64 0, .int .i64 0, .int .i64 0, .int .i64 0, .int .i64 0, .int .i64 0] 98)).alloc (.cells #[.slice base t.length c, .int .i64 root, .bool mi, .int .i64 x, .int .i64 0, .int .i64 0, .int .i64 0, .int .i64 0, .int .i64 0, .int .i64 0, .int .i64 0, .int .i64 0] 98) = W0
  have S0 : Hid (S12 w W0 (.slice base t.length c) root mi x 0 0 0 0 0 0 0 0) := by
    rw [← hW0]
    exact ⟨heap_alloc_at _ _ _ (by simp), (heap_alloc_old _ _ (by simp)).trans (heap_alloc_at _ _ _ rfl), (below_alloc _ _).alloc (below_alloc _ _).size _⟩
  clear hW0
  refine (BE.out _ _ x (S0.out.st HA.out) hx).mono ?_
  rintro e w1 ⟨rfl, hb⟩
  have A1 : Hid (S12 w w1 (.slice base t.length c) root mi x 0 0 0 0 0 0 0 0) := S0.out.quiet hb
  have lt1 := A1.out.lt
  obtain ⟨p4, f4⟩ := cell_of A1.out.box 4 _ rfl
  obtain ⟨p5, f5⟩ := cell_of A1.out.box 5 _ rfl
  have S1 : Hid (S12 w ((w1.setCell ⟨w.heap.size + 1, 4, none⟩ (.int .i64 (belL t mi x))).setCell ⟨w.heap.size + 1, 5, none⟩ (.int .i64 (belR t mi x))) (.slice base t.length c) root mi x (belL t mi x) (belR t mi x) 0 0 0 0 0 0) := (A1.out.set4 (belL t mi x)).set5 (belR t mi x)
  clear hb S0
  go_wp2_with fail
  clear p4 f4 p5 f5 lt1 A1
  generalize (w1.setCell ⟨w.heap.size + 1, 4, none⟩ (.int .i64 (belL t mi x))).setCell ⟨w.heap.size + 1, 5, none⟩ (.int .i64 (belR t mi x)) = V1 at *
  refine (BE.out _ _ (belL t mi x) (S1.out.st HA.out) o1).mono ?_
  rintro e w2 ⟨rfl, hb⟩
  have A2 : Hid (S12 w w2 (.slice base t.length c) root mi x (belL t mi x) (belR t mi x) 0 0 0 0 0 0) := S1.out.quiet hb
  have lt2 := A2.out.lt
  obtain ⟨p6, f6⟩ := cell_of A2.out.box 6 _ rfl
  obtain ⟨p7, f7⟩ := cell_of A2.out.box 7 _ rfl
  obtain ⟨p5, -⟩ := cell_of A2.out.box 5 _ rfl
  have S2 : Hid (S12 w ((w2.setCell ⟨w.heap.size + 1, 6, none⟩ (.int .i64 (belL t mi (belL t mi x)))).setCell ⟨w.heap.size + 1, 7, none⟩ (.int .i64 (belR t mi (belL t mi x)))) (.slice base t.length c) root mi x (belL t mi x) (belR t mi x) (belL t mi (belL t mi x)) (belR t mi (belL t mi x)) 0 0 0 0) := (A2.out.set6 (belL t mi (belL t mi x))).set7 (belR t mi (belL t mi x))
  clear hb S1
  go_wp2_with fail
  clear p6 f6 p7 f7 lt2 A2 p5
  generalize (w2.setCell ⟨w.heap.size + 1, 6, none⟩ (.int .i64 (belL t mi (belL t mi x)))).setCell ⟨w.heap.size + 1, 7, none⟩ (.int .i64 (belR t mi (belL t mi x))) = V2 at *
  refine (BE.out _ _ (belR t mi x) (S2.out.st HA.out) o2).mono ?_
  rintro e w3 ⟨rfl, hb⟩
  have A3 : Hid (S12 w w3 (.slice base t.length c) root mi x (belL t mi x) (belR t mi x) (belL t mi (belL t mi x)) (belR t mi (belL t mi x)) 0 0 0 0) := S2.out.quiet hb
  have lt3 := A3.out.lt
  obtain ⟨p8, f8⟩ := cell_of A3.out.box 8 _ rfl
  obtain ⟨p9, f9⟩ := cell_of A3.out.box 9 _ rfl
  have S3 : Hid (S12 w ((w3.setCell ⟨w.heap.size + 1, 8, none⟩ (.int .i64 (belL t mi (belR t mi x)))).setCell ⟨w.heap.size + 1, 9, none⟩ (.int .i64 (belR t mi (belR t mi x)))) (.slice base t.length c) root mi x (belL t mi x) (belR t mi x) (belL t mi (belL t mi x)) (belR t mi (belL t mi x)) (belL t mi (belR t mi x)) (belR t mi (belR t mi x)) 0 0) := (A3.out.set8 (belL t mi (belR t mi x))).set9 (belR t mi (belR t mi x))
  clear hb S2
  go_wp2_with fail
  clear p8 f8 p9 f9 lt3 A3
  generalize (w3.setCell ⟨w.heap.size + 1, 8, none⟩ (.int .i64 (belL t mi (belR t mi x)))).setCell ⟨w.heap.size + 1, 9, none⟩ (.int .i64 (belR t mi (belR t mi x))) = V3 at *
  refine (BE.out _ _ (belL t mi (belR t mi x)) (S3.out.st HA.out) o5).mono ?_
  rintro e w4 ⟨rfl, hb⟩
  have A4 : Hid (S12 w w4 (.slice base t.length c) root mi x (belL t mi x) (belR t mi x) (belL t mi (belL t mi x)) (belR t mi (belL t mi x)) (belL t mi (belR t mi x)) (belR t mi (belR t mi x)) 0 0) := S3.out.quiet hb
  have lt4 := A4.out.lt
  obtain ⟨p0, f0⟩ := cell_of A4.out.box 0 _ rfl
  obtain ⟨p1, f1⟩ := cell_of A4.out.box 1 _ rfl
  obtain ⟨p2, f2⟩ := cell_of A4.out.box 2 _ rfl
  obtain ⟨p3, f3⟩ := cell_of A4.out.box 3 _ rfl
  obtain ⟨p4, f4⟩ := cell_of A4.out.box 4 _ rfl
  obtain ⟨p5, f5⟩ := cell_of A4.out.box 5 _ rfl
  obtain ⟨p6, f6⟩ := cell_of A4.out.box 6 _ rfl
  obtain ⟨p7, f7⟩ := cell_of A4.out.box 7 _ rfl
  obtain ⟨p8, f8⟩ := cell_of A4.out.box 8 _ rfl
  obtain ⟨p9, f9⟩ := cell_of A4.out.box 9 _ rfl
  obtain ⟨p10, f10⟩ := cell_of A4.out.box 10 _ rfl
  obtain ⟨p11, f11⟩ := cell_of A4.out.box 11 _ rfl
  obtain ⟨r0, g0⟩ := cell_of A4.out.res 0 _ rfl
  obtain ⟨r1, g1⟩ := cell_of A4.out.res 1 _ rfl
  obtain ⟨r2, g2⟩ := cell_of A4.out.res 2 _ rfl
  obtain ⟨r3, g3⟩ := cell_of A4.out.res 3 _ rfl
  obtain ⟨r4, g4⟩ := cell_of A4.out.res 4 _ rfl
  obtain ⟨r5, g5⟩ := cell_of A4.out.res 5 _ rfl
  obtain ⟨r6, g6⟩ := cell_of A4.out.res 6 _ rfl
  obtain ⟨r7, g7⟩ := cell_of A4.out.res 7 _ rfl
  obtain ⟨r8, g8⟩ := cell_of A4.out.res 8 _ rfl
  obtain ⟨r9, g9⟩ := cell_of A4.out.res 9 _ rfl
  obtain ⟨r10, g10⟩ := cell_of A4.out.res 10 _ rfl
  obtain ⟨r11, g11⟩ := cell_of A4.out.res 11 _ rfl
  have lt4' : w.heap.size < w4.heap.size := by omega
  have ne1 : w.heap.size ≠ w.heap.size + 1 := by omega
  clear hb S3
  go_wp2_with fail
  (try simp only [Exit.inBlock, Exit.then])
  refine bodyPost_ret (v := .agg #[.slice base t.length c, .int .i64 root, .bool mi, .int .i64 x, .int .i64 (belL t mi x), .int .i64 (belR t mi x), .int .i64 (belL t mi (belL t mi x)), .int .i64 (belR t mi (belL t mi x)), .int .i64 (belL t mi (belR t mi x)), .int .i64 (belR t mi (belR t mi x)), .int .i64 (belL t mi (belL t mi (belR t mi x))), .int .i64 (belR t mi (belL t mi (belR t mi x)))]) ?_ rfl ⟨rfl, ?_⟩
  · rw [results_cell1 rfl]; go_simp
  · exact ((((((((((((((A4.out.below).setCell (Nat.le_succ _) _).setCell (Nat.le_succ _) _).setCell (Nat.le_refl _) _).setCell (Nat.le_refl _) _).setCell (Nat.le_refl _) _).setCell (Nat.le_refl _) _).setCell (Nat.le_refl _) _).setCell (Nat.le_refl _) _).setCell (Nat.le_refl _) _).setCell (Nat.le_refl _) _).setCell (Nat.le_refl _) _).setCell (Nat.le_refl _) _).setCell (Nat.le_refl _) _).setCell (Nat.le_refl _) _
end Go.Proofs.Ytfjkddjjpbdjkaa
