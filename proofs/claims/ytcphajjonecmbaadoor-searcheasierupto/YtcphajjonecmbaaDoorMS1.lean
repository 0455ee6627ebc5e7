
/- Layer 6: the blocks of the reference's Step. No walk. -/

import Derived.Test.YtcphajjonecmbaaDoorMR4

namespace Go.Proofs.YtcphajjonecmbaaDoor

open Go.RowKit

theorem cell_newM (w : World) (cs : Array Value) (T : TypeId) (k : Nat) : (w.alloc (.cells cs T)).cell? ⟨w.heap.size, k, none⟩ = cs[k]? := by
  simp only [World.cell?, heap_alloc_at w (.cells cs T) w.heap.size rfl]
  rfl
theorem frozen_newM (w : World) (cs : Array Value) (T : TypeId) (k : Nat) : (w.alloc (.cells cs T)).frozen? ⟨w.heap.size, k, none⟩ = false := by
  simp only [World.frozen?, heap_alloc_at w (.cells cs T) w.heap.size rfl]
  simp
/-- The operation, the answer to be, the answer so far, in the three blocks behind w. -/
structure StA (wr w : World) (o : OpD) (r : RetD) (v : Value) : Prop where
  below : Below w.heap.size w wr
  size : w.heap.size + 2 < wr.heap.size
  op : wr.cell? ⟨w.heap.size, 0, none⟩ = some (.int .i64 o.kind) ∧ wr.cell? ⟨w.heap.size, 1, none⟩ = some (.int .i64 o.key) ∧ wr.cell? ⟨w.heap.size, 2, none⟩ = some (.int .i64 o.val) ∧ wr.cell? ⟨w.heap.size, 3, none⟩ = some (.int .i64 o.hi)
  res : wr.cell? ⟨w.heap.size + 1, 0, none⟩ = some (.bool false) ∧ wr.cell? ⟨w.heap.size + 1, 1, none⟩ = some (.int .i64 0) ∧ wr.cell? ⟨w.heap.size + 1, 2, none⟩ = some (.int .i64 0) ∧ wr.cell? ⟨w.heap.size + 1, 3, none⟩ = some (.slice none 0 0)
  ret : wr.cell? ⟨w.heap.size + 2, 0, none⟩ = some (.bool r.ok) ∧ wr.cell? ⟨w.heap.size + 2, 1, none⟩ = some (.int .i64 r.key) ∧ wr.cell? ⟨w.heap.size + 2, 2, none⟩ = some (.int .i64 r.val) ∧ wr.cell? ⟨w.heap.size + 2, 3, none⟩ = some v
  free : ∀ i, wr.frozen? ⟨w.heap.size + 1, i, none⟩ = false ∧ wr.frozen? ⟨w.heap.size + 2, i, none⟩ = false
theorem StA.low {wr wr' w : World} {o : OpD} {r : RetD} {v : Value} {B : Nat} (h : StA wr w o r v) (hb : Below B wr wr') (hB : w.heap.size + 2 < B) : StA wr' w o r v := by
  have hs := h.size
  have hz := hb.size
  have q : ∀ i, wr'.cell? ⟨w.heap.size, i, none⟩ = wr.cell? ⟨w.heap.size, i, none⟩ := fun i => hb.cell (p := ⟨w.heap.size, i, none⟩) (show w.heap.size < B by omega)
  have q1 : ∀ i, wr'.cell? ⟨w.heap.size + 1, i, none⟩ = wr.cell? ⟨w.heap.size + 1, i, none⟩ := fun i => hb.cell (p := ⟨w.heap.size + 1, i, none⟩) (show w.heap.size + 1 < B by omega)
  have q2 : ∀ i, wr'.cell? ⟨w.heap.size + 2, i, none⟩ = wr.cell? ⟨w.heap.size + 2, i, none⟩ := fun i => hb.cell (p := ⟨w.heap.size + 2, i, none⟩) (show w.heap.size + 2 < B by omega)
  refine ⟨h.below.trans (hb.mono (by omega)), by omega, ?_, ?_, ?_, fun i => ⟨(hb.frozen (p := ⟨w.heap.size + 1, i, none⟩) (show w.heap.size + 1 < B by omega)).trans (h.free i).1, (hb.frozen (p := ⟨w.heap.size + 2, i, none⟩) (show w.heap.size + 2 < B by omega)).trans (h.free i).2⟩⟩
  · simp only [q]; exact h.op
  · simp only [q1]; exact h.res
  · simp only [q2]; exact h.ret
theorem StA.store {wr w : World} {o : OpD} {r : RetD} {v : Value} (h : StA wr w o r v) (a : Bool) (x y : Int) (ps : PL) (u : Value) : StA ((((wr.setCell ⟨w.heap.size + 2, 0, none⟩ (.bool a)).setCell ⟨w.heap.size + 2, 1, none⟩ (.int .i64 x)).setCell ⟨w.heap.size + 2, 2, none⟩ (.int .i64 y)).setCell ⟨w.heap.size + 2, 3, none⟩ u) w o ⟨a, x, y, ps⟩ u := by
  have hs := h.size
  obtain ⟨a0, a1, a2, a3⟩ := h.op
  obtain ⟨b0, b1, b2, b3⟩ := h.res
  obtain ⟨c0, c1, c2, c3⟩ := h.ret
  have hn : ∀ {i j : Nat}, i ≠ j → (⟨w.heap.size + 2, i, none⟩ : Addr) ≠ ⟨w.heap.size + 2, j, none⟩ := fun e q => e (congrArg Addr.off q)
  have hk : ∀ {i j : Nat}, (⟨w.heap.size + 2, i, none⟩ : Addr) ≠ ⟨w.heap.size + 1, j, none⟩ := fun q => absurd (congrArg Addr.block q) (by simp)
  have hm : ∀ {i j : Nat}, (⟨w.heap.size + 2, i, none⟩ : Addr) ≠ ⟨w.heap.size, j, none⟩ := fun q => absurd (congrArg Addr.block q) (by simp)
  refine ⟨(((h.below.setCell (show w.heap.size ≤ w.heap.size + 2 by omega) _).setCell (show w.heap.size ≤ w.heap.size + 2 by omega) _).setCell (show w.heap.size ≤ w.heap.size + 2 by omega) _).setCell (show w.heap.size ≤ w.heap.size + 2 by omega) _, by simp; omega, ⟨?_, ?_, ?_, ?_⟩, ⟨?_, ?_, ?_, ?_⟩, ⟨?_, ?_, ?_, ?_⟩, fun i => ⟨by simpa using (h.free i).1, by simpa using (h.free i).2⟩⟩
  · rw [World.cell?_setCell_other _ _ _ _ hm, World.cell?_setCell_other _ _ _ _ hm, World.cell?_setCell_other _ _ _ _ hm, World.cell?_setCell_other _ _ _ _ hm]; exact a0
  · rw [World.cell?_setCell_other _ _ _ _ hm, World.cell?_setCell_other _ _ _ _ hm, World.cell?_setCell_other _ _ _ _ hm, World.cell?_setCell_other _ _ _ _ hm]; exact a1
  · rw [World.cell?_setCell_other _ _ _ _ hm, World.cell?_setCell_other _ _ _ _ hm, World.cell?_setCell_other _ _ _ _ hm, World.cell?_setCell_other _ _ _ _ hm]; exact a2
  · rw [World.cell?_setCell_other _ _ _ _ hm, World.cell?_setCell_other _ _ _ _ hm, World.cell?_setCell_other _ _ _ _ hm, World.cell?_setCell_other _ _ _ _ hm]; exact a3
  · rw [World.cell?_setCell_other _ _ _ _ hk, World.cell?_setCell_other _ _ _ _ hk, World.cell?_setCell_other _ _ _ _ hk, World.cell?_setCell_other _ _ _ _ hk]; exact b0
  · rw [World.cell?_setCell_other _ _ _ _ hk, World.cell?_setCell_other _ _ _ _ hk, World.cell?_setCell_other _ _ _ _ hk, World.cell?_setCell_other _ _ _ _ hk]; exact b1
  · rw [World.cell?_setCell_other _ _ _ _ hk, World.cell?_setCell_other _ _ _ _ hk, World.cell?_setCell_other _ _ _ _ hk, World.cell?_setCell_other _ _ _ _ hk]; exact b2
  · rw [World.cell?_setCell_other _ _ _ _ hk, World.cell?_setCell_other _ _ _ _ hk, World.cell?_setCell_other _ _ _ _ hk, World.cell?_setCell_other _ _ _ _ hk]; exact b3
  · rw [World.cell?_setCell_other _ _ _ _ (hn (by omega)), World.cell?_setCell_other _ _ _ _ (hn (by omega)), World.cell?_setCell_other _ _ _ _ (hn (by omega)), World.cell?_setCell_same _ _ _ c0]
  · rw [World.cell?_setCell_other _ _ _ _ (hn (by omega)), World.cell?_setCell_other _ _ _ _ (hn (by omega))]
    exact World.cell?_setCell_same _ _ _ (by rw [World.cell?_setCell_other _ _ _ _ (hn (by omega))]; exact c1)
  · rw [World.cell?_setCell_other _ _ _ _ (hn (by omega))]
    exact World.cell?_setCell_same _ _ _ (by rw [World.cell?_setCell_other _ _ _ _ (hn (by omega)), World.cell?_setCell_other _ _ _ _ (hn (by omega))]; exact c2)
  · exact World.cell?_setCell_same _ _ _ (by rw [World.cell?_setCell_other _ _ _ _ (hn (by omega)), World.cell?_setCell_other _ _ _ _ (hn (by omega)), World.cell?_setCell_other _ _ _ _ (hn (by omega))]; exact c3)
theorem StA.made (w : World) (o : OpD) (T U V : TypeId) : StA (((w.alloc (.cells #[.int .i64 o.kind, .int .i64 o.key, .int .i64 o.val, .int .i64 o.hi] T)).alloc (.cells #[.bool false, .int .i64 0, .int .i64 0, .slice none 0 0] U)).alloc (.cells #[.bool false, .int .i64 0, .int .i64 0, .slice none 0 0] V)) w o RetD.zero (.slice none 0 0) := by
  generalize hA : Obj.cells #[.int .i64 o.kind, .int .i64 o.key, .int .i64 o.val, .int .i64 o.hi] T = A
  generalize hB : Obj.cells #[.bool false, .int .i64 0, .int .i64 0, .slice none 0 0] U = B
  generalize hC : Obj.cells #[.bool false, .int .i64 0, .int .i64 0, .slice none 0 0] V = C
  have z1 : (w.alloc A).heap.size = w.heap.size + 1 := by simp
  have z2 : ((w.alloc A).alloc B).heap.size = w.heap.size + 2 := by simp
  have z3 : (((w.alloc A).alloc B).alloc C).heap.size = w.heap.size + 3 := by simp
  have b1 : Below (w.alloc A).heap.size (w.alloc A) ((w.alloc A).alloc B) := below_allocM _ _
  have b2 : Below ((w.alloc A).alloc B).heap.size ((w.alloc A).alloc B) (((w.alloc A).alloc B).alloc C) := below_allocM _ _
  have ca : ∀ k, (((w.alloc A).alloc B).alloc C).cell? ⟨w.heap.size, k, none⟩ = (#[.int .i64 o.kind, .int .i64 o.key, .int .i64 o.val, .int .i64 o.hi] : Array Value)[k]? := fun k => by
    rw [b2.cell (p := ⟨w.heap.size, k, none⟩) (show w.heap.size < _ by omega), b1.cell (p := ⟨w.heap.size, k, none⟩) (show w.heap.size < _ by omega), ← hA]
    exact cell_newM w _ T k
  have cb : ∀ k, (((w.alloc A).alloc B).alloc C).cell? ⟨w.heap.size + 1, k, none⟩ = (#[.bool false, .int .i64 0, .int .i64 0, .slice none 0 0] : Array Value)[k]? := fun k => by
    rw [b2.cell (p := ⟨w.heap.size + 1, k, none⟩) (show w.heap.size + 1 < _ by omega), ← z1, ← hB]
    exact cell_newM (w.alloc A) _ U k
  have cc : ∀ k, (((w.alloc A).alloc B).alloc C).cell? ⟨w.heap.size + 2, k, none⟩ = (#[.bool false, .int .i64 0, .int .i64 0, .slice none 0 0] : Array Value)[k]? := fun k => by
    rw [← z2, ← hC]
    exact cell_newM ((w.alloc A).alloc B) _ V k
  refine ⟨((below_allocM _ _).alloc (by simp) _).alloc (by simp; omega) _, by omega, ⟨ca 0, ca 1, ca 2, ca 3⟩, ⟨cb 0, cb 1, cb 2, cb 3⟩, ⟨cc 0, cc 1, cc 2, cc 3⟩, fun i => ⟨?_, ?_⟩⟩
  · rw [b2.frozen (p := ⟨w.heap.size + 1, i, none⟩) (show w.heap.size + 1 < _ by omega), ← z1, ← hB]
    exact frozen_newM (w.alloc A) _ U i
  · rw [← z2, ← hC]
    exact frozen_newM ((w.alloc A).alloc B) _ V i
/-- The answer stored into the result. -/
theorem StA.fin {wr w : World} {o : OpD} {r : RetD} {v : Value} (h : StA wr w o r v) (a : Bool) (x y : Int) (u : Value) :
    let W := (((wr.setCell ⟨w.heap.size + 1, 0, none⟩ (.bool a)).setCell ⟨w.heap.size + 1, 1, none⟩ (.int .i64 x)).setCell ⟨w.heap.size + 1, 2, none⟩ (.int .i64 y)).setCell ⟨w.heap.size + 1, 3, none⟩ u
    (W.cell? ⟨w.heap.size + 1, 0, none⟩ = some (.bool a) ∧ W.cell? ⟨w.heap.size + 1, 1, none⟩ = some (.int .i64 x) ∧ W.cell? ⟨w.heap.size + 1, 2, none⟩ = some (.int .i64 y) ∧ W.cell? ⟨w.heap.size + 1, 3, none⟩ = some u) ∧ Below w.heap.size w W ∧ ∀ B ps z, w.heap.size + 1 < B → OwnPM wr B ps z → OwnPM W B ps z := by
  intro W
  obtain ⟨b0, b1, b2, b3⟩ := h.res
  have hn : ∀ {i j : Nat}, i ≠ j → (⟨w.heap.size + 1, i, none⟩ : Addr) ≠ ⟨w.heap.size + 1, j, none⟩ := fun e q => e (congrArg Addr.off q)
  refine ⟨⟨?_, ?_, ?_, ?_⟩, (((h.below.setCell (show w.heap.size ≤ w.heap.size + 1 by omega) _).setCell (show w.heap.size ≤ w.heap.size + 1 by omega) _).setCell (show w.heap.size ≤ w.heap.size + 1 by omega) _).setCell (show w.heap.size ≤ w.heap.size + 1 by omega) _, fun B ps z hB ho => (((ho.set hB).set hB).set hB).set hB⟩
  · show World.cell? (World.setCell _ _ _) _ = _
    rw [World.cell?_setCell_other _ _ _ _ (hn (by omega)), World.cell?_setCell_other _ _ _ _ (hn (by omega)), World.cell?_setCell_other _ _ _ _ (hn (by omega)), World.cell?_setCell_same _ _ _ b0]
  · show World.cell? (World.setCell _ _ _) _ = _
    rw [World.cell?_setCell_other _ _ _ _ (hn (by omega)), World.cell?_setCell_other _ _ _ _ (hn (by omega))]
    exact World.cell?_setCell_same _ _ _ (by rw [World.cell?_setCell_other _ _ _ _ (hn (by omega))]; exact b1)
  · show World.cell? (World.setCell _ _ _) _ = _
    rw [World.cell?_setCell_other _ _ _ _ (hn (by omega))]
    exact World.cell?_setCell_same _ _ _ (by rw [World.cell?_setCell_other _ _ _ _ (hn (by omega)), World.cell?_setCell_other _ _ _ _ (hn (by omega))]; exact b2)
  · exact World.cell?_setCell_same _ _ _ (by rw [World.cell?_setCell_other _ _ _ _ (hn (by omega)), World.cell?_setCell_other _ _ _ _ (hn (by omega)), World.cell?_setCell_other _ _ _ _ (hn (by omega))]; exact b3)
end Go.Proofs.YtcphajjonecmbaaDoor
