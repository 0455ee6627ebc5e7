/- What stays true while a row of accesses goes on: of Do, and of Steps. -/
import Derived.Test.YtffnoaafmaeihaaGreatOuts
namespace Go.Proofs.YtffnoaafmaeihaaGreat
open Go.RowKit

/-- Behind k accesses of Do: old memory stands; the word holds v; the first k answers are there. -/
structure RowInv (K : Int) (w wr : World) (bw bo n k : Nat) (v : Int) (O : Nat → Int) (V : Nat → Bool) : Prop where
  below : Below w.heap.size w wr
  cell : wr.cell? ⟨bw, 0, none⟩ = some (cv K v)
  fro : wr.frozen? ⟨bw, 0, none⟩ = false
  outs : OutsTo wr bo n k O V
  sz : bo < wr.heap.size

theorem heap_alloc_lt (w : World) (o : Obj) (b : Nat) (h : b < w.heap.size) : (w.alloc o).heap[b]? = w.heap[b]? := Below.heap_alloc w o b h

theorem RowInv.lt {K : Int} {w wr : World} {bw bo n k : Nat} {v : Int} {O : Nat → Int} {V : Nat → Bool} (h : RowInv K w wr bw bo n k v O V) (hbo : bw < bo) : bw < wr.heap.size := by have := h.sz; omega

theorem RowInv.held {K : Int} {w wr : World} {bw bo n k : Nat} {v : Int} {O : Nat → Int} {V : Nat → Bool} (h : RowInv K w wr bw bo n k v O V) (hbo : bw < bo) (o : Obj) :
    (wr.alloc o).cell? ⟨bw, 0, none⟩ = some (cv K v) ∧ (wr.alloc o).frozen? ⟨bw, 0, none⟩ = false ∧ bw < (wr.alloc o).heap.size := by
  have hl := h.lt hbo
  exact ⟨by rw [World.cell?_alloc_past _ _ _ hl]; exact h.cell, by rw [World.frozen?_alloc_past _ _ _ hl]; exact h.fro, by simp; omega⟩

theorem RowInv.outs3 {K : Int} {w wr w3 : World} {bw bo n k : Nat} {v : Int} {u : Value} {O : Nat → Int} {V : Nat → Bool} (h : RowInv K w wr bw bo n k v O V) (hbo : bw < bo) (o : Obj) (hh : Held bw u (wr.alloc o) w3) : OutsTo w3 bo n k O V := by
  have hs := h.sz
  exact h.outs.same ((hh.off.block bo (by simp; omega) (by omega)).trans (heap_alloc_lt _ _ _ hs))

theorem RowInv.room {K : Int} {w wr w3 : World} {bw bo n k : Nat} {v : Int} {u : Value} {O : Nat → Int} {V : Nat → Bool} (h : RowInv K w wr bw bo n k v O V) (hbo : bw < bo) (hk : k < n) (o : Obj) (hh : Held bw u (wr.alloc o) w3) :
    w3.cell? ⟨bo, k * 2, none⟩ = some (.int .u64 0) ∧ w3.cell? ⟨bo, k * 2 + 1, none⟩ = some (.bool false) ∧ w3.frozen? ⟨bo, k * 2, none⟩ = false ∧ w3.frozen? ⟨bo, k * 2 + 1, none⟩ = false := by
  obtain ⟨a, b, c, d⟩ := h.outs3 hbo o hh k hk
  exact ⟨by rw [a, if_neg (by omega)], by rw [b]; simp, c, d⟩

theorem RowInv.next {K : Int} {w wr w3 : World} {bw bo n k : Nat} {v v' : Int} {O : Nat → Int} {V : Nat → Bool} (h : RowInv K w wr bw bo n k v O V) (hw : w.heap.size ≤ bw) (hbo : bw < bo) (hk : k < n) (o : Obj) (hh : Held bw (cv K v') (wr.alloc o) w3) :
    RowInv K w ((w3.setCell ⟨bo, k * 2, none⟩ (.int .u64 (O k))).setCell ⟨bo, k * 2 + 1, none⟩ (.bool (V k))) bw bo n (k + 1) v' O V := by
  have hs := h.sz
  have hne : ∀ j, (⟨bo, j, none⟩ : Addr) ≠ ⟨bw, 0, none⟩ := fun j e => by have := congrArg Addr.block e; simp at this; omega
  have hb3 : Below w.heap.size w w3 := (h.below.alloc h.below.size o).trans (hh.off.below hw (by have := h.below.size; simp; omega))
  refine ⟨(hb3.setCell (p := ⟨bo, k * 2, none⟩) (by simp; omega) _).setCell (p := ⟨bo, k * 2 + 1, none⟩) (by simp; omega) _, ?_, ?_, (h.outs3 hbo o hh).step hk, ?_⟩
  · rw [World.cell?_setCell_other _ _ _ _ (hne _), World.cell?_setCell_other _ _ _ _ (hne _)]; exact hh.cell
  · simpa using hh.fro
  · have := hh.off.size; simp at this; simp [World.setCell]; omega

/-- Block bo has room for n numbers; the first m are there. -/
def NumsTo (w : World) (bo n m : Nat) (O : Nat → Int) : Prop :=
  ∀ j, j < n → w.cell? ⟨bo, j, none⟩ = some (.int .u64 (if j < m then O j else 0)) ∧ w.frozen? ⟨bo, j, none⟩ = false

theorem NumsTo.same {w w' : World} {bo n m : Nat} {O : Nat → Int} (h : NumsTo w bo n m O) (hb : w'.heap[bo]? = w.heap[bo]?) : NumsTo w' bo n m O := by
  intro j hj
  obtain ⟨a, c⟩ := h j hj
  refine ⟨?_, ?_⟩
  · rw [World.cell?_of_block (w := w) (w' := w') (a := ⟨bo, j, none⟩) hb]; exact a
  · rw [World.frozen?_of_block (w := w) (w' := w') (a := ⟨bo, j, none⟩) hb]; exact c

theorem NumsTo.step {w : World} {bo n m : Nat} {O : Nat → Int} (h : NumsTo w bo n m O) (_hm : m < n) : NumsTo (w.setCell ⟨bo, m, none⟩ (.int .u64 (O m))) bo n (m + 1) O := by
  intro j hj
  obtain ⟨a, c⟩ := h j hj
  refine ⟨?_, by simpa using c⟩
  by_cases e : j = m
  · subst e
    rw [World.cell?_setCell_same _ _ _ a]
    simp
  · rw [World.cell?_setCell_other _ _ _ _ (addr_ne (by omega)), a]
    by_cases l : j < m
    · rw [if_pos l, if_pos (by omega)]
    · rw [if_neg l, if_neg (by omega)]

theorem NumsTo.made (w : World) (n : Nat) (e : TypeId) (O : Nat → Int) : NumsTo (w.alloc (.cells (madeCells #[.int .u64 0] n) e)) w.heap.size n 0 O := by
  intro j hj
  have c0 : (madeCells #[.int .u64 0] n)[j]? = some (.int .u64 0) := by
    simp [madeCells, hj, Nat.mod_one]
  exact ⟨by simp [c0], by simp⟩

theorem NumsTo.done {w : World} {bo n : Nat} {O : Nat → Int} (h : NumsTo w bo n n O) : ∀ j, j < n → w.cell? ⟨bo, j, none⟩ = some (.int .u64 (O j)) ∧ w.frozen? ⟨bo, j, none⟩ = false := by
  intro j hj
  obtain ⟨a, c⟩ := h j hj
  exact ⟨by rw [a, if_pos hj], c⟩

/-- Behind k accesses of Steps. -/
structure StepInv (K : Int) (w wr : World) (bw bo n k : Nat) (v : Int) (O : Nat → Int) : Prop where
  below : Below w.heap.size w wr
  cell : wr.cell? ⟨bw, 0, none⟩ = some (cv K v)
  fro : wr.frozen? ⟨bw, 0, none⟩ = false
  outs : NumsTo wr bo n k O
  sz : bo < wr.heap.size

theorem StepInv.lt {K : Int} {w wr : World} {bw bo n k : Nat} {v : Int} {O : Nat → Int} (h : StepInv K w wr bw bo n k v O) (hbo : bw < bo) : bw < wr.heap.size := by have := h.sz; omega

theorem StepInv.held {K : Int} {w wr : World} {bw bo n k : Nat} {v : Int} {O : Nat → Int} (h : StepInv K w wr bw bo n k v O) (hbo : bw < bo) (o : Obj) :
    (wr.alloc o).cell? ⟨bw, 0, none⟩ = some (cv K v) ∧ (wr.alloc o).frozen? ⟨bw, 0, none⟩ = false ∧ bw < (wr.alloc o).heap.size := by
  have hl := h.lt hbo
  exact ⟨by rw [World.cell?_alloc_past _ _ _ hl]; exact h.cell, by rw [World.frozen?_alloc_past _ _ _ hl]; exact h.fro, by simp; omega⟩

theorem StepInv.outs3 {K : Int} {w wr w3 : World} {bw bo n k : Nat} {v : Int} {u : Value} {O : Nat → Int} (h : StepInv K w wr bw bo n k v O) (hbo : bw < bo) (o : Obj) (hh : Held bw u (wr.alloc o) w3) : NumsTo w3 bo n k O := by
  have hs := h.sz
  exact h.outs.same ((hh.off.block bo (by simp; omega) (by omega)).trans (heap_alloc_lt _ _ _ hs))

theorem StepInv.room {K : Int} {w wr w3 : World} {bw bo n k : Nat} {v : Int} {u : Value} {O : Nat → Int} (h : StepInv K w wr bw bo n k v O) (hbo : bw < bo) (hk : k < n) (o : Obj) (hh : Held bw u (wr.alloc o) w3) :
    w3.cell? ⟨bo, k, none⟩ = some (.int .u64 0) ∧ w3.frozen? ⟨bo, k, none⟩ = false := by
  obtain ⟨a, c⟩ := h.outs3 hbo o hh k hk
  exact ⟨by rw [a, if_neg (by omega)], c⟩

theorem StepInv.next {K : Int} {w wr w3 : World} {bw bo n k : Nat} {v v' : Int} {O : Nat → Int} (h : StepInv K w wr bw bo n k v O) (hw : w.heap.size ≤ bw) (hbo : bw < bo) (hk : k < n) (o : Obj) (hh : Held bw (cv K v') (wr.alloc o) w3) :
    StepInv K w (w3.setCell ⟨bo, k, none⟩ (.int .u64 (O k))) bw bo n (k + 1) v' O := by
  have hs := h.sz
  have hne : ∀ j, (⟨bo, j, none⟩ : Addr) ≠ ⟨bw, 0, none⟩ := fun j e => by have := congrArg Addr.block e; simp at this; omega
  have hb3 : Below w.heap.size w w3 := (h.below.alloc h.below.size o).trans (hh.off.below hw (by have := h.below.size; simp; omega))
  refine ⟨hb3.setCell (p := ⟨bo, k, none⟩) (by simp; omega) _, ?_, ?_, (h.outs3 hbo o hh).step hk, ?_⟩
  · rw [World.cell?_setCell_other _ _ _ _ (hne _)]; exact hh.cell
  · simpa using hh.fro
  · have := hh.off.size; simp at this; simp [World.setCell]; omega

end Go.Proofs.YtffnoaafmaeihaaGreat
