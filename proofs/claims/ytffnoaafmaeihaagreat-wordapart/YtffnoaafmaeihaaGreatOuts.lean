/- A row of answers in memory of its own, filled one by one. -/
import Derived.Test.YtffnoaafmaeihaaGreatNum
import Derived.Laws.MakeOwn
namespace Go.Proofs.YtffnoaafmaeihaaGreat
open Go.RowKit

/-- Block bo has room for n answers; the first m are there, the others are zero; none is frozen. -/
def OutsTo (w : World) (bo n m : Nat) (O : Nat → Int) (V : Nat → Bool) : Prop :=
  ∀ j, j < n → w.cell? ⟨bo, j * 2, none⟩ = some (.int .u64 (if j < m then O j else 0)) ∧ w.cell? ⟨bo, j * 2 + 1, none⟩ = some (.bool (decide (j < m) && V j)) ∧
    w.frozen? ⟨bo, j * 2, none⟩ = false ∧ w.frozen? ⟨bo, j * 2 + 1, none⟩ = false

theorem addr_ne {b i j : Nat} (h : i ≠ j) : (⟨b, i, none⟩ : Addr) ≠ ⟨b, j, none⟩ := fun e => h (congrArg Addr.off e)

theorem OutsTo.same {w w' : World} {bo n m : Nat} {O : Nat → Int} {V : Nat → Bool} (h : OutsTo w bo n m O V) (hb : w'.heap[bo]? = w.heap[bo]?) : OutsTo w' bo n m O V := by
  intro j hj
  obtain ⟨a, b, c, d⟩ := h j hj
  refine ⟨?_, ?_, ?_, ?_⟩
  · rw [World.cell?_of_block (w := w) (w' := w') (a := ⟨bo, j * 2, none⟩) hb]; exact a
  · rw [World.cell?_of_block (w := w) (w' := w') (a := ⟨bo, j * 2 + 1, none⟩) hb]; exact b
  · rw [World.frozen?_of_block (w := w) (w' := w') (a := ⟨bo, j * 2, none⟩) hb]; exact c
  · rw [World.frozen?_of_block (w := w) (w' := w') (a := ⟨bo, j * 2 + 1, none⟩) hb]; exact d

theorem OutsTo.step {w : World} {bo n m : Nat} {O : Nat → Int} {V : Nat → Bool} (h : OutsTo w bo n m O V) (hm : m < n) :
    OutsTo ((w.setCell ⟨bo, m * 2, none⟩ (.int .u64 (O m))).setCell ⟨bo, m * 2 + 1, none⟩ (.bool (V m))) bo n (m + 1) O V := by
  intro j hj
  obtain ⟨a, b, c, d⟩ := h j hj
  refine ⟨?_, ?_, by simpa using c, by simpa using d⟩
  · rw [World.cell?_setCell_other _ _ _ _ (addr_ne (by omega))]
    by_cases e : j = m
    · subst e
      rw [World.cell?_setCell_same _ _ _ a]
      simp
    · rw [World.cell?_setCell_other _ _ _ _ (addr_ne (by omega)), a]
      by_cases l : j < m
      · rw [if_pos l, if_pos (by omega)]
      · rw [if_neg l, if_neg (by omega)]
  · by_cases e : j = m
    · subst e
      rw [World.cell?_setCell_same _ _ _ ((World.cell?_setCell_other _ _ _ _ (addr_ne (by omega))).trans b)]
      simp
    · rw [World.cell?_setCell_other _ _ _ _ (addr_ne (by omega)), World.cell?_setCell_other _ _ _ _ (addr_ne (by omega)), b]
      have : decide (j < m) = decide (j < m + 1) := by
        by_cases l : j < m
        · rw [decide_eq_true l, decide_eq_true (by omega)]
        · rw [decide_eq_false l, decide_eq_false (by omega)]
      rw [this]

theorem OutsTo.made (w : World) (n : Nat) (e : TypeId) (O : Nat → Int) (V : Nat → Bool) :
    OutsTo (w.alloc (.cells (madeCells #[.int .u64 0, .bool false] (n * 2)) e)) w.heap.size n 0 O V := by
  intro j hj
  have c0 : (madeCells #[.int .u64 0, .bool false] (n * 2))[j * 2]? = some (.int .u64 0) := by
    simp [madeCells, show j * 2 < n * 2 by omega]
  have c1 : (madeCells #[.int .u64 0, .bool false] (n * 2))[j * 2 + 1]? = some (.bool false) := by
    simp [madeCells, show j * 2 + 1 < n * 2 by omega, show (j * 2 + 1) % 2 = 1 by omega]
  refine ⟨?_, ?_, by simp, by simp⟩
  · simp [c0]
  · simp [c1]

/-- A 'make' of n elements whose zero is known by the program's table. -/
theorem run_make_known {P : Program} (t e : TypeId) (z : Value) (sz bytes : Nat) (ht : P.underlying t = some (.slice e)) (hinfo : (P.info? e).map (fun i => (i.zero, i.size, i.bytes)) = some (some z, sz, bytes)) (n : Nat) (hn : bytes * n ≤ 281474976710656) (h63 : n ≤ 9223372036854775807) (w : World) :
    (Instr.makeSlice t (.int .i64 (n : Int)) (.int .i64 (n : Int))).run P w = .ok (.slice (some ⟨w.heap.size, 0, none⟩) n n) (w.alloc (.cells (madeCells z.cells (n * sz)) e)) := by
  obtain ⟨i, hi, he⟩ := Option.map_eq_some_iff.1 hinfo
  simp only [Prod.mk.injEq] at he
  obtain ⟨h1, h2, h3⟩ := he
  subst h2 h3
  have hb : (i.bytes : Int) * (n : Int) ≤ 281474976710656 := by
    have h : ((i.bytes * n : Nat) : Int) ≤ 281474976710656 := by omega
    rwa [Int.natCast_mul] at h
  have h := run_make (P := P) w t e i z ht hi h1 .i64 .i64 (n : Int) (n : Int) (by omega) (Int.le_refl _) hb (by omega)
  simpa using h

theorem OutsTo.done {w : World} {bo n : Nat} {O : Nat → Int} {V : Nat → Bool} (h : OutsTo w bo n n O V) : ∀ j, j < n → w.cell? ⟨bo, j * 2, none⟩ = some (.int .u64 (O j)) ∧ w.cell? ⟨bo, j * 2 + 1, none⟩ = some (.bool (V j)) ∧ w.frozen? ⟨bo, j * 2, none⟩ = false ∧ w.frozen? ⟨bo, j * 2 + 1, none⟩ = false := by
  intro j hj
  obtain ⟨a, b, c, d⟩ := h j hj
  exact ⟨by rw [a, if_pos hj], by rw [b]; simp [hj], c, d⟩

end Go.Proofs.YtffnoaafmaeihaaGreat
