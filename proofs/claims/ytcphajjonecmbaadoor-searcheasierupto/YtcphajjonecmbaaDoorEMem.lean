
/- Layer 5: events, spans and rows of numbers in memory; equality of operations and of pairs. -/

import Derived.Test.YtcphajjonecmbaaDoorESmall

import Derived.Laws.StructEq

import Derived.Laws.OwnMore

namespace Go.Proofs.YtcphajjonecmbaaDoor

open Go.RowKit

/-- The events lie in memory. -/
structure EvsAt (w : World) (base : Option Addr) (b o : Nat) (hs : List EvD) (pb : Nat → Option Addr) (pc pg po : Nat → Nat) : Prop where
  base : hs.length ≠ 0 → base = some ⟨b, o, none⟩
  lt : hs.length ≠ 0 → b < w.heap.size
  len : hs.length ≤ maxLen
  c0 : ∀ i, i < hs.length → w.cell? ⟨b, o + i * 10, none⟩ = some (.int .i64 (evAt hs i).th) ∧ w.cell? ⟨b, o + i * 10 + 1, none⟩ = some (.bool (evAt hs i).ret)
  c1 : ∀ i, i < hs.length → w.cell? ⟨b, o + i * 10 + 2, none⟩ = some (.int .i64 (evAt hs i).op.kind) ∧ w.cell? ⟨b, o + i * 10 + 3, none⟩ = some (.int .i64 (evAt hs i).op.key) ∧ w.cell? ⟨b, o + i * 10 + 4, none⟩ = some (.int .i64 (evAt hs i).op.val) ∧ w.cell? ⟨b, o + i * 10 + 5, none⟩ = some (.int .i64 (evAt hs i).op.hi)
  c2 : ∀ i, i < hs.length → w.cell? ⟨b, o + i * 10 + 6, none⟩ = some (.bool (evAt hs i).rt.ok) ∧ w.cell? ⟨b, o + i * 10 + 7, none⟩ = some (.int .i64 (evAt hs i).rt.key) ∧ w.cell? ⟨b, o + i * 10 + 8, none⟩ = some (.int .i64 (evAt hs i).rt.val) ∧ w.cell? ⟨b, o + i * 10 + 9, none⟩ = some (.slice (pb i) (evAt hs i).rt.pairs.length (pc i))
  prs : ∀ i, i < hs.length → PairsAt w (pb i) (pg i) (po i) (evAt hs i).rt.pairs ∧ (pb i = none → (evAt hs i).rt.pairs.length = 0 ∧ pc i = 0) ∧ (evAt hs i).rt.pairs.length * 16 ≤ 140737488355328
  thaw : ∀ i, i < hs.length * 10 → w.frozen? ⟨b, o + i, none⟩ = false
theorem EvsAt.below {w w' : World} {base : Option Addr} {b o : Nat} {hs : List EvD} {pb : Nat → Option Addr} {pc pg po : Nat → Nat} (h : EvsAt w base b o hs pb pc pg po) (hb : Below w.heap.size w w') : EvsAt w' base b o hs pb pc pg po := by
  have hc : ∀ i, i < hs.length → ∀ j, w'.cell? ⟨b, j, none⟩ = w.cell? ⟨b, j, none⟩ := fun i hi j => hb.cell (p := ⟨b, j, none⟩) (h.lt (by omega))
  refine ⟨h.base, fun hn => Nat.lt_of_lt_of_le (h.lt hn) hb.size, h.len, fun i hi => ?_, fun i hi => ?_, fun i hi => ?_, fun i hi => ⟨(h.prs i hi).1.below hb, (h.prs i hi).2⟩, fun i hi => (hb.frozen (p := ⟨b, o + i, none⟩) (h.lt (by omega))).trans (h.thaw i hi)⟩
  · have := hc i hi; simp only [this]; exact h.c0 i hi
  · have := hc i hi; simp only [this]; exact h.c1 i hi
  · have := hc i hi; simp only [this]; exact h.c2 i hi

def spCells : List Sp → List Value
  | [] => []
  | p :: t => .int .i64 p.1 :: .int .i64 p.2 :: spCells t
theorem spCells_append : ∀ a b : List Sp, spCells (a ++ b) = spCells a ++ spCells b
  | [], _ => rfl
  | p :: t, b => by simp [spCells, spCells_append t b]
theorem spCells_length : ∀ ps : List Sp, (spCells ps).length = ps.length * 2
  | [] => rfl
  | p :: t => by simp [spCells, spCells_length t]; omega
theorem spCells_get : ∀ (ps : List Sp) (i : Nat), i < ps.length → (spCells ps)[i * 2]? = some (.int .i64 (spAt ps i).1) ∧ (spCells ps)[i * 2 + 1]? = some (.int .i64 (spAt ps i).2)
  | [], i, h => by simp at h
  | p :: t, 0, _ => by simp [spCells, spAt]
  | p :: t, i + 1, h => by
    obtain ⟨a, b⟩ := spCells_get t i (by simpa using h)
    have e : (i + 1) * 2 = i * 2 + 1 + 1 := by omega
    rw [e]
    refine ⟨?_, ?_⟩
    · simpa [spCells, spAt] using a
    · simpa [spCells, spAt] using b
theorem spCells_set : ∀ (ps : List Sp) (k : Nat) (v : Int), k < ps.length → spCells (ps.set k ((spAt ps k).1, v)) = (spCells ps).set (k * 2 + 1) (.int .i64 v)
  | [], i, _, h => by simp at h
  | p :: t, 0, v, _ => by simp [spCells, spAt]
  | p :: t, i + 1, v, h => by
    have ih := spCells_set t i v (by simpa using h)
    have e : (i + 1) * 2 + 1 = (i * 2 + 1) + 1 + 1 := by omega
    rw [e]
    simp only [List.set_cons_succ, spCells]
    rw [← ih]
    simp [spAt]
/-- The spans lie in memory. -/
structure SpsAt (w : World) (base : Option Addr) (b : Nat) (sp : List Sp) : Prop where
  base : sp.length ≠ 0 → base = some ⟨b, 0, none⟩
  lt : sp.length ≠ 0 → b < w.heap.size
  cells : ∀ i, i < sp.length → w.cell? ⟨b, i * 2, none⟩ = some (.int .i64 (spAt sp i).1) ∧ w.cell? ⟨b, i * 2 + 1, none⟩ = some (.int .i64 (spAt sp i).2)
theorem SpsAt.below {w w' : World} {base : Option Addr} {b : Nat} {sp : List Sp} (h : SpsAt w base b sp) (hb : Below w.heap.size w w') : SpsAt w' base b sp := by
  refine ⟨h.base, fun hn => Nat.lt_of_lt_of_le (h.lt hn) hb.size, fun i hi => ?_⟩
  have hl := h.lt (by omega)
  exact ⟨(hb.cell (p := ⟨b, i * 2, none⟩) hl).trans (h.cells i hi).1, (hb.cell (p := ⟨b, i * 2 + 1, none⟩) hl).trans (h.cells i hi).2⟩
theorem sps_of_owns {w : World} {B : Nat} {e : TypeId} {v : Value} {sp : List Sp} (h : w.ownsRow B e 2 v sp.length (spCells sp)) :
    ∃ base cap g, v = .slice base sp.length cap ∧ (sp.length ≠ 0 → B ≤ g) ∧ (base = none → sp.length = 0 ∧ cap = 0) ∧ SpsAt w base g sp ∧ sp.length ≤ maxLen := by
  obtain ⟨_, h⟩ := h
  rcases h with ⟨rfl, h0⟩ | ⟨g, cap, cur, rfl, hg, hh, h1, h2, h3, h4⟩
  · exact ⟨none, 0, 0, by rw [h0], fun h => absurd h0 h, fun _ => ⟨h0, rfl⟩, ⟨fun h => absurd h0 h, fun h => absurd h0 h, fun i hi => by omega⟩, by omega⟩
  · refine ⟨_, _, g, rfl, fun _ => hg, (fun h => by cases h), ⟨fun _ => rfl, fun _ => (Array.getElem?_eq_some_iff.1 hh).1, fun i hi => ?_⟩, by omega⟩
    have hc : ∀ j, j < sp.length * 2 → w.cell? ⟨g, j, none⟩ = (spCells sp)[j]? := by
      intro j hj
      rw [← h4, List.getElem?_take, if_pos hj]
      simp [World.cell?, hh]
    obtain ⟨a, b⟩ := spCells_get sp i hi
    exact ⟨by rw [hc _ (by omega)]; exact a, by rw [hc _ (by omega)]; exact b⟩
/-- A row that is owned, one of its cells written over. -/
theorem owns_put {w : World} {B sz : Nat} {e : TypeId} {n : Nat} {xs : List Value} {g cap : Nat} (h : w.ownsRow B e sz (.slice (some ⟨g, 0, none⟩) n cap) n xs) (j : Nat) (u : Value) : (w.setCell ⟨g, j, none⟩ u).ownsRow B e sz (.slice (some ⟨g, 0, none⟩) n cap) n (xs.set j u) := by
  obtain ⟨h0, h⟩ := h
  rcases h with ⟨h, _⟩ | ⟨g', cap', cur, hv, hg, hh, h1, h2, h3, h4⟩
  · cases h
  · cases hv
    refine ⟨by simpa using h0, Or.inr ⟨g, cap, cur.setIfInBounds j u, rfl, hg, ?_, h1, h2, by simpa using h3, ?_⟩⟩
    · simp [World.setCell, Array.getElem?_modify, hh]
    · rw [Array.toList_setIfInBounds, List.take_set, h4]
/-- Cells of other blocks stand when one is written. -/
theorem owns_apart {w : World} {B sz : Nat} {e : TypeId} {v : Value} {n : Nat} {xs : List Value} (h : w.ownsRow B e sz v n xs) (b j : Nat) (u : Value) (hb : b < B) : (w.setCell ⟨b, j, none⟩ u).ownsRow B e sz v n xs := by
  obtain ⟨h0, h⟩ := h
  rcases h with h | ⟨g, cap, cur, hv, hg, hh, h1, h2, h3, h4⟩
  · exact ⟨h0, Or.inl h⟩
  · exact ⟨h0, Or.inr ⟨g, cap, cur, hv, hg, by rw [Below.heap_setCell _ _ _ _ (by simp; omega)]; exact hh, h1, h2, h3, h4⟩⟩
theorem owns_below {w w' : World} {B sz : Nat} {e : TypeId} {v : Value} {n : Nat} {xs : List Value} (h : w.ownsRow B e sz v n xs) (hb : Below w.heap.size w w') : w'.ownsRow B e sz v n xs := by
  obtain ⟨h0, h⟩ := h
  rcases h with h | ⟨g, cap, cur, hv, hg, hh, h1, h2, h3, h4⟩
  · exact ⟨h0, Or.inl h⟩
  · have hl : g < w.heap.size := (Array.getElem?_eq_some_iff.1 hh).1
    exact ⟨h0, Or.inr ⟨g, cap, cur, hv, hg, by rw [hb.block g hl]; exact hh, h1, h2, h3, h4⟩⟩

/-- A row of n numbers in block g, which may be written. -/
def Ints (w : World) (g n : Nat) (f : Nat → Int) : Prop := ∀ j, j < n → w.cell? ⟨g, j, none⟩ = some (.int .i64 (f j)) ∧ w.frozen? ⟨g, j, none⟩ = false
theorem Ints.below {w w' : World} {g n : Nat} {f : Nat → Int} (h : Ints w g n f) (hg : g < w.heap.size) (hb : Below w.heap.size w w') : Ints w' g n f :=
  fun j hj => ⟨(hb.cell (p := ⟨g, j, none⟩) hg).trans (h j hj).1, (hb.frozen (p := ⟨g, j, none⟩) hg).trans (h j hj).2⟩
theorem Ints.set {w : World} {g n : Nat} {f : Nat → Int} (h : Ints w g n f) (k : Nat) (v : Int) (hk : k < n) : Ints (w.setCell ⟨g, k, none⟩ (.int .i64 v)) g n (fun x => if x = k then v else f x) := by
  intro j hj
  obtain ⟨a, b⟩ := h j hj
  refine ⟨?_, by simpa using b⟩
  by_cases e : j = k
  · subst e
    show _ = some (Value.int .i64 (if j = j then v else f j))
    rw [if_pos rfl]
    exact World.cell?_setCell_same _ _ _ (by rw [a])
  · show _ = some (Value.int .i64 (if j = k then v else f j))
    rw [if_neg e, World.cell?_setCell_other _ _ _ _ (fun q => e (congrArg Addr.off q).symm), a]
theorem Ints.apart {w : World} {g n : Nat} {f : Nat → Int} (h : Ints w g n f) (b k : Nat) (v : Value) (hb : b ≠ g) : Ints (w.setCell ⟨b, k, none⟩ v) g n f := by
  intro j hj
  obtain ⟨a, c⟩ := h j hj
  exact ⟨by rw [World.cell?_setCell_other _ _ _ _ (fun q => hb (congrArg Addr.block q)), a], by simpa using c⟩

theorem op_eql (a b : OpD) (w : World) : (binOp .eql 43 (.agg #[.int .i64 a.kind, .int .i64 a.key, .int .i64 a.val, .int .i64 a.hi]) (.agg #[.int .i64 b.kind, .int .i64 b.key, .int .i64 b.val, .int .i64 b.hi])).run Tryd.prog w = .ok (.bool (opEq a b)) w := by
  have u3 := Tryd.underlying3
  have a3 := Tryd.isAgg3
  have z3 := Tryd.sizeOf3
  have hS : Tryd.prog.underlying 43 = some (.struct (Tryd.prog.fieldsOf 43)) := by kernel_rfl
  have hp : Tryd.prog.stoodInHeld 43 = false := by kernel_rfl
  rw [run_eql_struct, show (10000 : Nat) = 9999 + 1 from rfl, run_equalIn_agg w 9999 43 _ _ hS hp]
  simp only [Program.fieldsOf, Tryd.underlying43]
  go_simp
  unfold opEq
  by_cases h1 : a.kind = b.kind <;> by_cases h2 : a.key = b.key <;> by_cases h3 : a.val = b.val <;> by_cases h4 : a.hi = b.hi <;> simp [h1, h2, h3, h4]
end Go.Proofs.YtcphajjonecmbaaDoor
