/- Layer 2: for CellKeeps: rows that are owned, read and framed. -/
import Derived.Test.YtlbfkgecckdlgaaCKeep1
import Derived.Test.YtlbfkgecckdlgaaCTapeZ
namespace Go.Proofs.Ytlbfkgecckdlgaa
open Go.RowKit

theorem below_grown {w W W' : World} {v : Value} {B : Nat} {e : TypeId} {sz n : Nat} {xs : List Value} (hb : Below w.heap.size w W) (ho : W.ownsRow B e sz v n xs) (hB : w.heap.size ≤ B) (hg : W.grownBy W' v.ownBlock) : Below w.heap.size w W' := by
  refine ⟨hg.os.trans hb.os, hg.tape.trans hb.tape, hg.output.trans hb.output, Nat.le_trans hb.size hg.size, fun k hk => ?_⟩
  rw [hg.block k (Nat.lt_of_lt_of_le hk hb.size) (fun e => by have := owns_ge ho k e.symm; omega)]
  exact hb.block k hk
/-- n numbers in block g, none frozen. -/
structure RowAt (w : World) (g n : Nat) (F : Nat → Int) : Prop where
  lt : g < w.heap.size
  cells : ∀ j, j < n → w.cell? ⟨g, j, none⟩ = some (.int .i64 (F j)) ∧ w.frozen? ⟨g, j, none⟩ = false
theorem row_of_owns {w : World} {B g n c : Nat} {e : TypeId} {F : Nat → Int} (h : w.ownsRow B e 1 (.slice (some ⟨g, 0, none⟩) n c) n ((List.range n).map fun j => .int .i64 (F j))) : RowAt w g n F ∧ n ≤ c ∧ B ≤ g := by
  obtain ⟨_, h⟩ := h
  rcases h with ⟨q, _⟩ | ⟨g', cap, cur, q, hg, hh, h1, h2, h3, h4⟩
  · cases q
  · cases q
    refine ⟨⟨(Array.getElem?_eq_some_iff.1 hh).1, fun j hj => ⟨?_, ?_⟩⟩, h1, hg⟩
    · have : w.cell? ⟨g, j, none⟩ = ((List.range n).map fun j => Value.int .i64 (F j))[j]? := by
        rw [← h4, List.getElem?_take, if_pos (by omega)]
        simp [World.cell?, hh]
      rw [this, List.getElem?_map, List.getElem?_range hj]
      rfl
    · simp [World.frozen?, hh]
theorem RowAt.nums {w : World} {g n : Nat} {F : Nat → Int} (h : RowAt w g n F) (hn : n ≤ maxLen) (k : Nat) (hk : k ≤ n) : NumsAt w (some ⟨g, 0, none⟩) g 0 k F :=
  ⟨fun _ => rfl, fun _ => h.lt, fun i hi => by rw [Nat.zero_add]; exact (h.cells i (by omega)).1, by omega⟩
theorem RowAt.kp {X : Nat → Prop} {w w' : World} {g n : Nat} {F : Nat → Int} (h : RowAt w g n F) (hk : Kp X w w') (hX : ¬ X g) : RowAt w' g n F := by
  have hb := hk.block g h.lt hX
  refine ⟨Nat.lt_of_lt_of_le h.lt hk.size, fun j hj => ?_⟩
  obtain ⟨a, b⟩ := h.cells j hj
  exact ⟨by rw [World.cell?_of_block (w := w) (w' := w') (a := ⟨g, j, none⟩) hb]; exact a, by rw [World.frozen?_of_block (w := w) (w' := w') (a := ⟨g, j, none⟩) hb]; exact b⟩
theorem RowAt.below {w w' : World} {g n : Nat} {F : Nat → Int} (h : RowAt w g n F) (hb : Below w.heap.size w w') : RowAt w' g n F := h.kp (X := fun _ => False) (Kp.of_below hb) (fun h => h)
/-- m numbers in block g that may be written. -/
def AnyI (w : World) (g m : Nat) : Prop := ∀ q, q < m → (∃ v, w.cell? ⟨g, q, none⟩ = some (.int .i64 v)) ∧ w.frozen? ⟨g, q, none⟩ = false
theorem AnyI.set {w : World} {g m : Nat} (h : AnyI w g m) (j : Nat) (u : Int) : AnyI (w.setCell ⟨g, j, none⟩ (.int .i64 u)) g m := by
  intro q hq
  obtain ⟨⟨v, a⟩, b⟩ := h q hq
  refine ⟨?_, by simpa using b⟩
  by_cases e : q = j
  · subst e
    exact ⟨u, World.cell?_setCell_same _ _ _ a⟩
  · exact ⟨v, by rw [World.cell?_setCell_other _ _ _ _ (fun q => e (congrArg Addr.off q).symm), a]⟩
theorem RowAt.any {w : World} {g n : Nat} {F : Nat → Int} (h : RowAt w g n F) {m : Nat} (hm : m ≤ n) : AnyI w g m := fun q hq => ⟨⟨_, (h.cells q (by omega)).1⟩, (h.cells q (by omega)).2⟩
theorem Kp.setb {X : Nat → Prop} {w w1 : World} (h : Kp X w w1) {b : Nat} (hb : X b) (i : Nat) (v : Value) : Kp X w (w1.setCell ⟨b, i, none⟩ v) := Kp.set h (p := ⟨b, i, none⟩) hb v
/-- The cells of n acts that may be written. -/
def AnyA (w : World) (base : Option Addr) (g n : Nat) : Prop := (n ≠ 0 → base = some ⟨g, 0, none⟩ ∧ g < w.heap.size) ∧ ∀ q, q < n * 4 → (∃ v, w.cell? ⟨g, q, none⟩ = some (.int .i64 v)) ∧ w.frozen? ⟨g, q, none⟩ = false
theorem anyA_of_owns {w : World} {B : Nat} {e : TypeId} {base : Option Addr} {c n g : Nat} {dk di da db : Nat → Int} (h : w.ownsRow B e 4 (.slice base n c) n (cactCells dk di da db n)) (ha : CActs w base g 0 n dk di da db) : AnyA w base g n := by
  refine ⟨fun hn => ⟨ha.base hn, ha.lt hn⟩, fun q hq => ?_⟩
  have hn : n ≠ 0 := by omega
  have hb := ha.base hn
  obtain ⟨_, h⟩ := h
  rcases h with ⟨e1, _⟩ | ⟨g', cap, cur, e1, hg, hh, h1, h2, h3, h4⟩
  · cases e1; cases hb
  · cases e1
    cases hb
    refine ⟨?_, by simp [World.frozen?, hh]⟩
    obtain ⟨c0, c1, c2, c3⟩ := ha.cells (q / 4) (by omega)
    rw [Nat.zero_add] at c0 c1 c2 c3
    have hq4 : q % 4 < 4 := Nat.mod_lt _ (by omega)
    rcases (show q % 4 = 0 ∨ q % 4 = 1 ∨ q % 4 = 2 ∨ q % 4 = 3 by omega) with r | r | r | r
    · exact ⟨_, by rw [show q = q / 4 * 4 by omega]; exact c0⟩
    · exact ⟨_, by rw [show q = q / 4 * 4 + 1 by omega]; exact c1⟩
    · exact ⟨_, by rw [show q = q / 4 * 4 + 2 by omega]; exact c2⟩
    · exact ⟨_, by rw [show q = q / 4 * 4 + 3 by omega]; exact c3⟩
theorem AnyA.kp {X : Nat → Prop} {w w' : World} {base : Option Addr} {g n : Nat} (h : AnyA w base g n) (hk : Kp X w w') (hX : n ≠ 0 → ¬ X g) : AnyA w' base g n := by
  refine ⟨fun hn => ⟨(h.1 hn).1, Nat.lt_of_lt_of_le (h.1 hn).2 hk.size⟩, fun q hq => ?_⟩
  have hn : n ≠ 0 := by omega
  have hb := hk.block g (h.1 hn).2 (hX hn)
  obtain ⟨⟨v, a⟩, b⟩ := h.2 q hq
  exact ⟨⟨v, by rw [World.cell?_of_block (w := w) (w' := w') (a := ⟨g, q, none⟩) hb]; exact a⟩, by rw [World.frozen?_of_block (w := w) (w' := w') (a := ⟨g, q, none⟩) hb]; exact b⟩
theorem AnyA.set {w : World} {base : Option Addr} {g n : Nat} (h : AnyA w base g n) (j : Nat) (u : Int) : AnyA (w.setCell ⟨g, j, none⟩ (.int .i64 u)) base g n := by
  refine ⟨fun hn => ⟨(h.1 hn).1, by simpa using (h.1 hn).2⟩, ?_⟩
  exact AnyI.set (m := n * 4) h.2 j u
end Go.Proofs.Ytlbfkgecckdlgaa
