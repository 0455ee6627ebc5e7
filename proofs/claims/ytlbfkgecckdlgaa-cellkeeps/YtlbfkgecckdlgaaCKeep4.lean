/- Layer 2: for CellKeeps: slices that may be written over and appended to. -/
import Derived.Test.YtlbfkgecckdlgaaCKeep2
namespace Go.Proofs.Ytlbfkgecckdlgaa
open Go.RowKit

structure Spo (w : World) (a : Option Addr) (g n c : Nat) : Prop where
  nn : a = none → n = 0 ∧ c = 0
  base : a ≠ none → a = some ⟨g, 0, none⟩ ∧ g < w.heap.size
  any : AnyI w g n
  room : n + 2 ≤ c → ∃ B xs, w.ownsRow B 3 1 (.slice a n c) n xs

theorem owns_setCell {w : World} {B : Nat} {e : TypeId} {v : Value} {n : Nat} {xs : List Value} (h : w.ownsRow B e 1 v n xs) (b j : Nat) (u : Value) : ∃ ys, (w.setCell ⟨b, j, none⟩ u).ownsRow B e 1 v n ys := by
  obtain ⟨h0, h⟩ := h
  rcases h with h | ⟨g, cap, cur, hv, hg, hh, h1, h2, h3, h4⟩
  · exact ⟨xs, h0, Or.inl h⟩
  · by_cases e : b = g
    · subst e
      refine ⟨((cur.setIfInBounds j u).toList.take (n * 1)), ?_, Or.inr ⟨b, cap, cur.setIfInBounds j u, hv, hg, ?_, h1, h2, ?_, rfl⟩⟩
      · simp; omega
      · simp [World.setCell, Array.getElem?_modify, hh]
      · simpa using h3
    · exact ⟨xs, h0, Or.inr ⟨g, cap, cur, hv, hg, by rw [Below.heap_setCell _ _ _ _ (by simpa using fun q => e q.symm)]; exact hh, h1, h2, h3, h4⟩⟩
theorem AnyI.set2 {w : World} {g m : Nat} (h : AnyI w g m) (b j : Nat) (u : Int) : AnyI (w.setCell ⟨b, j, none⟩ (.int .i64 u)) g m := by
  by_cases e : b = g
  · subst e; exact h.set j u
  · intro q hq
    obtain ⟨⟨v, a⟩, z⟩ := h q hq
    refine ⟨⟨v, ?_⟩, by simpa using z⟩
    rw [World.cell?_setCell_other _ _ _ _ (fun q => e (congrArg Addr.block q)), a]
theorem Spo.set {w : World} {a : Option Addr} {g n c : Nat} (h : Spo w a g n c) (b j : Nat) (u : Int) : Spo (w.setCell ⟨b, j, none⟩ (.int .i64 u)) a g n c :=
  ⟨h.nn, fun q => ⟨(h.base q).1, by simpa using (h.base q).2⟩, h.any.set2 b j u, fun q => by
    obtain ⟨B, xs, ho⟩ := h.room q
    obtain ⟨ys, ho'⟩ := owns_setCell ho b j (.int .i64 u)
    exact ⟨B, ys, ho'⟩⟩
theorem Spo.kp {X : Nat → Prop} {w w' : World} {a : Option Addr} {g n c : Nat} (h : Spo w a g n c) (hk : Kp X w w') (hX : a ≠ none → ¬ X g) : Spo w' a g n c := by
  by_cases q : a = none
  · obtain ⟨rfl, rfl⟩ := h.nn q
    exact ⟨h.nn, fun q' => absurd q q', fun _ hq => by omega, fun hr => by omega⟩
  · obtain ⟨e, hl⟩ := h.base q
    have hb := hk.block g hl (hX q)
    refine ⟨h.nn, fun _ => ⟨e, Nat.lt_of_lt_of_le hl hk.size⟩, fun i hi => ?_, fun hr => ?_⟩
    · obtain ⟨⟨v, a⟩, b⟩ := h.any i hi
      exact ⟨⟨v, by rw [World.cell?_of_block (w := w) (w' := w') (a := ⟨g, i, none⟩) hb]; exact a⟩, by rw [World.frozen?_of_block (w := w) (w' := w') (a := ⟨g, i, none⟩) hb]; exact b⟩
    · obtain ⟨B, xs, ho⟩ := h.room hr
      exact ⟨B, xs, owns_same ho (fun g' hg' _ => by rw [e] at hg'; simp [Value.ownBlock] at hg'; subst hg'; exact hb)⟩
theorem AnyI.list {w : World} {g n : Nat} (h : AnyI w g n) : ∃ olds : List Value, olds.length = n ∧ ∀ j u, olds[j]? = some u → w.cell? ⟨g, j, none⟩ = some u := by
  refine ⟨(List.range n).map fun j => (w.cell? ⟨g, j, none⟩).getD (.int .i64 0), by simp, fun j u hu => ?_⟩
  have hj : j < n := by
    obtain ⟨q, _⟩ := List.getElem?_eq_some_iff.1 hu
    simpa using q
  obtain ⟨⟨v, a⟩, _⟩ := h j hj
  rw [List.getElem?_map, List.getElem?_range hj] at hu
  simp [a] at hu
  rw [a, hu]
theorem addr_at0 {w : World} {g j : Nat} {u : Value} (h : w.cell? ⟨g, j, none⟩ = some u) : w.cell? ((⟨g, 0, none⟩ : Addr).add j) = some u := by
  unfold Addr.add
  split
  · rename_i q; subst q; exact h
  · simpa using h
theorem Spo.olds {w : World} {a : Option Addr} {g n c : Nat} (h : Spo w a g n c) (W : World) (hW : ∀ p : Addr, p.block < w.heap.size → W.cell? p = w.cell? p) : ∃ olds : List Value, olds.length = n * 1 ∧ ∀ b, a = some b → ∀ j u, olds[j]? = some u → W.cell? (b.add j) = some u := by
  obtain ⟨olds, h1, h2⟩ := h.any.list
  refine ⟨olds, by omega, fun b hb j u hu => ?_⟩
  obtain ⟨e, hl⟩ := h.base (by rw [hb]; simp)
  rw [hb] at e
  cases e
  exact addr_at0 ((hW ⟨g, j, none⟩ hl).trans (h2 j u hu))
/-- The slices from the j-th on, in block L. -/
def Sps (w : World) (L lo hi j : Nat) : Prop := ∀ q, j ≤ q → q < 3 → ∃ a g n c, w.cell? ⟨L, q, none⟩ = some (.slice a n c) ∧ Spo w a g n c ∧ (n + 2 ≤ c → q = 2) ∧ (a ≠ none → lo ≤ g ∧ g < hi) ∧ n ≤ 1000
theorem Sps.mono {w : World} {L lo hi j k : Nat} (h : Sps w L lo hi j) (hk : j ≤ k) : Sps w L lo hi k := fun q h1 h2 => h q (by omega) h2
theorem Sps.set {w : World} {L lo hi k : Nat} (h : Sps w L lo hi k) {b : Nat} (hb : b ≠ L) (j : Nat) (u : Int) : Sps (w.setCell ⟨b, j, none⟩ (.int .i64 u)) L lo hi k := by
  intro q h1 h2
  obtain ⟨a, g, n, c, e, s, r, l, m⟩ := h q h1 h2
  exact ⟨a, g, n, c, by rw [World.cell?_setCell_other _ _ _ _ (fun q => hb (congrArg Addr.block q)), e], s.set b j u, r, l, m⟩
theorem Sps.kp {X : Nat → Prop} {w w' : World} {L lo hi k : Nat} (h : Sps w L lo hi k) (hL : L < w.heap.size) (hk : Kp X w w') (hX : ∀ k, X k → False) : Sps w' L lo hi k := by
  intro q h1 h2
  obtain ⟨a, g, n, c, e, s, r, l, m⟩ := h q h1 h2
  exact ⟨a, g, n, c, (hk.cell (p := ⟨L, q, none⟩) hL (fun h => hX _ h)).trans e, s.kp hk (fun _ h => hX _ h), r, l, m⟩
end Go.Proofs.Ytlbfkgecckdlgaa
