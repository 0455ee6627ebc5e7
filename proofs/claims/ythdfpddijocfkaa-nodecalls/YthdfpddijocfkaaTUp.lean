
/- Layer 16: each place's parent; lists of numbers held against one another. -/

import Derived.Test.YthdfpddijocfkaaTNorm

namespace Go.Proofs.Ythdfpddijocfkaa

open Go.RowKit

attribute [local go_sem ↓] Go.wp_at_zero Go.wp_at_succ

/-- A slice of numbers. -/
structure IsAt (w : World) (base : Option Addr) (g : Nat) (L : List Int) : Prop where
  base : L.length ≠ 0 → base = some ⟨g, 0, none⟩
  lt : L.length ≠ 0 → g < w.heap.size
  cells : ∀ i, i < L.length → w.cell? ⟨g, i, none⟩ = some (.int .i64 (L.getD i 0))
  len : L.length ≤ maxLen
theorem IsAt.below {w w' : World} {base : Option Addr} {g : Nat} {L : List Int} (h : IsAt w base g L) (hb : Below w.heap.size w w') : IsAt w' base g L :=
  ⟨h.base, fun hn => Nat.lt_of_lt_of_le (h.lt hn) hb.size, fun i hi => (hb.cell (p := ⟨g, i, none⟩) (h.lt (by omega))).trans (h.cells i hi), h.len⟩
theorem IsAt.none (w : World) : IsAt w none 0 [] := ⟨fun h => absurd rfl h, fun h => absurd rfl h, fun i hi => by simp at hi, by simp⟩
theorem PlsAt.ints {w : World} {base : Option Addr} {g : Nat} {L : List Nat} (h : PlsAt w base g L) : IsAt w base g (L.map fun x : Nat => (x : Int)) := by
  refine ⟨by simpa using h.base, by simpa using h.lt, fun i hi => ?_, by simpa using h.len⟩
  simp at hi
  rw [h.cells i hi]
  simp [List.getD_eq_getElem?_getD, List.getElem?_eq_getElem hi]
theorem Ints.isAt {w : World} {g n : Nat} {f : Nat → Int} (h : Ints w g n f) (hg : g < w.heap.size) (hn : n ≤ maxLen) : IsAt w (some ⟨g, 0, none⟩) g ((List.range n).map f) := by
  refine ⟨fun _ => rfl, fun _ => hg, fun i hi => ?_, by simpa using hn⟩
  simp at hi
  rw [(h i hi).1]
  simp [List.getD_eq_getElem?_getD, List.getElem?_range hi]
def isEq (a b : List Int) : Bool := decide (a = b)
theorem is_ext {a b : List Int} (hl : a.length = b.length) (h : ∀ i, i < a.length → a.getD i 0 = b.getD i 0) : a = b := by
  apply List.ext_getElem hl
  intro i h1 h2
  have := h i h1
  simpa [List.getD_eq_getElem?_getD, List.getElem?_eq_getElem h1, List.getElem?_eq_getElem h2] using this
/-- Each place's parent, behind i nodes. -/
def upN (t : NL) : Nat → Nat → Int
  | 0, x => if x = 0 then -1 else 0
  | i + 1, x => if (ndAt t i).l = (x : Int) ∨ (ndAt t i).r = (x : Int) then (i : Int) else upN t i x
theorem up_leaf {t : NL} {j : Nat} (hl : (ndAt t j).l = -1) (hr : (ndAt t j).r = -1) (x : Nat) : upN t (j + 1) x = upN t j x := by
  simp only [upN, hl, hr]
  rw [if_neg (by omega)]
theorem up_inner {t : NL} {j l r : Nat} (hl : (ndAt t j).l = (l : Int)) (hr : (ndAt t j).r = (r : Int)) (x : Nat) : upN t (j + 1) x = if x = r then (j : Int) else if x = l then (j : Int) else upN t j x := by
  simp only [upN, hl, hr]
  by_cases h1 : x = r
  · rw [if_pos (Or.inr (by omega)), if_pos h1]
  · by_cases h2 : x = l
    · rw [if_pos (Or.inl (by omega)), if_neg h1, if_pos h2]
    · rw [if_neg (by omega), if_neg h1, if_neg h2]
theorem ups_two {w : World} {g n l r : Nat} {t : NL} {j : Nat} (h : Ints w g n (fun x => upN t j x)) (hl : (ndAt t j).l = (l : Int)) (hr : (ndAt t j).r = (r : Int)) (h1 : l < n) (h2 : r < n) :
    Ints ((w.setCell ⟨g, l, none⟩ (.int .i64 (j : Int))).setCell ⟨g, r, none⟩ (.int .i64 (j : Int))) g n (fun x => upN t (j + 1) x) :=
  ((h.set l _ h1).set r _ h2).fn fun x _ => (up_inner hl hr x).symm
theorem Ints.drew {w : World} {g n : Nat} {f : Nat → Int} (h : Ints w g n f) : Ints w.drew g n f := h
def upL (t : NL) : List Int := (List.range t.length).map (upN t t.length)
theorem upL_length (t : NL) : (upL t).length = t.length := by simp [upL]

open Classical in
noncomputable def parL (t : NL) : List Int := if formE t = 0 then upL t else []
end Go.Proofs.Ythdfpddijocfkaa
