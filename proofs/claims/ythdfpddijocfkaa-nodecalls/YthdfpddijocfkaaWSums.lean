
/- Layer 17: sums, Sums. -/

import Derived.Test.YthdfpddijocfkaaWKeys

namespace Go.Proofs.Ythdfpddijocfkaa

open Go.RowKit

attribute [local go_sem ↓] Go.wp_at_zero Go.wp_at_succ
/-- Rows of numbers. -/
def isC (L : List Int) : List Value := L.map (fun x : Int => Value.int .i64 x)
theorem isC_length (L : List Int) : (isC L).length = L.length := by simp [isC]
theorem isC_append (a b : List Int) : isC (a ++ b) = isC a ++ isC b := by simp [isC]
/-- What is handed down by place, and what has come out. -/
structure SAt (w0 x : World) (n : Nat) (A : Nat → Int) (v : Value) (V : List Int) : Prop where
  own : x.ownsRow (w0.heap.size + 1) 3 1 v V.length (isC V)
  ab : Ints x w0.heap.size n A
  lt : w0.heap.size < x.heap.size
  below : Below w0.heap.size w0 x
theorem SAt.quiet {w0 x y : World} {n : Nat} {A : Nat → Int} {v : Value} {V : List Int} (h : SAt w0 x n A v V) (hb : Below x.heap.size x y) : SAt w0 y n A v V :=
  ⟨owns_below h.own hb, h.ab.below h.lt hb, Nat.lt_of_lt_of_le h.lt hb.size, h.below.trans (hb.mono h.below.size)⟩
theorem SAt.drew {w0 x : World} {n : Nat} {A : Nat → Int} {v : Value} {V : List Int} (h : SAt w0 x n A v V) : SAt w0 x.drew n A v V := ⟨h.own, h.ab, h.lt, h.below.drew⟩
theorem SAt.two {w0 x : World} {n : Nat} {A : Nat → Int} {v : Value} {V : List Int} (h : SAt w0 x n A v V) {l r : Nat} (a : Int) (hl : l < n) (hr : r < n) : SAt w0 ((x.setCell ⟨w0.heap.size, l, none⟩ (.int .i64 a)).setCell ⟨w0.heap.size, r, none⟩ (.int .i64 a)) n (fun y => if y = r then a else if y = l then a else A y) v V :=
  ⟨owns_apart (owns_apart h.own _ _ _ (by omega)) _ _ _ (by omega), (h.ab.set l a hl).set r a hr, by simpa using h.lt, (h.below.setCell (Nat.le_refl _) _).setCell (Nat.le_refl _) _⟩
theorem SAt.push {w0 x y : World} {n : Nat} {A : Nat → Int} {v v' : Value} {V : List Int} {a : Int} {o : Obj} (h : SAt w0 x n A v V) (hg : (x.alloc o).grownBy y v.ownBlock) (ho : y.ownsRow (w0.heap.size + 1) 3 1 v' (V.length + 1) (isC V ++ [.int .i64 a])) : SAt w0 y n A v' (V ++ [a]) :=
  ⟨by rw [List.length_append, isC_append]; exact ho, h.ab.far hg h.lt (fun b q => by have := (owns_lt h.own b q).1; omega), by have := hg.size; rw [World.size_alloc] at this; have := h.lt; omega, Below.grown (h.below.alloc h.below.size o) hg (by rw [World.size_alloc]; have := h.below.size; omega) (fun k q => by have := (owns_lt h.own k q).1; omega)⟩
theorem SAt.len {w0 x : World} {n : Nat} {A : Nat → Int} {v : Value} {V : List Int} (h : SAt w0 x n A v V) : slLen v = V.length := by
  rcases Go.Joins.ownsRow_forms h.own with ⟨rfl, q⟩ | ⟨_, _, rfl⟩
  · rw [q]; rfl
  · rfl
def sumF (d : PD) (a : Int) : Int := a + d.wt
def sumO (lf : Bool) (d : PD) (a : Int) : List Int := if lf then [a + d.wt] else []
/-- The sums of a tree, from the left to the right. -/
def sumsB (b : BT) : List Int := inh sumF sumO b 0
theorem inh_len (f : PD → Int → Int) (out : Bool → PD → Int → List Int) (ho : ∀ lf d a, (out lf d a).length ≤ 1) : ∀ (b : BT) (a : Int), (inh f out b a).length ≤ b.size
  | .leaf d, a => ho true d a
  | .node d l r, a => by
    have h1 := inh_len f out ho l (f d a)
    have h2 := inh_len f out ho r (f d a)
    have h3 := ho false d a
    simp only [inh, BT.size, List.length_append]
    omega
theorem sumO_len (lf : Bool) (d : PD) (a : Int) : (sumO lf d a).length ≤ 1 := by unfold sumO; split <;> simp
theorem wrap_ok (a : Int) (h1 : -9223372036854775808 ≤ a) (h2 : a ≤ 9223372036854775807) : IntKind.i64.wrap a = a := by rw [IntKind.wrap_i64] <;> omega
end Go.Proofs.Ythdfpddijocfkaa
