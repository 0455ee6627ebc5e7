
/- Layer 17: isRed, isOver, isFault, reds. -/

import Derived.Test.YthdfpddijocfkaaWSums

import Derived.Deep.QuietTactic

import Derived.BigQuiet

namespace Go.Proofs.Ythdfpddijocfkaa

open Go.RowKit

attribute [local go_sem ↓] Go.wp_at_zero Go.wp_at_succ

structure BelowBy (w : World) where
  W : World
  h : Below w.heap.size w W
instance (w : World) : Inhabited (BelowBy w) := ⟨⟨w, Below.refl _ _⟩⟩
theorem wp_region_below {P : Program} {id : Nat} {Q : Exit → Act → World → Prop} {a : Act} {w : World} {l : List Oper} (hm : P.follows .mixedOrders = true) (hB : Region.lexB .any l.toArray = true)
    (h : wpQuiet P l.toArray (fun w' => ∃ p : BelowBy w, w' = p.W) (fun a' => ∀ w', (∃ p : BelowBy w, w' = p.W) → Q .normal a' w') l a) : (Code.region id l.toArray true).wp P Q a w :=
  wp_region_quiet (C := fun w' => ∃ p : BelowBy w, w' = p.W) hm hB ⟨⟨{ w with drawn := w.drawn + 1 }, ⟨rfl, rfl, rfl, Nat.le_refl _, fun _ _ => rfl⟩⟩, rfl⟩ (by simpa using h)
theorem below_call {P : Program} {f : FuncId} {args : Array Value} {w : World} {p : BelowBy w} {v : Value}
    (h : Calls P f args p.W fun e w' => e = .returned v ∧ Below p.W.heap.size p.W w') : Calls P f args p.W fun e w' => e = .returned v ∧ ∃ p' : BelowBy w, w' = p'.W :=
  h.mono fun _ w' ⟨he, hb⟩ => ⟨he, ⟨w', p.h.trans (hb.mono p.h.size)⟩, rfl⟩
theorem BelowBy.cell {w : World} {b o : Nat} {v : Value} (hb : b < w.heap.size) (h : w.cell? ⟨b, o, none⟩ = some v) (p : BelowBy w) : p.W.cell? ⟨b, o, none⟩ = some v := (p.h.cell (p := ⟨b, o, none⟩) hb).trans h

/-- A node in a box. -/
structure Bx (w : World) (bx : Nat) (k0 k1 k2 k3 k4 k5 : Int) : Prop where
  lt : bx < w.heap.size
  c : w.cell? ⟨bx, 0, none⟩ = some (.int .i64 k0) ∧ w.cell? ⟨bx, 1, none⟩ = some (.int .i64 k1) ∧ w.cell? ⟨bx, 2, none⟩ = some (.int .i64 k2) ∧ w.cell? ⟨bx, 3, none⟩ = some (.int .i64 k3) ∧ w.cell? ⟨bx, 4, none⟩ = some (.int .i64 k4) ∧ w.cell? ⟨bx, 5, none⟩ = some (.int .i64 k5)
theorem Bx.below {w x : World} {bx : Nat} {k0 k1 k2 k3 k4 k5 : Int} (h : Bx w bx k0 k1 k2 k3 k4 k5) (hb : Below w.heap.size w x) : Bx x bx k0 k1 k2 k3 k4 k5 := by
  have e : ∀ j, x.cell? ⟨bx, j, none⟩ = w.cell? ⟨bx, j, none⟩ := fun j => hb.cell (p := ⟨bx, j, none⟩) h.lt
  exact ⟨Nat.lt_of_lt_of_le h.lt hb.size, by simp only [e]; exact h.c⟩
theorem Bx.far {w x : World} {o : Obj} {row : Option Nat} {bx : Nat} {k0 k1 k2 k3 k4 k5 : Int} (h : Bx w bx k0 k1 k2 k3 k4 k5) (hg : (w.alloc o).grownBy x row) (hr : ∀ b, row = some b → b ≠ bx) : Bx x bx k0 k1 k2 k3 k4 k5 := by
  obtain ⟨c0, c1, c2, c3, c4, c5⟩ := h.c
  have hz := hg.size
  rw [World.size_alloc] at hz
  have f : ∀ j v, w.cell? ⟨bx, j, none⟩ = some v → x.cell? ⟨bx, j, none⟩ = some v := fun j v hc => far_cell (p := ⟨bx, j, none⟩) hg h.lt hr hc
  exact ⟨by have := h.lt; omega, f _ _ c0, f _ _ c1, f _ _ c2, f _ _ c3, f _ _ c4, f _ _ c5⟩
theorem bx_new {x : World} {bx : Nat} {k0 k1 k2 k3 k4 k5 : Int} {T : TypeId} (h : x.heap[bx]? = some (.cells #[.int .i64 k0, .int .i64 k1, .int .i64 k2, .int .i64 k3, .int .i64 k4, .int .i64 k5] T)) : Bx x bx k0 k1 k2 k3 k4 k5 := by
  obtain ⟨bl, q⟩ := box_cells h
  exact ⟨bl, q⟩

def redQ (a k : Int) : Bool := a == 0 && k == 0
def overQ (k : Int) : Bool := decide (1 < k)
def faultQ (a k : Int) : Bool := redQ a k || overQ k
def redF (d : PD) (_ : Int) : Int := d.wt
def redO (_ : Bool) (d : PD) (a : Int) : List Int := if redQ a d.wt then [d.key] else []
/-- The reds of a tree, from the root on. -/
def redsB (b : BT) : List Int := inh redF redO b 1
theorem redO_len (lf : Bool) (d : PD) (a : Int) : (redO lf d a).length ≤ 1 := by unfold redO; split <;> simp
theorem SAt.one {w0 x : World} {n : Nat} {A : Nat → Int} {v : Value} {V : List Int} (h : SAt w0 x n A v V) {l : Nat} (a : Int) (hl : l < n) : SAt w0 (x.setCell ⟨w0.heap.size, l, none⟩ (.int .i64 a)) n (fun y => if y = l then a else A y) v V :=
  ⟨owns_apart h.own _ _ _ (by omega), h.ab.set l a hl, by simpa using h.lt, h.below.setCell (Nat.le_refl _) _⟩
end Go.Proofs.Ythdfpddijocfkaa
