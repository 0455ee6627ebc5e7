
/- A drawn region that only reads and calls what leaves all old blocks as they were: one walk, in the text's order. -/

import Derived.Test.YtcphajjonecmbaaDoorERow

import Derived.Deep.QuietTactic

import Derived.BigQuiet

namespace Go.Proofs.YtcphajjonecmbaaDoor

open Go.RowKit

structure BelowBy (w : World) where
  W : World
  h : Below w.heap.size w W
instance (w : World) : Inhabited (BelowBy w) := ⟨⟨w, Below.refl _ _⟩⟩
theorem wp_region_below {P : Program} {id : Nat} {Q : Exit → Act → World → Prop} {a : Act} {w : World} {l : List Oper} (hm : P.follows .mixedOrders = true) (hB : Region.lexB .any l.toArray = true)
    (h : wpQuiet P l.toArray (fun w' => ∃ p : BelowBy w, w' = p.W) (fun a' => ∀ w', (∃ p : BelowBy w, w' = p.W) → Q .normal a' w') l a) : (Code.region id l.toArray true).wp P Q a w :=
  wp_region_quiet (C := fun w' => ∃ p : BelowBy w, w' = p.W) hm hB ⟨⟨{ w with drawn := w.drawn + 1 }, ⟨rfl, rfl, rfl, Nat.le_refl _, fun _ _ => rfl⟩⟩, rfl⟩ (by simpa using h)
theorem below_call {P : Program} {f : FuncId} {args : Array Value} {w : World} {p : BelowBy w} {v : Value}
    (h : Calls P f args p.W fun e w' => e = .returned v ∧ Below p.W.heap.size p.W w') : Calls P f args p.W fun e w' => e = .returned v ∧ ∃ p' : BelowBy w, w' = p'.W :=
  h.mono fun _ w' ⟨he, hb⟩ => ⟨he, ⟨w', p.h.trans (hb.mono p.h.size)⟩, rfl⟩
theorem BelowBy.cell {w : World} {b o : Nat} {v : Value} (hb : b < w.heap.size) (h : w.cell? ⟨b, o, none⟩ = some v) (p : BelowBy w) : p.W.cell? ⟨b, o, none⟩ = some v := (p.h.cell (p := ⟨b, o, none⟩) hb).trans h
theorem BelowBy.up {w0 w : World} (h0 : Below w0.heap.size w0 w) (p : BelowBy w) : Below w0.heap.size w0 p.W := h0.trans (p.h.mono h0.size)
end Go.Proofs.YtcphajjonecmbaaDoor
