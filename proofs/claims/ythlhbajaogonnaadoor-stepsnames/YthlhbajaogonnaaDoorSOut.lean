
/- Layer 18: takenOut of the program. Made by mk_sout.py. -/

import Derived.Test.YthlhbajaogonnaaDoorSHere

namespace Go.Proofs.YthlhbajaogonnaaDoor

open Go.RowKit

attribute [local go_sem ↓] Go.wp_at_zero Go.wp_at_succ

/-- A row of numbers that is ours. -/
structure IntR (w0 x : World) (v : Value) (V : List Int) : Prop where
  own : x.ownsRow w0.heap.size 3 1 v V.length (V.map (Value.int .i64))
  below : Below w0.heap.size w0 x
theorem IntR.down {w w1 x : World} {v : Value} {V : List Int} (h : IntR w1 x v V) (hb : Below w.heap.size w w1) : IntR w x v V :=
  ⟨owns_down h.own hb.size, hb.trans (h.below.mono hb.size)⟩
theorem IntR.nil {w x : World} (h : Below w.heap.size w x) : IntR w x (.slice .none 0 0) [] := ⟨World.ownsRow_nil _ _ _ _, h⟩
/-- The places that a step takes out. -/
def outI (k : Int) (x l L R lr rl rr rll rlr : Int) : List Int :=
  if k = 1 then [x, L, R]
  else if k = 2 then [x, l]
  else if k = 3 then [x, l, lr]
  else if k = 4 then [x, L, R]
  else if k = 5 then [x, L, R, rl]
  else if k = 6 then [x, L, R, rl]
  else if k = 7 then [x, L, R, rl, rll]
  else if k = 8 then [x, L, R, rl, rlr]
  else if k = 9 then [x, L, R, rr]
  else if k = 10 then [x, L, R, rl]
  else if k = 11 then [x, L, R]
  else [x]
/-- The places that Touched answers. -/
def touI (t : NL) (p k : Int) (mi : Bool) : List Int := outI k p (belL t mi p) (if mi then belR t mi p else belL t mi p) (if mi then belL t mi p else belR t mi p) (belR t mi (belL t mi p)) (belL t mi (belR t mi p)) (belR t mi (belR t mi p)) (belL t mi (belL t mi (belR t mi p))) (belR t mi (belL t mi (belR t mi p)))
theorem todo_look {t : NL} {p k : Int} {mi : Bool} (h : todoE t p k mi = 0) : lookE t p k mi = 0 := by
  unfold todoE at h
  split at h
  · rename_i q; exact absurd h q
  · rename_i q; simpa using q
noncomputable def touL (t : NL) (p k : Int) (mi : Bool) : List Int := if todoE t p k mi = 0 then touI t p k mi else []
end Go.Proofs.YthlhbajaogonnaaDoor
