
/- Layer 16: slices.Grow of nil and slices.Concat of two, at nodes. -/

import Derived.Test.YtegajbfefhljmaaDoorTMir

import Derived.Lib.AppendZeros

namespace Go.Proofs.YtegajbfefhljmaaDoor

open Go.RowKit

def NilOk (A : Option Addr) (n c : Nat) : Prop := A = none → n = 0 ∧ c = 0
def catN (a b : NL) : Nat → NL
  | 0 => []
  | 1 => a
  | _ => a ++ b
theorem catN_le (a b : NL) (j : Nat) : (catN a b j).length ≤ a.length + b.length := by
  match j with
  | 0 => simp [catN]
  | 1 => simp [catN]
  | j + 2 => simp [catN]

end Go.Proofs.YtegajbfefhljmaaDoor
