
/- Layer 17: Deep. Layer 17: bits.Len64 by the library's contract; Bound and Fits. -/

import Derived.Test.YthdfpddijocfkaaWSnd

import Derived.Test.YthdfpddijocfkaaTHgt

import Derived.Shelf.Strconv.Itoa0

namespace Go.Proofs.Ythdfpddijocfkaa

open Go.RowKit

attribute [local go_sem ↓] Go.wp_at_zero Go.wp_at_succ

noncomputable def deepA (t : NL) : Int := if keyE t = 0 then hgtA t else 0
end Go.Proofs.Ythdfpddijocfkaa

namespace Go.Proofs.Ythdfpddijocfkaa

open Go.RowKit

attribute [local go_sem ↓] Go.wp_at_zero Go.wp_at_succ
theorem bitAux_le : ∀ f x : Nat, Lib.bitLenAux f x ≤ f
  | 0, _ => by simp [Lib.bitLenAux]
  | f + 1, x => by
    simp only [Lib.bitLenAux]
    have := bitAux_le f (x / 2)
    split <;> omega
theorem bitLen_le (x : Nat) : Lib.bitLen x ≤ 64 := bitAux_le 64 x
def bndA (n : Int) : Int := if n < 0 then 0 else 2 * (Lib.bitLen (n + 1).toNat : Int) + 4
def bndE (n : Int) : Int := if n < 0 then 1 else 0
/-- Fits' answer. -/
noncomputable def fitA (t : NL) : Bool := if keyE t = 0 then decide (hgtA t ≤ bndA (((keysA t).length + 1) / 2 : Nat)) else false
end Go.Proofs.Ythdfpddijocfkaa
