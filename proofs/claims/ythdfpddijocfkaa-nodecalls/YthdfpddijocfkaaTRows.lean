
/- Layer 16: Rows. -/

import Derived.Test.YthdfpddijocfkaaTOrd

import Derived.Deep.RegionHeld3

namespace Go.Proofs.Ythdfpddijocfkaa

open Go.RowKit

attribute [local go_sem ↓] Go.wp_at_zero Go.wp_at_succ

theorem undrew {w w' : World} {r : Option Nat} (h : w.drew.grownBy w' r) : w.grownBy w' r := ⟨h.os, h.tape, h.output, h.size, h.block⟩
def rleafB (n : NdD) : Bool := decide (n.l = -1)
theorem rleafB_yes {n : NdD} (h1 : n.l = -1) : rleafB n = true := by simp [rleafB, h1]
theorem rleafB_no {n : NdD} (h1 : n.l ≠ -1) : rleafB n = false := by simp [rleafB, h1]

end Go.Proofs.Ythdfpddijocfkaa
