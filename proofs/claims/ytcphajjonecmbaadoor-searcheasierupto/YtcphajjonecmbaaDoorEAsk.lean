
/- Layer 5: Check, Ahead, Pending, Width, Row. -/

import Derived.Test.YtcphajjonecmbaaDoorESpans

import Derived.Deep.RegionHeld3

import Derived.Deep.DrawnRows

namespace Go.Proofs.YtcphajjonecmbaaDoor

open Go.RowKit

attribute [local go_sem ↓] Go.wp_at_zero Go.wp_at_succ

theorem int_info : (Tryd.prog.info? 3).map (fun i => (i.zero, i.size, i.bytes)) = some (some (.int .i64 0), 1, 8) := by kernel_rfl
theorem ints_under : Tryd.prog.underlying 22 = some (.slice 3) := by kernel_rfl
theorem below_of_drew {B : Nat} {w w' : World} (h : Below B w.drew w') : Below B w w' := ⟨h.os, h.tape, h.output, h.size, h.block⟩
theorem below_of_drewN {B n : Nat} {w w' : World} (h : Below B (w.drewN n) w') : Below B w w' := ⟨h.os, h.tape, h.output, h.size, h.block⟩
/-- Ahead's answer. -/
def aheadA (hs : List EvD) (i j : Int) : Bool × Int :=
  if hErr hs ≠ 0 then (false, hErr hs) else if 0 ≤ i ∧ i < (spansL hs).length ∧ 0 ≤ j ∧ j < (spansL hs).length then (ahd (spAt (spansL hs) i.toNat) (spAt (spansL hs) j.toNat), 0) else (false, 1)
/-- The numbers of the pending ones among the first n. -/
def pendN (sp : List Sp) : Nat → List Nat
  | 0 => []
  | j + 1 => if (spAt sp j).2 = -1 then pendN sp j ++ [j] else pendN sp j
theorem pendN_le (sp : List Sp) : ∀ j, (pendN sp j).length ≤ j
  | 0 => Nat.le_refl _
  | j + 1 => by
    have := pendN_le sp j
    simp only [pendN]
    split
    · simp; omega
    · omega
/-- How many are under way behind j events, and at most till then. -/
def wdN (hs : List EvD) : Nat → Int × Int
  | 0 => (0, 0)
  | j + 1 => ((wdN hs j).1 + (if (evAt hs j).ret then -1 else 1), if (wdN hs j).2 < (wdN hs j).1 + (if (evAt hs j).ret then -1 else 1) then (wdN hs j).1 + (if (evAt hs j).ret then -1 else 1) else (wdN hs j).2)
theorem wdN_bd (hs : List EvD) : ∀ j : Nat, -(j : Int) ≤ (wdN hs j).1 ∧ (wdN hs j).1 ≤ j ∧ 0 ≤ (wdN hs j).2 ∧ (wdN hs j).2 ≤ j
  | 0 => by simp [wdN]
  | j + 1 => by
    have := wdN_bd hs j
    simp only [wdN]
    cases (evAt hs j).ret <;> simp <;> split <;> omega
def widthA (hs : List EvD) : Int := if hErr hs = 0 then (wdN hs hs.length).2 else 0
def numCells (l : List Nat) : List Value := l.map fun (x : Nat) => Value.int .i64 (x : Int)

section

variable (base : Option Addr) (b o c : Nat) (hs : List EvD) (pb : Nat → Option Addr) (pc pg po : Nat → Nat) (w : World) (h : EvsAt w base b o hs pb pc pg po)

include h

set_option maxRecDepth 100000 in
set_option maxHeartbeats 1000000 in
theorem check_any : Calls Tryd.prog 71 #[.slice base hs.length c] w fun e w' => e = .returned (.int .i64 (hErr hs)) ∧ Below w.heap.size w w' := by
  have HA : Hid _ := h
  clear h
  go_enter Tryd.func71, Tryd.ntmps71
  go_wp2_with fail
  refine (spansOf_any base b o c hs pb pc pg po _ HA.out).mono ?_
  rintro e w1 ⟨v, rfl, hb, _, _⟩
  go_wp2_with fail
  go_ret
  exact ⟨rfl, hb⟩

end

end Go.Proofs.YtcphajjonecmbaaDoor
