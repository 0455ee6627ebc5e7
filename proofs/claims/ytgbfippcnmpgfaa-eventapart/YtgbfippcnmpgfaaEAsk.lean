
/- Layer 5: Check, Ahead, Pending, Width, Row. -/

import Derived.Test.YtgbfippcnmpgfaaESpans

import Derived.Deep.RegionHeld3

import Derived.Deep.DrawnRows

namespace Go.Proofs.Ytgbfippcnmpgfaa

open Go.RowKit

attribute [local go_sem ↓] Go.wp_at_zero Go.wp_at_succ

theorem int_info : (Try.prog.info? 3).map (fun i => (i.zero, i.size, i.bytes)) = some (some (.int .i64 0), 1, 8) := by kernel_rfl
theorem ints_under : Try.prog.underlying 79 = some (.slice 3) := by kernel_rfl
theorem below_of_drew {B : Nat} {w w' : World} (h : Below B w.drew w') : Below B w w' := ⟨h.os, h.tape, h.output, h.size, h.block⟩
theorem below_of_drewN {B n : Nat} {w w' : World} (h : Below B (w.drewN n) w') : Below B w w' := ⟨h.os, h.tape, h.output, h.size, h.block⟩
/-- Ahead's answer. -/
def aheadA (hs : List EvD) (i j : Int) : Bool × Int :=
  if hErr hs ≠ 0 then (false, hErr hs) else if 0 ≤ i ∧ i < (spansL hs).length ∧ 0 ≤ j ∧ j < (spansL hs).length then (ahd (spAt (spansL hs) i.toNat) (spAt (spansL hs) j.toNat), 0) else (false, 1)
/-- The numbers of the pending ones among the first n. -/
def pendN (sp : List Sp) : Nat → List Nat
  | 0 => []
  | j + 1 => if (spAt sp j).2 = -1 then pendN sp j ++ [j] else pendN sp j
theorem pendN_le (sp : List Sp) : ∀ j, (pendN sp j).length ≤ j
  | 0 => Nat.le_refl _
  | j + 1 => by
    have := pendN_le sp j
    simp only [pendN]
    split
    · simp; omega
    · omega
/-- How many are under way behind j events, and at most till then. -/
def wdN (hs : List EvD) : Nat → Int × Int
  | 0 => (0, 0)
  | j + 1 => ((wdN hs j).1 + (if (evAt hs j).ret then -1 else 1), if (wdN hs j).2 < (wdN hs j).1 + (if (evAt hs j).ret then -1 else 1) then (wdN hs j).1 + (if (evAt hs j).ret then -1 else 1) else (wdN hs j).2)
theorem wdN_bd (hs : List EvD) : ∀ j : Nat, -(j : Int) ≤ (wdN hs j).1 ∧ (wdN hs j).1 ≤ j ∧ 0 ≤ (wdN hs j).2 ∧ (wdN hs j).2 ≤ j
  | 0 => by simp [wdN]
  | j + 1 => by
    have := wdN_bd hs j
    simp only [wdN]
    cases (evAt hs j).ret <;> simp <;> split <;> omega
def widthA (hs : List EvD) : Int := if hErr hs = 0 then (wdN hs hs.length).2 else 0
def numCells (l : List Nat) : List Value := l.map fun (x : Nat) => Value.int .i64 (x : Int)

section

variable (base : Option Addr) (b o c : Nat) (hs : List EvD) (pb : Nat → Option Addr) (pc pg po : Nat → Nat) (w : World) (h : EvsAt w base b o hs pb pc pg po)

include h

set_option maxRecDepth 100000 in
set_option maxHeartbeats 1000000 in
theorem check_any : Calls Try.prog 28 #[.slice base hs.length c] w fun e w' => e = .returned (.int .i64 (hErr hs)) ∧ Below w.heap.size w w' := by
  have HA : Hid _ := h
  clear h
  go_enter Try.func28, Try.ntmps28
  go_wp2_with fail
  refine (spansOf_any base b o c hs pb pc pg po _ HA.out).mono ?_
  rintro e w1 ⟨v, rfl, hb, _, _⟩
  go_wp2_with fail
  go_ret
  exact ⟨rfl, hb⟩

set_option maxRecDepth 100000 in
set_option maxHeartbeats 1000000 in
theorem Ahead_any (i j : Int) : Calls Try.prog 20 #[.slice base hs.length c, .int .i64 i, .int .i64 j] w fun e w' => e = .returned (.tuple #[.bool (aheadA hs i j).1, .int .i64 (aheadA hs i j).2]) ∧ Below w.heap.size w w' := by
  have HA : Hid _ := h
  clear h
  by_cases he : hErr hs = 0
  · have hn : (hErr hs != 0) = false := by simp [he]
    have HE : Hid _ := he
    clear he
    by_cases hi : 0 ≤ i ∧ i < (spansL hs).length
    · by_cases hj : 0 ≤ j ∧ j < (spansL hs).length
      · obtain ⟨x, rfl⟩ : ∃ x : Nat, i = x := ⟨i.toNat, by omega⟩
        obtain ⟨y, rfl⟩ : ∃ y : Nat, j = y := ⟨j.toNat, by omega⟩
        have F : Hid (aheadA hs x y = (ahd (spAt (spansL hs) x) (spAt (spansL hs) y), 0)) := by unfold aheadA; rw [if_neg (by simp [HE.out]), if_pos (by omega)]; rfl
        have di : (decide (0 ≤ (x : Int)) && decide ((x : Int) < ((spansL hs).length : Int))) = true := by simp; omega
        have dj : (decide (0 ≤ (y : Int)) && decide ((y : Int) < ((spansL hs).length : Int))) = true := by simp; omega
        have i0 := hi.1
        have i1 := hi.2
        have j0 := hj.1
        have j1 := hj.2
        clear hi hj
        go_enter Try.func20, Try.ntmps20
        go_wp2_with fail
        refine (spansOf_any base b o c hs pb pc pg po _ HA.out).mono ?_
        rintro e w1 ⟨v, rfl, hb, _, hown⟩
        obtain ⟨base1, cap, g, rfl, hg, hnil, hsp, hmx⟩ := sps_of_owns (hown HE.out)
        obtain rfl : base1 = some ⟨g, 0, none⟩ := hsp.base (by omega)
        have hgl : g < w1.heap.size := hsp.lt (by omega)
        obtain ⟨c0, c1⟩ := hsp.cells x (by omega)
        obtain ⟨c2, c3⟩ := hsp.cells y (by omega)
        have HB : Hid _ := hb
        clear hown hg hnil hsp hb
        go_wp2_with fail
        refine (number_any _ _ _ _ _).mono ?_
        rintro e w2 ⟨rfl, rfl⟩
        rw [di]
        go_wp2_with fail
        refine (number_any _ _ _ _ _).mono ?_
        rintro e w2 ⟨rfl, rfl⟩
        rw [dj]
        go_wp2_with fail
        go_region_held3 (fun w' => w'.cell? ⟨g, x * 2, none⟩ = some (.int .i64 (spAt (spansL hs) x).1) ∧ w'.cell? ⟨g, x * 2 + 1, none⟩ = some (.int .i64 (spAt (spansL hs) x).2) ∧ w'.cell? ⟨g, y * 2, none⟩ = some (.int .i64 (spAt (spansL hs) y).1) ∧ w'.cell? ⟨g, y * 2 + 1, none⟩ = some (.int .i64 (spAt (spansL hs) y).2)) (first | go_keep | (refine ⟨(hb2.cell (p := ⟨g, _, none⟩) hgl).trans c0, (hb2.cell (p := ⟨g, _, none⟩) hgl).trans c1, (hb2.cell (p := ⟨g, _, none⟩) hgl).trans c2, (hb2.cell (p := ⟨g, _, none⟩) hgl).trans c3⟩))
          (first | (go_at_call 38; refine (ahead_any _ _ _).mono ?_; rintro e w2 ⟨rfl, hb2⟩))
        go_wp2_with fail
        go_ret2
        exact ⟨by rw [F.out]; rfl, HB.out.trans (below_of_drew (hb2.mono HB.out.size))⟩
      · have F : Hid (aheadA hs i j = (false, 1)) := by unfold aheadA; rw [if_neg (by simp [HE.out]), if_neg (by omega)]; rfl
        have di : (decide (0 ≤ i) && decide (i < ((spansL hs).length : Int))) = true := by simp; omega
        have dj : (decide (0 ≤ j) && decide (j < ((spansL hs).length : Int))) = false := by simp; omega
        clear hi hj
        go_enter Try.func20, Try.ntmps20
        go_wp2_with fail
        refine (spansOf_any base b o c hs pb pc pg po _ HA.out).mono ?_
        rintro e w1 ⟨v, rfl, hb, _, hown⟩
        obtain ⟨base1, cap, g, rfl, hg, hnil, hsp, hmx⟩ := sps_of_owns (hown HE.out)
        clear hown hg hnil hsp
        go_wp2_with fail
        refine (number_any _ _ _ _ _).mono ?_
        rintro e w2 ⟨rfl, rfl⟩
        rw [di]
        go_wp2_with fail
        refine (number_any _ _ _ _ _).mono ?_
        rintro e w2 ⟨rfl, rfl⟩
        rw [dj]
        go_wp2_with fail
        go_ret2
        exact ⟨by rw [F.out]; rfl, hb⟩
    · have F : Hid (aheadA hs i j = (false, 1)) := by unfold aheadA; rw [if_neg (by simp [HE.out]), if_neg (by omega)]; rfl
      have di : (decide (0 ≤ i) && decide (i < ((spansL hs).length : Int))) = false := by simp; omega
      clear hi
      go_enter Try.func20, Try.ntmps20
      go_wp2_with fail
      refine (spansOf_any base b o c hs pb pc pg po _ HA.out).mono ?_
      rintro e w1 ⟨v, rfl, hb, _, hown⟩
      obtain ⟨base1, cap, g, rfl, hg, hnil, hsp, hmx⟩ := sps_of_owns (hown HE.out)
      clear hown hg hnil hsp
      go_wp2_with fail
      refine (number_any _ _ _ _ _).mono ?_
      rintro e w2 ⟨rfl, rfl⟩
      rw [di]
      go_wp2_with fail
      go_ret2
      exact ⟨by rw [F.out]; rfl, hb⟩
  · have hn : (hErr hs != 0) = true := by simp [he]
    have F : Hid (aheadA hs i j = (false, hErr hs)) := by unfold aheadA; rw [if_pos he]; rfl
    clear he
    go_enter Try.func20, Try.ntmps20
    go_wp2_with fail
    refine (spansOf_any base b o c hs pb pc pg po _ HA.out).mono ?_
    rintro e w1 ⟨v, rfl, hb, _, hown⟩
    clear hown
    go_wp2_with fail
    go_ret2
    exact ⟨by rw [F.out]; rfl, hb⟩

end

end Go.Proofs.Ytgbfippcnmpgfaa
