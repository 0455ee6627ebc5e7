
/- Layer 18: the names of the steps, of both. Made by mk_snm.py. -/

import Derived.Test.YthlhbajaogonnaaDoorSSt5

import Derived.Deep.RegionHeld3

namespace Go.Proofs.YthlhbajaogonnaaDoor

open Go.RowKit

attribute [local go_sem ↓] Go.wp_at_zero Go.wp_at_succ

/-- The kinds' names, as bytes. -/
def nmT : List (List UInt8) := [[66, 76, 75], [82, 66, 49], [82, 66, 50], [80, 85, 83, 72], [87, 49], [87, 50], [87, 51], [87, 52], [87, 53], [87, 54], [87, 55], [82, 79, 79, 84]]
def nmB (k : Int) : List UInt8 := nmT.getD (k - 1).toNat []
def mirS : List UInt8 := [32, 109, 105, 114, 114, 111, 114]
/-- Name's answer. -/
def nameL (k : Int) (mi : Bool) : List UInt8 := if mvB k mi then (if mi then nmB k ++ mirS else nmB k) else []
def nameE (k : Int) (mi : Bool) : Int := if mvB k mi then 0 else 5
/-- The variable of the program that holds the names. -/
structure NmAt (w : World) : Prop where
  lt : 0 < w.heap.size
  cells : ∀ i, i < 12 → w.cell? ⟨0, i, none⟩ = some (.string ⟨(nmT.getD i []).toArray⟩)
theorem NmAt.below {w y : World} (h : NmAt w) (hb : Below w.heap.size w y) : NmAt y := ⟨Nat.lt_of_lt_of_le h.lt hb.size, fun i hi => (hb.cell (p := ⟨0, i, none⟩) h.lt).trans (h.cells i hi)⟩
theorem mv_kinds {k : Int} {mi : Bool} (h : mvB k mi = true) : (k = 1 ∨ k = 2 ∨ k = 3 ∨ k = 4 ∨ k = 5 ∨ k = 6 ∨ k = 7 ∨ k = 8 ∨ k = 9 ∨ k = 10 ∨ k = 11 ∨ k = 12) ∧ (mi = true → hasM k = true) := by
  unfold mvB at h
  simp at h
  refine ⟨by omega, fun q => ?_⟩
  subst q
  simpa using h.2.2
set_option maxRecDepth 100000 in
theorem pnm1f (w : World) (h : NmAt w) : Calls Tryd.prog 7 #[.agg #[.int .i64 1, .bool false]] w fun e w' => e = .returned (.tuple #[.string ⟨#[66, 76, 75]⟩, .int .i64 0]) ∧ Below w.heap.size w w' := by
  have HN : Hid (NmAt w) := h
  have B0 : Hid (Below w.heap.size w (w.alloc (.cells #[.int .i64 1, .bool false] 32))) := below_alloc _ _
  have IM : Hid (∀ W, Calls Tryd.prog 20 #[.agg #[.int .i64 1, .bool false]] W fun e w' => e = .returned (.bool true) ∧ Below W.heap.size W w') := fun W => isMove_any 1 false W
  clear h
  go_enter Tryd.func7, Tryd.ntmps7
  go_wp2_with fail
  refine (IM.out _).mono ?_
  rintro e w1 ⟨rfl, hb⟩
  have B1 : Hid (Below w.heap.size w w1) := B0.out.trans (hb.mono B0.out.size)
  have M1 : Hid (w1.heap[w.heap.size]? = some (.cells #[.int .i64 1, .bool false] 32 (0, 0))) := (hb.block _ (by simp)).trans (heap_alloc_at _ _ _ rfl)
  have m0 := (cell_of M1.out 0 _ rfl).1
  have m1 := (cell_of M1.out 1 _ rfl).1
  have ml : w.heap.size < w1.heap.size := (Array.getElem?_eq_some_iff.1 M1.out).1
  have g0 : w1.cell? ⟨0, 0, none⟩ = some (.string ⟨#[66, 76, 75]⟩) := (HN.out.below B1.out).cells 0 (by omega)
  have lg := (HN.out.below B1.out).lt
  clear hb
  go_wp2_with fail
  go_ret2
  exact ⟨rfl, B1.out⟩
set_option maxRecDepth 100000 in
theorem pnm2f (w : World) (h : NmAt w) : Calls Tryd.prog 7 #[.agg #[.int .i64 2, .bool false]] w fun e w' => e = .returned (.tuple #[.string ⟨#[82, 66, 49]⟩, .int .i64 0]) ∧ Below w.heap.size w w' := by
  have HN : Hid (NmAt w) := h
  have B0 : Hid (Below w.heap.size w (w.alloc (.cells #[.int .i64 2, .bool false] 32))) := below_alloc _ _
  have IM : Hid (∀ W, Calls Tryd.prog 20 #[.agg #[.int .i64 2, .bool false]] W fun e w' => e = .returned (.bool true) ∧ Below W.heap.size W w') := fun W => isMove_any 2 false W
  clear h
  go_enter Tryd.func7, Tryd.ntmps7
  go_wp2_with fail
  refine (IM.out _).mono ?_
  rintro e w1 ⟨rfl, hb⟩
  have B1 : Hid (Below w.heap.size w w1) := B0.out.trans (hb.mono B0.out.size)
  have M1 : Hid (w1.heap[w.heap.size]? = some (.cells #[.int .i64 2, .bool false] 32 (0, 0))) := (hb.block _ (by simp)).trans (heap_alloc_at _ _ _ rfl)
  have m0 := (cell_of M1.out 0 _ rfl).1
  have m1 := (cell_of M1.out 1 _ rfl).1
  have ml : w.heap.size < w1.heap.size := (Array.getElem?_eq_some_iff.1 M1.out).1
  have g0 : w1.cell? ⟨0, 1, none⟩ = some (.string ⟨#[82, 66, 49]⟩) := (HN.out.below B1.out).cells 1 (by omega)
  have lg := (HN.out.below B1.out).lt
  clear hb
  go_wp2_with fail
  go_ret2
  exact ⟨rfl, B1.out⟩
set_option maxRecDepth 100000 in
theorem pnm2t (w : World) (h : NmAt w) : Calls Tryd.prog 7 #[.agg #[.int .i64 2, .bool true]] w fun e w' => e = .returned (.tuple #[.string ⟨#[82, 66, 49, 32, 109, 105, 114, 114, 111, 114]⟩, .int .i64 0]) ∧ Below w.heap.size w w' := by
  have HN : Hid (NmAt w) := h
  have B0 : Hid (Below w.heap.size w (w.alloc (.cells #[.int .i64 2, .bool true] 32))) := below_alloc _ _
  have IM : Hid (∀ W, Calls Tryd.prog 20 #[.agg #[.int .i64 2, .bool true]] W fun e w' => e = .returned (.bool true) ∧ Below W.heap.size W w') := fun W => isMove_any 2 true W
  clear h
  go_enter Tryd.func7, Tryd.ntmps7
  go_wp2_with fail
  refine (IM.out _).mono ?_
  rintro e w1 ⟨rfl, hb⟩
  have B1 : Hid (Below w.heap.size w w1) := B0.out.trans (hb.mono B0.out.size)
  have M1 : Hid (w1.heap[w.heap.size]? = some (.cells #[.int .i64 2, .bool true] 32 (0, 0))) := (hb.block _ (by simp)).trans (heap_alloc_at _ _ _ rfl)
  have m0 := (cell_of M1.out 0 _ rfl).1
  have m1 := (cell_of M1.out 1 _ rfl).1
  have ml : w.heap.size < w1.heap.size := (Array.getElem?_eq_some_iff.1 M1.out).1
  have g0 : w1.cell? ⟨0, 1, none⟩ = some (.string ⟨#[82, 66, 49]⟩) := (HN.out.below B1.out).cells 1 (by omega)
  have lg := (HN.out.below B1.out).lt
  clear hb
  go_wp2_with fail
  go_ret2
  exact ⟨rfl, B1.out⟩
set_option maxRecDepth 100000 in
theorem pnm3f (w : World) (h : NmAt w) : Calls Tryd.prog 7 #[.agg #[.int .i64 3, .bool false]] w fun e w' => e = .returned (.tuple #[.string ⟨#[82, 66, 50]⟩, .int .i64 0]) ∧ Below w.heap.size w w' := by
  have HN : Hid (NmAt w) := h
  have B0 : Hid (Below w.heap.size w (w.alloc (.cells #[.int .i64 3, .bool false] 32))) := below_alloc _ _
  have IM : Hid (∀ W, Calls Tryd.prog 20 #[.agg #[.int .i64 3, .bool false]] W fun e w' => e = .returned (.bool true) ∧ Below W.heap.size W w') := fun W => isMove_any 3 false W
  clear h
  go_enter Tryd.func7, Tryd.ntmps7
  go_wp2_with fail
  refine (IM.out _).mono ?_
  rintro e w1 ⟨rfl, hb⟩
  have B1 : Hid (Below w.heap.size w w1) := B0.out.trans (hb.mono B0.out.size)
  have M1 : Hid (w1.heap[w.heap.size]? = some (.cells #[.int .i64 3, .bool false] 32 (0, 0))) := (hb.block _ (by simp)).trans (heap_alloc_at _ _ _ rfl)
  have m0 := (cell_of M1.out 0 _ rfl).1
  have m1 := (cell_of M1.out 1 _ rfl).1
  have ml : w.heap.size < w1.heap.size := (Array.getElem?_eq_some_iff.1 M1.out).1
  have g0 : w1.cell? ⟨0, 2, none⟩ = some (.string ⟨#[82, 66, 50]⟩) := (HN.out.below B1.out).cells 2 (by omega)
  have lg := (HN.out.below B1.out).lt
  clear hb
  go_wp2_with fail
  go_ret2
  exact ⟨rfl, B1.out⟩
set_option maxRecDepth 100000 in
theorem pnm3t (w : World) (h : NmAt w) : Calls Tryd.prog 7 #[.agg #[.int .i64 3, .bool true]] w fun e w' => e = .returned (.tuple #[.string ⟨#[82, 66, 50, 32, 109, 105, 114, 114, 111, 114]⟩, .int .i64 0]) ∧ Below w.heap.size w w' := by
  have HN : Hid (NmAt w) := h
  have B0 : Hid (Below w.heap.size w (w.alloc (.cells #[.int .i64 3, .bool true] 32))) := below_alloc _ _
  have IM : Hid (∀ W, Calls Tryd.prog 20 #[.agg #[.int .i64 3, .bool true]] W fun e w' => e = .returned (.bool true) ∧ Below W.heap.size W w') := fun W => isMove_any 3 true W
  clear h
  go_enter Tryd.func7, Tryd.ntmps7
  go_wp2_with fail
  refine (IM.out _).mono ?_
  rintro e w1 ⟨rfl, hb⟩
  have B1 : Hid (Below w.heap.size w w1) := B0.out.trans (hb.mono B0.out.size)
  have M1 : Hid (w1.heap[w.heap.size]? = some (.cells #[.int .i64 3, .bool true] 32 (0, 0))) := (hb.block _ (by simp)).trans (heap_alloc_at _ _ _ rfl)
  have m0 := (cell_of M1.out 0 _ rfl).1
  have m1 := (cell_of M1.out 1 _ rfl).1
  have ml : w.heap.size < w1.heap.size := (Array.getElem?_eq_some_iff.1 M1.out).1
  have g0 : w1.cell? ⟨0, 2, none⟩ = some (.string ⟨#[82, 66, 50]⟩) := (HN.out.below B1.out).cells 2 (by omega)
  have lg := (HN.out.below B1.out).lt
  clear hb
  go_wp2_with fail
  go_ret2
  exact ⟨rfl, B1.out⟩
set_option maxRecDepth 100000 in
theorem pnm4f (w : World) (h : NmAt w) : Calls Tryd.prog 7 #[.agg #[.int .i64 4, .bool false]] w fun e w' => e = .returned (.tuple #[.string ⟨#[80, 85, 83, 72]⟩, .int .i64 0]) ∧ Below w.heap.size w w' := by
  have HN : Hid (NmAt w) := h
  have B0 : Hid (Below w.heap.size w (w.alloc (.cells #[.int .i64 4, .bool false] 32))) := below_alloc _ _
  have IM : Hid (∀ W, Calls Tryd.prog 20 #[.agg #[.int .i64 4, .bool false]] W fun e w' => e = .returned (.bool true) ∧ Below W.heap.size W w') := fun W => isMove_any 4 false W
  clear h
  go_enter Tryd.func7, Tryd.ntmps7
  go_wp2_with fail
  refine (IM.out _).mono ?_
  rintro e w1 ⟨rfl, hb⟩
  have B1 : Hid (Below w.heap.size w w1) := B0.out.trans (hb.mono B0.out.size)
  have M1 : Hid (w1.heap[w.heap.size]? = some (.cells #[.int .i64 4, .bool false] 32 (0, 0))) := (hb.block _ (by simp)).trans (heap_alloc_at _ _ _ rfl)
  have m0 := (cell_of M1.out 0 _ rfl).1
  have m1 := (cell_of M1.out 1 _ rfl).1
  have ml : w.heap.size < w1.heap.size := (Array.getElem?_eq_some_iff.1 M1.out).1
  have g0 : w1.cell? ⟨0, 3, none⟩ = some (.string ⟨#[80, 85, 83, 72]⟩) := (HN.out.below B1.out).cells 3 (by omega)
  have lg := (HN.out.below B1.out).lt
  clear hb
  go_wp2_with fail
  go_ret2
  exact ⟨rfl, B1.out⟩
set_option maxRecDepth 100000 in
theorem pnm4t (w : World) (h : NmAt w) : Calls Tryd.prog 7 #[.agg #[.int .i64 4, .bool true]] w fun e w' => e = .returned (.tuple #[.string ⟨#[80, 85, 83, 72, 32, 109, 105, 114, 114, 111, 114]⟩, .int .i64 0]) ∧ Below w.heap.size w w' := by
  have HN : Hid (NmAt w) := h
  have B0 : Hid (Below w.heap.size w (w.alloc (.cells #[.int .i64 4, .bool true] 32))) := below_alloc _ _
  have IM : Hid (∀ W, Calls Tryd.prog 20 #[.agg #[.int .i64 4, .bool true]] W fun e w' => e = .returned (.bool true) ∧ Below W.heap.size W w') := fun W => isMove_any 4 true W
  clear h
  go_enter Tryd.func7, Tryd.ntmps7
  go_wp2_with fail
  refine (IM.out _).mono ?_
  rintro e w1 ⟨rfl, hb⟩
  have B1 : Hid (Below w.heap.size w w1) := B0.out.trans (hb.mono B0.out.size)
  have M1 : Hid (w1.heap[w.heap.size]? = some (.cells #[.int .i64 4, .bool true] 32 (0, 0))) := (hb.block _ (by simp)).trans (heap_alloc_at _ _ _ rfl)
  have m0 := (cell_of M1.out 0 _ rfl).1
  have m1 := (cell_of M1.out 1 _ rfl).1
  have ml : w.heap.size < w1.heap.size := (Array.getElem?_eq_some_iff.1 M1.out).1
  have g0 : w1.cell? ⟨0, 3, none⟩ = some (.string ⟨#[80, 85, 83, 72]⟩) := (HN.out.below B1.out).cells 3 (by omega)
  have lg := (HN.out.below B1.out).lt
  clear hb
  go_wp2_with fail
  go_ret2
  exact ⟨rfl, B1.out⟩
set_option maxRecDepth 100000 in
theorem pnm5f (w : World) (h : NmAt w) : Calls Tryd.prog 7 #[.agg #[.int .i64 5, .bool false]] w fun e w' => e = .returned (.tuple #[.string ⟨#[87, 49]⟩, .int .i64 0]) ∧ Below w.heap.size w w' := by
  have HN : Hid (NmAt w) := h
  have B0 : Hid (Below w.heap.size w (w.alloc (.cells #[.int .i64 5, .bool false] 32))) := below_alloc _ _
  have IM : Hid (∀ W, Calls Tryd.prog 20 #[.agg #[.int .i64 5, .bool false]] W fun e w' => e = .returned (.bool true) ∧ Below W.heap.size W w') := fun W => isMove_any 5 false W
  clear h
  go_enter Tryd.func7, Tryd.ntmps7
  go_wp2_with fail
  refine (IM.out _).mono ?_
  rintro e w1 ⟨rfl, hb⟩
  have B1 : Hid (Below w.heap.size w w1) := B0.out.trans (hb.mono B0.out.size)
  have M1 : Hid (w1.heap[w.heap.size]? = some (.cells #[.int .i64 5, .bool false] 32 (0, 0))) := (hb.block _ (by simp)).trans (heap_alloc_at _ _ _ rfl)
  have m0 := (cell_of M1.out 0 _ rfl).1
  have m1 := (cell_of M1.out 1 _ rfl).1
  have ml : w.heap.size < w1.heap.size := (Array.getElem?_eq_some_iff.1 M1.out).1
  have g0 : w1.cell? ⟨0, 4, none⟩ = some (.string ⟨#[87, 49]⟩) := (HN.out.below B1.out).cells 4 (by omega)
  have lg := (HN.out.below B1.out).lt
  clear hb
  go_wp2_with fail
  go_ret2
  exact ⟨rfl, B1.out⟩
set_option maxRecDepth 100000 in
theorem pnm5t (w : World) (h : NmAt w) : Calls Tryd.prog 7 #[.agg #[.int .i64 5, .bool true]] w fun e w' => e = .returned (.tuple #[.string ⟨#[87, 49, 32, 109, 105, 114, 114, 111, 114]⟩, .int .i64 0]) ∧ Below w.heap.size w w' := by
  have HN : Hid (NmAt w) := h
  have B0 : Hid (Below w.heap.size w (w.alloc (.cells #[.int .i64 5, .bool true] 32))) := below_alloc _ _
  have IM : Hid (∀ W, Calls Tryd.prog 20 #[.agg #[.int .i64 5, .bool true]] W fun e w' => e = .returned (.bool true) ∧ Below W.heap.size W w') := fun W => isMove_any 5 true W
  clear h
  go_enter Tryd.func7, Tryd.ntmps7
  go_wp2_with fail
  refine (IM.out _).mono ?_
  rintro e w1 ⟨rfl, hb⟩
  have B1 : Hid (Below w.heap.size w w1) := B0.out.trans (hb.mono B0.out.size)
  have M1 : Hid (w1.heap[w.heap.size]? = some (.cells #[.int .i64 5, .bool true] 32 (0, 0))) := (hb.block _ (by simp)).trans (heap_alloc_at _ _ _ rfl)
  have m0 := (cell_of M1.out 0 _ rfl).1
  have m1 := (cell_of M1.out 1 _ rfl).1
  have ml : w.heap.size < w1.heap.size := (Array.getElem?_eq_some_iff.1 M1.out).1
  have g0 : w1.cell? ⟨0, 4, none⟩ = some (.string ⟨#[87, 49]⟩) := (HN.out.below B1.out).cells 4 (by omega)
  have lg := (HN.out.below B1.out).lt
  clear hb
  go_wp2_with fail
  go_ret2
  exact ⟨rfl, B1.out⟩
set_option maxRecDepth 100000 in
theorem pnm6f (w : World) (h : NmAt w) : Calls Tryd.prog 7 #[.agg #[.int .i64 6, .bool false]] w fun e w' => e = .returned (.tuple #[.string ⟨#[87, 50]⟩, .int .i64 0]) ∧ Below w.heap.size w w' := by
  have HN : Hid (NmAt w) := h
  have B0 : Hid (Below w.heap.size w (w.alloc (.cells #[.int .i64 6, .bool false] 32))) := below_alloc _ _
  have IM : Hid (∀ W, Calls Tryd.prog 20 #[.agg #[.int .i64 6, .bool false]] W fun e w' => e = .returned (.bool true) ∧ Below W.heap.size W w') := fun W => isMove_any 6 false W
  clear h
  go_enter Tryd.func7, Tryd.ntmps7
  go_wp2_with fail
  refine (IM.out _).mono ?_
  rintro e w1 ⟨rfl, hb⟩
  have B1 : Hid (Below w.heap.size w w1) := B0.out.trans (hb.mono B0.out.size)
  have M1 : Hid (w1.heap[w.heap.size]? = some (.cells #[.int .i64 6, .bool false] 32 (0, 0))) := (hb.block _ (by simp)).trans (heap_alloc_at _ _ _ rfl)
  have m0 := (cell_of M1.out 0 _ rfl).1
  have m1 := (cell_of M1.out 1 _ rfl).1
  have ml : w.heap.size < w1.heap.size := (Array.getElem?_eq_some_iff.1 M1.out).1
  have g0 : w1.cell? ⟨0, 5, none⟩ = some (.string ⟨#[87, 50]⟩) := (HN.out.below B1.out).cells 5 (by omega)
  have lg := (HN.out.below B1.out).lt
  clear hb
  go_wp2_with fail
  go_ret2
  exact ⟨rfl, B1.out⟩
set_option maxRecDepth 100000 in
theorem pnm6t (w : World) (h : NmAt w) : Calls Tryd.prog 7 #[.agg #[.int .i64 6, .bool true]] w fun e w' => e = .returned (.tuple #[.string ⟨#[87, 50, 32, 109, 105, 114, 114, 111, 114]⟩, .int .i64 0]) ∧ Below w.heap.size w w' := by
  have HN : Hid (NmAt w) := h
  have B0 : Hid (Below w.heap.size w (w.alloc (.cells #[.int .i64 6, .bool true] 32))) := below_alloc _ _
  have IM : Hid (∀ W, Calls Tryd.prog 20 #[.agg #[.int .i64 6, .bool true]] W fun e w' => e = .returned (.bool true) ∧ Below W.heap.size W w') := fun W => isMove_any 6 true W
  clear h
  go_enter Tryd.func7, Tryd.ntmps7
  go_wp2_with fail
  refine (IM.out _).mono ?_
  rintro e w1 ⟨rfl, hb⟩
  have B1 : Hid (Below w.heap.size w w1) := B0.out.trans (hb.mono B0.out.size)
  have M1 : Hid (w1.heap[w.heap.size]? = some (.cells #[.int .i64 6, .bool true] 32 (0, 0))) := (hb.block _ (by simp)).trans (heap_alloc_at _ _ _ rfl)
  have m0 := (cell_of M1.out 0 _ rfl).1
  have m1 := (cell_of M1.out 1 _ rfl).1
  have ml : w.heap.size < w1.heap.size := (Array.getElem?_eq_some_iff.1 M1.out).1
  have g0 : w1.cell? ⟨0, 5, none⟩ = some (.string ⟨#[87, 50]⟩) := (HN.out.below B1.out).cells 5 (by omega)
  have lg := (HN.out.below B1.out).lt
  clear hb
  go_wp2_with fail
  go_ret2
  exact ⟨rfl, B1.out⟩
set_option maxRecDepth 100000 in
theorem pnm7f (w : World) (h : NmAt w) : Calls Tryd.prog 7 #[.agg #[.int .i64 7, .bool false]] w fun e w' => e = .returned (.tuple #[.string ⟨#[87, 51]⟩, .int .i64 0]) ∧ Below w.heap.size w w' := by
  have HN : Hid (NmAt w) := h
  have B0 : Hid (Below w.heap.size w (w.alloc (.cells #[.int .i64 7, .bool false] 32))) := below_alloc _ _
  have IM : Hid (∀ W, Calls Tryd.prog 20 #[.agg #[.int .i64 7, .bool false]] W fun e w' => e = .returned (.bool true) ∧ Below W.heap.size W w') := fun W => isMove_any 7 false W
  clear h
  go_enter Tryd.func7, Tryd.ntmps7
  go_wp2_with fail
  refine (IM.out _).mono ?_
  rintro e w1 ⟨rfl, hb⟩
  have B1 : Hid (Below w.heap.size w w1) := B0.out.trans (hb.mono B0.out.size)
  have M1 : Hid (w1.heap[w.heap.size]? = some (.cells #[.int .i64 7, .bool false] 32 (0, 0))) := (hb.block _ (by simp)).trans (heap_alloc_at _ _ _ rfl)
  have m0 := (cell_of M1.out 0 _ rfl).1
  have m1 := (cell_of M1.out 1 _ rfl).1
  have ml : w.heap.size < w1.heap.size := (Array.getElem?_eq_some_iff.1 M1.out).1
  have g0 : w1.cell? ⟨0, 6, none⟩ = some (.string ⟨#[87, 51]⟩) := (HN.out.below B1.out).cells 6 (by omega)
  have lg := (HN.out.below B1.out).lt
  clear hb
  go_wp2_with fail
  go_ret2
  exact ⟨rfl, B1.out⟩
set_option maxRecDepth 100000 in
theorem pnm7t (w : World) (h : NmAt w) : Calls Tryd.prog 7 #[.agg #[.int .i64 7, .bool true]] w fun e w' => e = .returned (.tuple #[.string ⟨#[87, 51, 32, 109, 105, 114, 114, 111, 114]⟩, .int .i64 0]) ∧ Below w.heap.size w w' := by
  have HN : Hid (NmAt w) := h
  have B0 : Hid (Below w.heap.size w (w.alloc (.cells #[.int .i64 7, .bool true] 32))) := below_alloc _ _
  have IM : Hid (∀ W, Calls Tryd.prog 20 #[.agg #[.int .i64 7, .bool true]] W fun e w' => e = .returned (.bool true) ∧ Below W.heap.size W w') := fun W => isMove_any 7 true W
  clear h
  go_enter Tryd.func7, Tryd.ntmps7
  go_wp2_with fail
  refine (IM.out _).mono ?_
  rintro e w1 ⟨rfl, hb⟩
  have B1 : Hid (Below w.heap.size w w1) := B0.out.trans (hb.mono B0.out.size)
  have M1 : Hid (w1.heap[w.heap.size]? = some (.cells #[.int .i64 7, .bool true] 32 (0, 0))) := (hb.block _ (by simp)).trans (heap_alloc_at _ _ _ rfl)
  have m0 := (cell_of M1.out 0 _ rfl).1
  have m1 := (cell_of M1.out 1 _ rfl).1
  have ml : w.heap.size < w1.heap.size := (Array.getElem?_eq_some_iff.1 M1.out).1
  have g0 : w1.cell? ⟨0, 6, none⟩ = some (.string ⟨#[87, 51]⟩) := (HN.out.below B1.out).cells 6 (by omega)
  have lg := (HN.out.below B1.out).lt
  clear hb
  go_wp2_with fail
  go_ret2
  exact ⟨rfl, B1.out⟩
set_option maxRecDepth 100000 in
theorem pnm8f (w : World) (h : NmAt w) : Calls Tryd.prog 7 #[.agg #[.int .i64 8, .bool false]] w fun e w' => e = .returned (.tuple #[.string ⟨#[87, 52]⟩, .int .i64 0]) ∧ Below w.heap.size w w' := by
  have HN : Hid (NmAt w) := h
  have B0 : Hid (Below w.heap.size w (w.alloc (.cells #[.int .i64 8, .bool false] 32))) := below_alloc _ _
  have IM : Hid (∀ W, Calls Tryd.prog 20 #[.agg #[.int .i64 8, .bool false]] W fun e w' => e = .returned (.bool true) ∧ Below W.heap.size W w') := fun W => isMove_any 8 false W
  clear h
  go_enter Tryd.func7, Tryd.ntmps7
  go_wp2_with fail
  refine (IM.out _).mono ?_
  rintro e w1 ⟨rfl, hb⟩
  have B1 : Hid (Below w.heap.size w w1) := B0.out.trans (hb.mono B0.out.size)
  have M1 : Hid (w1.heap[w.heap.size]? = some (.cells #[.int .i64 8, .bool false] 32 (0, 0))) := (hb.block _ (by simp)).trans (heap_alloc_at _ _ _ rfl)
  have m0 := (cell_of M1.out 0 _ rfl).1
  have m1 := (cell_of M1.out 1 _ rfl).1
  have ml : w.heap.size < w1.heap.size := (Array.getElem?_eq_some_iff.1 M1.out).1
  have g0 : w1.cell? ⟨0, 7, none⟩ = some (.string ⟨#[87, 52]⟩) := (HN.out.below B1.out).cells 7 (by omega)
  have lg := (HN.out.below B1.out).lt
  clear hb
  go_wp2_with fail
  go_ret2
  exact ⟨rfl, B1.out⟩
set_option maxRecDepth 100000 in
theorem pnm8t (w : World) (h : NmAt w) : Calls Tryd.prog 7 #[.agg #[.int .i64 8, .bool true]] w fun e w' => e = .returned (.tuple #[.string ⟨#[87, 52, 32, 109, 105, 114, 114, 111, 114]⟩, .int .i64 0]) ∧ Below w.heap.size w w' := by
  have HN : Hid (NmAt w) := h
  have B0 : Hid (Below w.heap.size w (w.alloc (.cells #[.int .i64 8, .bool true] 32))) := below_alloc _ _
  have IM : Hid (∀ W, Calls Tryd.prog 20 #[.agg #[.int .i64 8, .bool true]] W fun e w' => e = .returned (.bool true) ∧ Below W.heap.size W w') := fun W => isMove_any 8 true W
  clear h
  go_enter Tryd.func7, Tryd.ntmps7
  go_wp2_with fail
  refine (IM.out _).mono ?_
  rintro e w1 ⟨rfl, hb⟩
  have B1 : Hid (Below w.heap.size w w1) := B0.out.trans (hb.mono B0.out.size)
  have M1 : Hid (w1.heap[w.heap.size]? = some (.cells #[.int .i64 8, .bool true] 32 (0, 0))) := (hb.block _ (by simp)).trans (heap_alloc_at _ _ _ rfl)
  have m0 := (cell_of M1.out 0 _ rfl).1
  have m1 := (cell_of M1.out 1 _ rfl).1
  have ml : w.heap.size < w1.heap.size := (Array.getElem?_eq_some_iff.1 M1.out).1
  have g0 : w1.cell? ⟨0, 7, none⟩ = some (.string ⟨#[87, 52]⟩) := (HN.out.below B1.out).cells 7 (by omega)
  have lg := (HN.out.below B1.out).lt
  clear hb
  go_wp2_with fail
  go_ret2
  exact ⟨rfl, B1.out⟩
set_option maxRecDepth 100000 in
theorem pnm9f (w : World) (h : NmAt w) : Calls Tryd.prog 7 #[.agg #[.int .i64 9, .bool false]] w fun e w' => e = .returned (.tuple #[.string ⟨#[87, 53]⟩, .int .i64 0]) ∧ Below w.heap.size w w' := by
  have HN : Hid (NmAt w) := h
  have B0 : Hid (Below w.heap.size w (w.alloc (.cells #[.int .i64 9, .bool false] 32))) := below_alloc _ _
  have IM : Hid (∀ W, Calls Tryd.prog 20 #[.agg #[.int .i64 9, .bool false]] W fun e w' => e = .returned (.bool true) ∧ Below W.heap.size W w') := fun W => isMove_any 9 false W
  clear h
  go_enter Tryd.func7, Tryd.ntmps7
  go_wp2_with fail
  refine (IM.out _).mono ?_
  rintro e w1 ⟨rfl, hb⟩
  have B1 : Hid (Below w.heap.size w w1) := B0.out.trans (hb.mono B0.out.size)
  have M1 : Hid (w1.heap[w.heap.size]? = some (.cells #[.int .i64 9, .bool false] 32 (0, 0))) := (hb.block _ (by simp)).trans (heap_alloc_at _ _ _ rfl)
  have m0 := (cell_of M1.out 0 _ rfl).1
  have m1 := (cell_of M1.out 1 _ rfl).1
  have ml : w.heap.size < w1.heap.size := (Array.getElem?_eq_some_iff.1 M1.out).1
  have g0 : w1.cell? ⟨0, 8, none⟩ = some (.string ⟨#[87, 53]⟩) := (HN.out.below B1.out).cells 8 (by omega)
  have lg := (HN.out.below B1.out).lt
  clear hb
  go_wp2_with fail
  go_ret2
  exact ⟨rfl, B1.out⟩
set_option maxRecDepth 100000 in
theorem pnm9t (w : World) (h : NmAt w) : Calls Tryd.prog 7 #[.agg #[.int .i64 9, .bool true]] w fun e w' => e = .returned (.tuple #[.string ⟨#[87, 53, 32, 109, 105, 114, 114, 111, 114]⟩, .int .i64 0]) ∧ Below w.heap.size w w' := by
  have HN : Hid (NmAt w) := h
  have B0 : Hid (Below w.heap.size w (w.alloc (.cells #[.int .i64 9, .bool true] 32))) := below_alloc _ _
  have IM : Hid (∀ W, Calls Tryd.prog 20 #[.agg #[.int .i64 9, .bool true]] W fun e w' => e = .returned (.bool true) ∧ Below W.heap.size W w') := fun W => isMove_any 9 true W
  clear h
  go_enter Tryd.func7, Tryd.ntmps7
  go_wp2_with fail
  refine (IM.out _).mono ?_
  rintro e w1 ⟨rfl, hb⟩
  have B1 : Hid (Below w.heap.size w w1) := B0.out.trans (hb.mono B0.out.size)
  have M1 : Hid (w1.heap[w.heap.size]? = some (.cells #[.int .i64 9, .bool true] 32 (0, 0))) := (hb.block _ (by simp)).trans (heap_alloc_at _ _ _ rfl)
  have m0 := (cell_of M1.out 0 _ rfl).1
  have m1 := (cell_of M1.out 1 _ rfl).1
  have ml : w.heap.size < w1.heap.size := (Array.getElem?_eq_some_iff.1 M1.out).1
  have g0 : w1.cell? ⟨0, 8, none⟩ = some (.string ⟨#[87, 53]⟩) := (HN.out.below B1.out).cells 8 (by omega)
  have lg := (HN.out.below B1.out).lt
  clear hb
  go_wp2_with fail
  go_ret2
  exact ⟨rfl, B1.out⟩
set_option maxRecDepth 100000 in
theorem pnm10f (w : World) (h : NmAt w) : Calls Tryd.prog 7 #[.agg #[.int .i64 10, .bool false]] w fun e w' => e = .returned (.tuple #[.string ⟨#[87, 54]⟩, .int .i64 0]) ∧ Below w.heap.size w w' := by
  have HN : Hid (NmAt w) := h
  have B0 : Hid (Below w.heap.size w (w.alloc (.cells #[.int .i64 10, .bool false] 32))) := below_alloc _ _
  have IM : Hid (∀ W, Calls Tryd.prog 20 #[.agg #[.int .i64 10, .bool false]] W fun e w' => e = .returned (.bool true) ∧ Below W.heap.size W w') := fun W => isMove_any 10 false W
  clear h
  go_enter Tryd.func7, Tryd.ntmps7
  go_wp2_with fail
  refine (IM.out _).mono ?_
  rintro e w1 ⟨rfl, hb⟩
  have B1 : Hid (Below w.heap.size w w1) := B0.out.trans (hb.mono B0.out.size)
  have M1 : Hid (w1.heap[w.heap.size]? = some (.cells #[.int .i64 10, .bool false] 32 (0, 0))) := (hb.block _ (by simp)).trans (heap_alloc_at _ _ _ rfl)
  have m0 := (cell_of M1.out 0 _ rfl).1
  have m1 := (cell_of M1.out 1 _ rfl).1
  have ml : w.heap.size < w1.heap.size := (Array.getElem?_eq_some_iff.1 M1.out).1
  have g0 : w1.cell? ⟨0, 9, none⟩ = some (.string ⟨#[87, 54]⟩) := (HN.out.below B1.out).cells 9 (by omega)
  have lg := (HN.out.below B1.out).lt
  clear hb
  go_wp2_with fail
  go_ret2
  exact ⟨rfl, B1.out⟩
set_option maxRecDepth 100000 in
theorem pnm10t (w : World) (h : NmAt w) : Calls Tryd.prog 7 #[.agg #[.int .i64 10, .bool true]] w fun e w' => e = .returned (.tuple #[.string ⟨#[87, 54, 32, 109, 105, 114, 114, 111, 114]⟩, .int .i64 0]) ∧ Below w.heap.size w w' := by
  have HN : Hid (NmAt w) := h
  have B0 : Hid (Below w.heap.size w (w.alloc (.cells #[.int .i64 10, .bool true] 32))) := below_alloc _ _
  have IM : Hid (∀ W, Calls Tryd.prog 20 #[.agg #[.int .i64 10, .bool true]] W fun e w' => e = .returned (.bool true) ∧ Below W.heap.size W w') := fun W => isMove_any 10 true W
  clear h
  go_enter Tryd.func7, Tryd.ntmps7
  go_wp2_with fail
  refine (IM.out _).mono ?_
  rintro e w1 ⟨rfl, hb⟩
  have B1 : Hid (Below w.heap.size w w1) := B0.out.trans (hb.mono B0.out.size)
  have M1 : Hid (w1.heap[w.heap.size]? = some (.cells #[.int .i64 10, .bool true] 32 (0, 0))) := (hb.block _ (by simp)).trans (heap_alloc_at _ _ _ rfl)
  have m0 := (cell_of M1.out 0 _ rfl).1
  have m1 := (cell_of M1.out 1 _ rfl).1
  have ml : w.heap.size < w1.heap.size := (Array.getElem?_eq_some_iff.1 M1.out).1
  have g0 : w1.cell? ⟨0, 9, none⟩ = some (.string ⟨#[87, 54]⟩) := (HN.out.below B1.out).cells 9 (by omega)
  have lg := (HN.out.below B1.out).lt
  clear hb
  go_wp2_with fail
  go_ret2
  exact ⟨rfl, B1.out⟩
set_option maxRecDepth 100000 in
theorem pnm11f (w : World) (h : NmAt w) : Calls Tryd.prog 7 #[.agg #[.int .i64 11, .bool false]] w fun e w' => e = .returned (.tuple #[.string ⟨#[87, 55]⟩, .int .i64 0]) ∧ Below w.heap.size w w' := by
  have HN : Hid (NmAt w) := h
  have B0 : Hid (Below w.heap.size w (w.alloc (.cells #[.int .i64 11, .bool false] 32))) := below_alloc _ _
  have IM : Hid (∀ W, Calls Tryd.prog 20 #[.agg #[.int .i64 11, .bool false]] W fun e w' => e = .returned (.bool true) ∧ Below W.heap.size W w') := fun W => isMove_any 11 false W
  clear h
  go_enter Tryd.func7, Tryd.ntmps7
  go_wp2_with fail
  refine (IM.out _).mono ?_
  rintro e w1 ⟨rfl, hb⟩
  have B1 : Hid (Below w.heap.size w w1) := B0.out.trans (hb.mono B0.out.size)
  have M1 : Hid (w1.heap[w.heap.size]? = some (.cells #[.int .i64 11, .bool false] 32 (0, 0))) := (hb.block _ (by simp)).trans (heap_alloc_at _ _ _ rfl)
  have m0 := (cell_of M1.out 0 _ rfl).1
  have m1 := (cell_of M1.out 1 _ rfl).1
  have ml : w.heap.size < w1.heap.size := (Array.getElem?_eq_some_iff.1 M1.out).1
  have g0 : w1.cell? ⟨0, 10, none⟩ = some (.string ⟨#[87, 55]⟩) := (HN.out.below B1.out).cells 10 (by omega)
  have lg := (HN.out.below B1.out).lt
  clear hb
  go_wp2_with fail
  go_ret2
  exact ⟨rfl, B1.out⟩
set_option maxRecDepth 100000 in
theorem pnm12f (w : World) (h : NmAt w) : Calls Tryd.prog 7 #[.agg #[.int .i64 12, .bool false]] w fun e w' => e = .returned (.tuple #[.string ⟨#[82, 79, 79, 84]⟩, .int .i64 0]) ∧ Below w.heap.size w w' := by
  have HN : Hid (NmAt w) := h
  have B0 : Hid (Below w.heap.size w (w.alloc (.cells #[.int .i64 12, .bool false] 32))) := below_alloc _ _
  have IM : Hid (∀ W, Calls Tryd.prog 20 #[.agg #[.int .i64 12, .bool false]] W fun e w' => e = .returned (.bool true) ∧ Below W.heap.size W w') := fun W => isMove_any 12 false W
  clear h
  go_enter Tryd.func7, Tryd.ntmps7
  go_wp2_with fail
  refine (IM.out _).mono ?_
  rintro e w1 ⟨rfl, hb⟩
  have B1 : Hid (Below w.heap.size w w1) := B0.out.trans (hb.mono B0.out.size)
  have M1 : Hid (w1.heap[w.heap.size]? = some (.cells #[.int .i64 12, .bool false] 32 (0, 0))) := (hb.block _ (by simp)).trans (heap_alloc_at _ _ _ rfl)
  have m0 := (cell_of M1.out 0 _ rfl).1
  have m1 := (cell_of M1.out 1 _ rfl).1
  have ml : w.heap.size < w1.heap.size := (Array.getElem?_eq_some_iff.1 M1.out).1
  have g0 : w1.cell? ⟨0, 11, none⟩ = some (.string ⟨#[82, 79, 79, 84]⟩) := (HN.out.below B1.out).cells 11 (by omega)
  have lg := (HN.out.below B1.out).lt
  clear hb
  go_wp2_with fail
  go_ret2
  exact ⟨rfl, B1.out⟩
def nmA : Array Value := #[.string ⟨#[]⟩, .string ⟨#[66, 76, 75]⟩, .string ⟨#[82, 66, 49]⟩, .string ⟨#[82, 66, 50]⟩, .string ⟨#[80, 85, 83, 72]⟩, .string ⟨#[87, 49]⟩, .string ⟨#[87, 50]⟩, .string ⟨#[87, 51]⟩, .string ⟨#[87, 52]⟩, .string ⟨#[87, 53]⟩, .string ⟨#[87, 54]⟩, .string ⟨#[87, 55]⟩, .string ⟨#[82, 79, 79, 84]⟩]
set_option maxRecDepth 100000 in
theorem rnames_any (w : World) : Calls Tryd.prog 19 #[] w fun e w' => ∃ g : Nat, e = .returned (.slice (some ⟨g, 0, none⟩) 13 13) ∧ w'.heap[g]? = some (.cells nmA 9 (0, 0)) ∧ Below w.heap.size w w' := by
  go_enter Tryd.func19, Tryd.ntmps19
  go_wp2_with fail
  go_ret
  exact ⟨_, rfl, heap_alloc_at _ _ _ rfl, below_alloc _ _⟩
set_option maxRecDepth 100000 in
theorem rnm1f (w : World) (IM : ∀ W, Calls Tryd.prog 18 #[.agg #[.int .i64 1, .bool false]] W fun e w' => e = .returned (.bool true) ∧ Below W.heap.size W w') : Calls Tryd.prog 5 #[.agg #[.int .i64 1, .bool false]] w fun e w' => e = .returned (.tuple #[.string ⟨#[66, 76, 75]⟩, .int .i64 0]) ∧ Below w.heap.size w w' := by
  have IH : Hid (∀ W, Calls Tryd.prog 18 #[.agg #[.int .i64 1, .bool false]] W fun e w' => e = .returned (.bool true) ∧ Below W.heap.size W w') := IM
  have NH : Hid (∀ W, Calls Tryd.prog 19 #[] W fun e w' => ∃ g : Nat, e = .returned (.slice (some ⟨g, 0, none⟩) 13 13) ∧ w'.heap[g]? = some (.cells nmA 9 (0, 0)) ∧ Below W.heap.size W w') := fun W => rnames_any W
  have B0 : Hid (Below w.heap.size w (w.alloc (.cells #[.int .i64 1, .bool false] 23))) := below_alloc _ _
  clear IM
  go_enter Tryd.func5, Tryd.ntmps5
  go_wp2_with fail
  refine (IH.out _).mono ?_
  rintro e w1 ⟨rfl, hb⟩
  have B1 : Hid (Below w.heap.size w w1) := B0.out.trans (hb.mono B0.out.size)
  have M1 : Hid (w1.heap[w.heap.size]? = some (.cells #[.int .i64 1, .bool false] 23 (0, 0))) := (hb.block _ (by simp)).trans (heap_alloc_at _ _ _ rfl)
  have CC : Hid (∀ z, Below w1.heap.size w1 z → z.cell? ⟨w.heap.size, 0, none⟩ = some (.int .i64 1) ∧ z.cell? ⟨w.heap.size, 1, none⟩ = some (.bool false)) := fun z hz => by
    have q := (hz.block _ (Array.getElem?_eq_some_iff.1 M1.out).1).trans M1.out
    exact ⟨(cell_of q 0 _ rfl).1, (cell_of q 1 _ rfl).1⟩
  obtain ⟨m0, m1⟩ := CC.out w1 (Below.refl _ _)
  have ml : w.heap.size < w1.heap.size := (Array.getElem?_eq_some_iff.1 M1.out).1
  have D1 : Hid (Below w1.heap.size w1 w1.drew) := (Below.refl _ _).drew
  clear hb
  go_wp2_with fail
  go_region_with (first | (go_at_call 19; refine (NH.out _).mono ?_; rintro e w2 ⟨g2, rfl, hg, hb⟩; have B2 : Hid (Below w1.heap.size w1 w2) := D1.out.trans (hb.mono D1.out.size); obtain ⟨x0, x1⟩ := CC.out _ B2.out; have ml2 : w.heap.size < w2.heap.size := Nat.lt_of_lt_of_le ml B2.out.size; have sc : w2.cell? ⟨g2, 1, none⟩ = some (.string ⟨#[66, 76, 75]⟩) := (cell_of hg 1 _ rfl).1; have lg2 : g2 < w2.heap.size := (Array.getElem?_eq_some_iff.1 hg).1; clear hb hg))
  all_goals go_wp2_with fail
  all_goals go_ret2
  all_goals exact ⟨rfl, B1.out.trans (B2.out.mono B1.out.size)⟩
set_option maxRecDepth 100000 in
theorem rnm2f (w : World) (IM : ∀ W, Calls Tryd.prog 18 #[.agg #[.int .i64 2, .bool false]] W fun e w' => e = .returned (.bool true) ∧ Below W.heap.size W w') : Calls Tryd.prog 5 #[.agg #[.int .i64 2, .bool false]] w fun e w' => e = .returned (.tuple #[.string ⟨#[82, 66, 49]⟩, .int .i64 0]) ∧ Below w.heap.size w w' := by
  have IH : Hid (∀ W, Calls Tryd.prog 18 #[.agg #[.int .i64 2, .bool false]] W fun e w' => e = .returned (.bool true) ∧ Below W.heap.size W w') := IM
  have NH : Hid (∀ W, Calls Tryd.prog 19 #[] W fun e w' => ∃ g : Nat, e = .returned (.slice (some ⟨g, 0, none⟩) 13 13) ∧ w'.heap[g]? = some (.cells nmA 9 (0, 0)) ∧ Below W.heap.size W w') := fun W => rnames_any W
  have B0 : Hid (Below w.heap.size w (w.alloc (.cells #[.int .i64 2, .bool false] 23))) := below_alloc _ _
  clear IM
  go_enter Tryd.func5, Tryd.ntmps5
  go_wp2_with fail
  refine (IH.out _).mono ?_
  rintro e w1 ⟨rfl, hb⟩
  have B1 : Hid (Below w.heap.size w w1) := B0.out.trans (hb.mono B0.out.size)
  have M1 : Hid (w1.heap[w.heap.size]? = some (.cells #[.int .i64 2, .bool false] 23 (0, 0))) := (hb.block _ (by simp)).trans (heap_alloc_at _ _ _ rfl)
  have CC : Hid (∀ z, Below w1.heap.size w1 z → z.cell? ⟨w.heap.size, 0, none⟩ = some (.int .i64 2) ∧ z.cell? ⟨w.heap.size, 1, none⟩ = some (.bool false)) := fun z hz => by
    have q := (hz.block _ (Array.getElem?_eq_some_iff.1 M1.out).1).trans M1.out
    exact ⟨(cell_of q 0 _ rfl).1, (cell_of q 1 _ rfl).1⟩
  obtain ⟨m0, m1⟩ := CC.out w1 (Below.refl _ _)
  have ml : w.heap.size < w1.heap.size := (Array.getElem?_eq_some_iff.1 M1.out).1
  have D1 : Hid (Below w1.heap.size w1 w1.drew) := (Below.refl _ _).drew
  clear hb
  go_wp2_with fail
  go_region_with (first | (go_at_call 19; refine (NH.out _).mono ?_; rintro e w2 ⟨g2, rfl, hg, hb⟩; have B2 : Hid (Below w1.heap.size w1 w2) := D1.out.trans (hb.mono D1.out.size); obtain ⟨x0, x1⟩ := CC.out _ B2.out; have ml2 : w.heap.size < w2.heap.size := Nat.lt_of_lt_of_le ml B2.out.size; have sc : w2.cell? ⟨g2, 2, none⟩ = some (.string ⟨#[82, 66, 49]⟩) := (cell_of hg 2 _ rfl).1; have lg2 : g2 < w2.heap.size := (Array.getElem?_eq_some_iff.1 hg).1; clear hb hg))
  all_goals go_wp2_with fail
  all_goals go_ret2
  all_goals exact ⟨rfl, B1.out.trans (B2.out.mono B1.out.size)⟩
set_option maxRecDepth 100000 in
theorem rnm2t (w : World) (IM : ∀ W, Calls Tryd.prog 18 #[.agg #[.int .i64 2, .bool true]] W fun e w' => e = .returned (.bool true) ∧ Below W.heap.size W w') : Calls Tryd.prog 5 #[.agg #[.int .i64 2, .bool true]] w fun e w' => e = .returned (.tuple #[.string ⟨#[82, 66, 49, 32, 109, 105, 114, 114, 111, 114]⟩, .int .i64 0]) ∧ Below w.heap.size w w' := by
  have IH : Hid (∀ W, Calls Tryd.prog 18 #[.agg #[.int .i64 2, .bool true]] W fun e w' => e = .returned (.bool true) ∧ Below W.heap.size W w') := IM
  have NH : Hid (∀ W, Calls Tryd.prog 19 #[] W fun e w' => ∃ g : Nat, e = .returned (.slice (some ⟨g, 0, none⟩) 13 13) ∧ w'.heap[g]? = some (.cells nmA 9 (0, 0)) ∧ Below W.heap.size W w') := fun W => rnames_any W
  have B0 : Hid (Below w.heap.size w (w.alloc (.cells #[.int .i64 2, .bool true] 23))) := below_alloc _ _
  clear IM
  go_enter Tryd.func5, Tryd.ntmps5
  go_wp2_with fail
  refine (IH.out _).mono ?_
  rintro e w1 ⟨rfl, hb⟩
  have B1 : Hid (Below w.heap.size w w1) := B0.out.trans (hb.mono B0.out.size)
  have M1 : Hid (w1.heap[w.heap.size]? = some (.cells #[.int .i64 2, .bool true] 23 (0, 0))) := (hb.block _ (by simp)).trans (heap_alloc_at _ _ _ rfl)
  have CC : Hid (∀ z, Below w1.heap.size w1 z → z.cell? ⟨w.heap.size, 0, none⟩ = some (.int .i64 2) ∧ z.cell? ⟨w.heap.size, 1, none⟩ = some (.bool true)) := fun z hz => by
    have q := (hz.block _ (Array.getElem?_eq_some_iff.1 M1.out).1).trans M1.out
    exact ⟨(cell_of q 0 _ rfl).1, (cell_of q 1 _ rfl).1⟩
  obtain ⟨m0, m1⟩ := CC.out w1 (Below.refl _ _)
  have ml : w.heap.size < w1.heap.size := (Array.getElem?_eq_some_iff.1 M1.out).1
  have D1 : Hid (Below w1.heap.size w1 w1.drew) := (Below.refl _ _).drew
  clear hb
  go_wp2_with fail
  go_region_with (first | (go_at_call 19; refine (NH.out _).mono ?_; rintro e w2 ⟨g2, rfl, hg, hb⟩; have B2 : Hid (Below w1.heap.size w1 w2) := D1.out.trans (hb.mono D1.out.size); obtain ⟨x0, x1⟩ := CC.out _ B2.out; have ml2 : w.heap.size < w2.heap.size := Nat.lt_of_lt_of_le ml B2.out.size; have sc : w2.cell? ⟨g2, 2, none⟩ = some (.string ⟨#[82, 66, 49]⟩) := (cell_of hg 2 _ rfl).1; have lg2 : g2 < w2.heap.size := (Array.getElem?_eq_some_iff.1 hg).1; clear hb hg))
  all_goals go_wp2_with fail
  all_goals go_ret2
  all_goals exact ⟨rfl, B1.out.trans (B2.out.mono B1.out.size)⟩
set_option maxRecDepth 100000 in
theorem rnm3f (w : World) (IM : ∀ W, Calls Tryd.prog 18 #[.agg #[.int .i64 3, .bool false]] W fun e w' => e = .returned (.bool true) ∧ Below W.heap.size W w') : Calls Tryd.prog 5 #[.agg #[.int .i64 3, .bool false]] w fun e w' => e = .returned (.tuple #[.string ⟨#[82, 66, 50]⟩, .int .i64 0]) ∧ Below w.heap.size w w' := by
  have IH : Hid (∀ W, Calls Tryd.prog 18 #[.agg #[.int .i64 3, .bool false]] W fun e w' => e = .returned (.bool true) ∧ Below W.heap.size W w') := IM
  have NH : Hid (∀ W, Calls Tryd.prog 19 #[] W fun e w' => ∃ g : Nat, e = .returned (.slice (some ⟨g, 0, none⟩) 13 13) ∧ w'.heap[g]? = some (.cells nmA 9 (0, 0)) ∧ Below W.heap.size W w') := fun W => rnames_any W
  have B0 : Hid (Below w.heap.size w (w.alloc (.cells #[.int .i64 3, .bool false] 23))) := below_alloc _ _
  clear IM
  go_enter Tryd.func5, Tryd.ntmps5
  go_wp2_with fail
  refine (IH.out _).mono ?_
  rintro e w1 ⟨rfl, hb⟩
  have B1 : Hid (Below w.heap.size w w1) := B0.out.trans (hb.mono B0.out.size)
  have M1 : Hid (w1.heap[w.heap.size]? = some (.cells #[.int .i64 3, .bool false] 23 (0, 0))) := (hb.block _ (by simp)).trans (heap_alloc_at _ _ _ rfl)
  have CC : Hid (∀ z, Below w1.heap.size w1 z → z.cell? ⟨w.heap.size, 0, none⟩ = some (.int .i64 3) ∧ z.cell? ⟨w.heap.size, 1, none⟩ = some (.bool false)) := fun z hz => by
    have q := (hz.block _ (Array.getElem?_eq_some_iff.1 M1.out).1).trans M1.out
    exact ⟨(cell_of q 0 _ rfl).1, (cell_of q 1 _ rfl).1⟩
  obtain ⟨m0, m1⟩ := CC.out w1 (Below.refl _ _)
  have ml : w.heap.size < w1.heap.size := (Array.getElem?_eq_some_iff.1 M1.out).1
  have D1 : Hid (Below w1.heap.size w1 w1.drew) := (Below.refl _ _).drew
  clear hb
  go_wp2_with fail
  go_region_with (first | (go_at_call 19; refine (NH.out _).mono ?_; rintro e w2 ⟨g2, rfl, hg, hb⟩; have B2 : Hid (Below w1.heap.size w1 w2) := D1.out.trans (hb.mono D1.out.size); obtain ⟨x0, x1⟩ := CC.out _ B2.out; have ml2 : w.heap.size < w2.heap.size := Nat.lt_of_lt_of_le ml B2.out.size; have sc : w2.cell? ⟨g2, 3, none⟩ = some (.string ⟨#[82, 66, 50]⟩) := (cell_of hg 3 _ rfl).1; have lg2 : g2 < w2.heap.size := (Array.getElem?_eq_some_iff.1 hg).1; clear hb hg))
  all_goals go_wp2_with fail
  all_goals go_ret2
  all_goals exact ⟨rfl, B1.out.trans (B2.out.mono B1.out.size)⟩
set_option maxRecDepth 100000 in
theorem rnm3t (w : World) (IM : ∀ W, Calls Tryd.prog 18 #[.agg #[.int .i64 3, .bool true]] W fun e w' => e = .returned (.bool true) ∧ Below W.heap.size W w') : Calls Tryd.prog 5 #[.agg #[.int .i64 3, .bool true]] w fun e w' => e = .returned (.tuple #[.string ⟨#[82, 66, 50, 32, 109, 105, 114, 114, 111, 114]⟩, .int .i64 0]) ∧ Below w.heap.size w w' := by
  have IH : Hid (∀ W, Calls Tryd.prog 18 #[.agg #[.int .i64 3, .bool true]] W fun e w' => e = .returned (.bool true) ∧ Below W.heap.size W w') := IM
  have NH : Hid (∀ W, Calls Tryd.prog 19 #[] W fun e w' => ∃ g : Nat, e = .returned (.slice (some ⟨g, 0, none⟩) 13 13) ∧ w'.heap[g]? = some (.cells nmA 9 (0, 0)) ∧ Below W.heap.size W w') := fun W => rnames_any W
  have B0 : Hid (Below w.heap.size w (w.alloc (.cells #[.int .i64 3, .bool true] 23))) := below_alloc _ _
  clear IM
  go_enter Tryd.func5, Tryd.ntmps5
  go_wp2_with fail
  refine (IH.out _).mono ?_
  rintro e w1 ⟨rfl, hb⟩
  have B1 : Hid (Below w.heap.size w w1) := B0.out.trans (hb.mono B0.out.size)
  have M1 : Hid (w1.heap[w.heap.size]? = some (.cells #[.int .i64 3, .bool true] 23 (0, 0))) := (hb.block _ (by simp)).trans (heap_alloc_at _ _ _ rfl)
  have CC : Hid (∀ z, Below w1.heap.size w1 z → z.cell? ⟨w.heap.size, 0, none⟩ = some (.int .i64 3) ∧ z.cell? ⟨w.heap.size, 1, none⟩ = some (.bool true)) := fun z hz => by
    have q := (hz.block _ (Array.getElem?_eq_some_iff.1 M1.out).1).trans M1.out
    exact ⟨(cell_of q 0 _ rfl).1, (cell_of q 1 _ rfl).1⟩
  obtain ⟨m0, m1⟩ := CC.out w1 (Below.refl _ _)
  have ml : w.heap.size < w1.heap.size := (Array.getElem?_eq_some_iff.1 M1.out).1
  have D1 : Hid (Below w1.heap.size w1 w1.drew) := (Below.refl _ _).drew
  clear hb
  go_wp2_with fail
  go_region_with (first | (go_at_call 19; refine (NH.out _).mono ?_; rintro e w2 ⟨g2, rfl, hg, hb⟩; have B2 : Hid (Below w1.heap.size w1 w2) := D1.out.trans (hb.mono D1.out.size); obtain ⟨x0, x1⟩ := CC.out _ B2.out; have ml2 : w.heap.size < w2.heap.size := Nat.lt_of_lt_of_le ml B2.out.size; have sc : w2.cell? ⟨g2, 3, none⟩ = some (.string ⟨#[82, 66, 50]⟩) := (cell_of hg 3 _ rfl).1; have lg2 : g2 < w2.heap.size := (Array.getElem?_eq_some_iff.1 hg).1; clear hb hg))
  all_goals go_wp2_with fail
  all_goals go_ret2
  all_goals exact ⟨rfl, B1.out.trans (B2.out.mono B1.out.size)⟩
set_option maxRecDepth 100000 in
theorem rnm4f (w : World) (IM : ∀ W, Calls Tryd.prog 18 #[.agg #[.int .i64 4, .bool false]] W fun e w' => e = .returned (.bool true) ∧ Below W.heap.size W w') : Calls Tryd.prog 5 #[.agg #[.int .i64 4, .bool false]] w fun e w' => e = .returned (.tuple #[.string ⟨#[80, 85, 83, 72]⟩, .int .i64 0]) ∧ Below w.heap.size w w' := by
  have IH : Hid (∀ W, Calls Tryd.prog 18 #[.agg #[.int .i64 4, .bool false]] W fun e w' => e = .returned (.bool true) ∧ Below W.heap.size W w') := IM
  have NH : Hid (∀ W, Calls Tryd.prog 19 #[] W fun e w' => ∃ g : Nat, e = .returned (.slice (some ⟨g, 0, none⟩) 13 13) ∧ w'.heap[g]? = some (.cells nmA 9 (0, 0)) ∧ Below W.heap.size W w') := fun W => rnames_any W
  have B0 : Hid (Below w.heap.size w (w.alloc (.cells #[.int .i64 4, .bool false] 23))) := below_alloc _ _
  clear IM
  go_enter Tryd.func5, Tryd.ntmps5
  go_wp2_with fail
  refine (IH.out _).mono ?_
  rintro e w1 ⟨rfl, hb⟩
  have B1 : Hid (Below w.heap.size w w1) := B0.out.trans (hb.mono B0.out.size)
  have M1 : Hid (w1.heap[w.heap.size]? = some (.cells #[.int .i64 4, .bool false] 23 (0, 0))) := (hb.block _ (by simp)).trans (heap_alloc_at _ _ _ rfl)
  have CC : Hid (∀ z, Below w1.heap.size w1 z → z.cell? ⟨w.heap.size, 0, none⟩ = some (.int .i64 4) ∧ z.cell? ⟨w.heap.size, 1, none⟩ = some (.bool false)) := fun z hz => by
    have q := (hz.block _ (Array.getElem?_eq_some_iff.1 M1.out).1).trans M1.out
    exact ⟨(cell_of q 0 _ rfl).1, (cell_of q 1 _ rfl).1⟩
  obtain ⟨m0, m1⟩ := CC.out w1 (Below.refl _ _)
  have ml : w.heap.size < w1.heap.size := (Array.getElem?_eq_some_iff.1 M1.out).1
  have D1 : Hid (Below w1.heap.size w1 w1.drew) := (Below.refl _ _).drew
  clear hb
  go_wp2_with fail
  go_region_with (first | (go_at_call 19; refine (NH.out _).mono ?_; rintro e w2 ⟨g2, rfl, hg, hb⟩; have B2 : Hid (Below w1.heap.size w1 w2) := D1.out.trans (hb.mono D1.out.size); obtain ⟨x0, x1⟩ := CC.out _ B2.out; have ml2 : w.heap.size < w2.heap.size := Nat.lt_of_lt_of_le ml B2.out.size; have sc : w2.cell? ⟨g2, 4, none⟩ = some (.string ⟨#[80, 85, 83, 72]⟩) := (cell_of hg 4 _ rfl).1; have lg2 : g2 < w2.heap.size := (Array.getElem?_eq_some_iff.1 hg).1; clear hb hg))
  all_goals go_wp2_with fail
  all_goals go_ret2
  all_goals exact ⟨rfl, B1.out.trans (B2.out.mono B1.out.size)⟩
set_option maxRecDepth 100000 in
theorem rnm4t (w : World) (IM : ∀ W, Calls Tryd.prog 18 #[.agg #[.int .i64 4, .bool true]] W fun e w' => e = .returned (.bool true) ∧ Below W.heap.size W w') : Calls Tryd.prog 5 #[.agg #[.int .i64 4, .bool true]] w fun e w' => e = .returned (.tuple #[.string ⟨#[80, 85, 83, 72, 32, 109, 105, 114, 114, 111, 114]⟩, .int .i64 0]) ∧ Below w.heap.size w w' := by
  have IH : Hid (∀ W, Calls Tryd.prog 18 #[.agg #[.int .i64 4, .bool true]] W fun e w' => e = .returned (.bool true) ∧ Below W.heap.size W w') := IM
  have NH : Hid (∀ W, Calls Tryd.prog 19 #[] W fun e w' => ∃ g : Nat, e = .returned (.slice (some ⟨g, 0, none⟩) 13 13) ∧ w'.heap[g]? = some (.cells nmA 9 (0, 0)) ∧ Below W.heap.size W w') := fun W => rnames_any W
  have B0 : Hid (Below w.heap.size w (w.alloc (.cells #[.int .i64 4, .bool true] 23))) := below_alloc _ _
  clear IM
  go_enter Tryd.func5, Tryd.ntmps5
  go_wp2_with fail
  refine (IH.out _).mono ?_
  rintro e w1 ⟨rfl, hb⟩
  have B1 : Hid (Below w.heap.size w w1) := B0.out.trans (hb.mono B0.out.size)
  have M1 : Hid (w1.heap[w.heap.size]? = some (.cells #[.int .i64 4, .bool true] 23 (0, 0))) := (hb.block _ (by simp)).trans (heap_alloc_at _ _ _ rfl)
  have CC : Hid (∀ z, Below w1.heap.size w1 z → z.cell? ⟨w.heap.size, 0, none⟩ = some (.int .i64 4) ∧ z.cell? ⟨w.heap.size, 1, none⟩ = some (.bool true)) := fun z hz => by
    have q := (hz.block _ (Array.getElem?_eq_some_iff.1 M1.out).1).trans M1.out
    exact ⟨(cell_of q 0 _ rfl).1, (cell_of q 1 _ rfl).1⟩
  obtain ⟨m0, m1⟩ := CC.out w1 (Below.refl _ _)
  have ml : w.heap.size < w1.heap.size := (Array.getElem?_eq_some_iff.1 M1.out).1
  have D1 : Hid (Below w1.heap.size w1 w1.drew) := (Below.refl _ _).drew
  clear hb
  go_wp2_with fail
  go_region_with (first | (go_at_call 19; refine (NH.out _).mono ?_; rintro e w2 ⟨g2, rfl, hg, hb⟩; have B2 : Hid (Below w1.heap.size w1 w2) := D1.out.trans (hb.mono D1.out.size); obtain ⟨x0, x1⟩ := CC.out _ B2.out; have ml2 : w.heap.size < w2.heap.size := Nat.lt_of_lt_of_le ml B2.out.size; have sc : w2.cell? ⟨g2, 4, none⟩ = some (.string ⟨#[80, 85, 83, 72]⟩) := (cell_of hg 4 _ rfl).1; have lg2 : g2 < w2.heap.size := (Array.getElem?_eq_some_iff.1 hg).1; clear hb hg))
  all_goals go_wp2_with fail
  all_goals go_ret2
  all_goals exact ⟨rfl, B1.out.trans (B2.out.mono B1.out.size)⟩
set_option maxRecDepth 100000 in
theorem rnm5f (w : World) (IM : ∀ W, Calls Tryd.prog 18 #[.agg #[.int .i64 5, .bool false]] W fun e w' => e = .returned (.bool true) ∧ Below W.heap.size W w') : Calls Tryd.prog 5 #[.agg #[.int .i64 5, .bool false]] w fun e w' => e = .returned (.tuple #[.string ⟨#[87, 49]⟩, .int .i64 0]) ∧ Below w.heap.size w w' := by
  have IH : Hid (∀ W, Calls Tryd.prog 18 #[.agg #[.int .i64 5, .bool false]] W fun e w' => e = .returned (.bool true) ∧ Below W.heap.size W w') := IM
  have NH : Hid (∀ W, Calls Tryd.prog 19 #[] W fun e w' => ∃ g : Nat, e = .returned (.slice (some ⟨g, 0, none⟩) 13 13) ∧ w'.heap[g]? = some (.cells nmA 9 (0, 0)) ∧ Below W.heap.size W w') := fun W => rnames_any W
  have B0 : Hid (Below w.heap.size w (w.alloc (.cells #[.int .i64 5, .bool false] 23))) := below_alloc _ _
  clear IM
  go_enter Tryd.func5, Tryd.ntmps5
  go_wp2_with fail
  refine (IH.out _).mono ?_
  rintro e w1 ⟨rfl, hb⟩
  have B1 : Hid (Below w.heap.size w w1) := B0.out.trans (hb.mono B0.out.size)
  have M1 : Hid (w1.heap[w.heap.size]? = some (.cells #[.int .i64 5, .bool false] 23 (0, 0))) := (hb.block _ (by simp)).trans (heap_alloc_at _ _ _ rfl)
  have CC : Hid (∀ z, Below w1.heap.size w1 z → z.cell? ⟨w.heap.size, 0, none⟩ = some (.int .i64 5) ∧ z.cell? ⟨w.heap.size, 1, none⟩ = some (.bool false)) := fun z hz => by
    have q := (hz.block _ (Array.getElem?_eq_some_iff.1 M1.out).1).trans M1.out
    exact ⟨(cell_of q 0 _ rfl).1, (cell_of q 1 _ rfl).1⟩
  obtain ⟨m0, m1⟩ := CC.out w1 (Below.refl _ _)
  have ml : w.heap.size < w1.heap.size := (Array.getElem?_eq_some_iff.1 M1.out).1
  have D1 : Hid (Below w1.heap.size w1 w1.drew) := (Below.refl _ _).drew
  clear hb
  go_wp2_with fail
  go_region_with (first | (go_at_call 19; refine (NH.out _).mono ?_; rintro e w2 ⟨g2, rfl, hg, hb⟩; have B2 : Hid (Below w1.heap.size w1 w2) := D1.out.trans (hb.mono D1.out.size); obtain ⟨x0, x1⟩ := CC.out _ B2.out; have ml2 : w.heap.size < w2.heap.size := Nat.lt_of_lt_of_le ml B2.out.size; have sc : w2.cell? ⟨g2, 5, none⟩ = some (.string ⟨#[87, 49]⟩) := (cell_of hg 5 _ rfl).1; have lg2 : g2 < w2.heap.size := (Array.getElem?_eq_some_iff.1 hg).1; clear hb hg))
  all_goals go_wp2_with fail
  all_goals go_ret2
  all_goals exact ⟨rfl, B1.out.trans (B2.out.mono B1.out.size)⟩
set_option maxRecDepth 100000 in
theorem rnm5t (w : World) (IM : ∀ W, Calls Tryd.prog 18 #[.agg #[.int .i64 5, .bool true]] W fun e w' => e = .returned (.bool true) ∧ Below W.heap.size W w') : Calls Tryd.prog 5 #[.agg #[.int .i64 5, .bool true]] w fun e w' => e = .returned (.tuple #[.string ⟨#[87, 49, 32, 109, 105, 114, 114, 111, 114]⟩, .int .i64 0]) ∧ Below w.heap.size w w' := by
  have IH : Hid (∀ W, Calls Tryd.prog 18 #[.agg #[.int .i64 5, .bool true]] W fun e w' => e = .returned (.bool true) ∧ Below W.heap.size W w') := IM
  have NH : Hid (∀ W, Calls Tryd.prog 19 #[] W fun e w' => ∃ g : Nat, e = .returned (.slice (some ⟨g, 0, none⟩) 13 13) ∧ w'.heap[g]? = some (.cells nmA 9 (0, 0)) ∧ Below W.heap.size W w') := fun W => rnames_any W
  have B0 : Hid (Below w.heap.size w (w.alloc (.cells #[.int .i64 5, .bool true] 23))) := below_alloc _ _
  clear IM
  go_enter Tryd.func5, Tryd.ntmps5
  go_wp2_with fail
  refine (IH.out _).mono ?_
  rintro e w1 ⟨rfl, hb⟩
  have B1 : Hid (Below w.heap.size w w1) := B0.out.trans (hb.mono B0.out.size)
  have M1 : Hid (w1.heap[w.heap.size]? = some (.cells #[.int .i64 5, .bool true] 23 (0, 0))) := (hb.block _ (by simp)).trans (heap_alloc_at _ _ _ rfl)
  have CC : Hid (∀ z, Below w1.heap.size w1 z → z.cell? ⟨w.heap.size, 0, none⟩ = some (.int .i64 5) ∧ z.cell? ⟨w.heap.size, 1, none⟩ = some (.bool true)) := fun z hz => by
    have q := (hz.block _ (Array.getElem?_eq_some_iff.1 M1.out).1).trans M1.out
    exact ⟨(cell_of q 0 _ rfl).1, (cell_of q 1 _ rfl).1⟩
  obtain ⟨m0, m1⟩ := CC.out w1 (Below.refl _ _)
  have ml : w.heap.size < w1.heap.size := (Array.getElem?_eq_some_iff.1 M1.out).1
  have D1 : Hid (Below w1.heap.size w1 w1.drew) := (Below.refl _ _).drew
  clear hb
  go_wp2_with fail
  go_region_with (first | (go_at_call 19; refine (NH.out _).mono ?_; rintro e w2 ⟨g2, rfl, hg, hb⟩; have B2 : Hid (Below w1.heap.size w1 w2) := D1.out.trans (hb.mono D1.out.size); obtain ⟨x0, x1⟩ := CC.out _ B2.out; have ml2 : w.heap.size < w2.heap.size := Nat.lt_of_lt_of_le ml B2.out.size; have sc : w2.cell? ⟨g2, 5, none⟩ = some (.string ⟨#[87, 49]⟩) := (cell_of hg 5 _ rfl).1; have lg2 : g2 < w2.heap.size := (Array.getElem?_eq_some_iff.1 hg).1; clear hb hg))
  all_goals go_wp2_with fail
  all_goals go_ret2
  all_goals exact ⟨rfl, B1.out.trans (B2.out.mono B1.out.size)⟩
set_option maxRecDepth 100000 in
theorem rnm6f (w : World) (IM : ∀ W, Calls Tryd.prog 18 #[.agg #[.int .i64 6, .bool false]] W fun e w' => e = .returned (.bool true) ∧ Below W.heap.size W w') : Calls Tryd.prog 5 #[.agg #[.int .i64 6, .bool false]] w fun e w' => e = .returned (.tuple #[.string ⟨#[87, 50]⟩, .int .i64 0]) ∧ Below w.heap.size w w' := by
  have IH : Hid (∀ W, Calls Tryd.prog 18 #[.agg #[.int .i64 6, .bool false]] W fun e w' => e = .returned (.bool true) ∧ Below W.heap.size W w') := IM
  have NH : Hid (∀ W, Calls Tryd.prog 19 #[] W fun e w' => ∃ g : Nat, e = .returned (.slice (some ⟨g, 0, none⟩) 13 13) ∧ w'.heap[g]? = some (.cells nmA 9 (0, 0)) ∧ Below W.heap.size W w') := fun W => rnames_any W
  have B0 : Hid (Below w.heap.size w (w.alloc (.cells #[.int .i64 6, .bool false] 23))) := below_alloc _ _
  clear IM
  go_enter Tryd.func5, Tryd.ntmps5
  go_wp2_with fail
  refine (IH.out _).mono ?_
  rintro e w1 ⟨rfl, hb⟩
  have B1 : Hid (Below w.heap.size w w1) := B0.out.trans (hb.mono B0.out.size)
  have M1 : Hid (w1.heap[w.heap.size]? = some (.cells #[.int .i64 6, .bool false] 23 (0, 0))) := (hb.block _ (by simp)).trans (heap_alloc_at _ _ _ rfl)
  have CC : Hid (∀ z, Below w1.heap.size w1 z → z.cell? ⟨w.heap.size, 0, none⟩ = some (.int .i64 6) ∧ z.cell? ⟨w.heap.size, 1, none⟩ = some (.bool false)) := fun z hz => by
    have q := (hz.block _ (Array.getElem?_eq_some_iff.1 M1.out).1).trans M1.out
    exact ⟨(cell_of q 0 _ rfl).1, (cell_of q 1 _ rfl).1⟩
  obtain ⟨m0, m1⟩ := CC.out w1 (Below.refl _ _)
  have ml : w.heap.size < w1.heap.size := (Array.getElem?_eq_some_iff.1 M1.out).1
  have D1 : Hid (Below w1.heap.size w1 w1.drew) := (Below.refl _ _).drew
  clear hb
  go_wp2_with fail
  go_region_with (first | (go_at_call 19; refine (NH.out _).mono ?_; rintro e w2 ⟨g2, rfl, hg, hb⟩; have B2 : Hid (Below w1.heap.size w1 w2) := D1.out.trans (hb.mono D1.out.size); obtain ⟨x0, x1⟩ := CC.out _ B2.out; have ml2 : w.heap.size < w2.heap.size := Nat.lt_of_lt_of_le ml B2.out.size; have sc : w2.cell? ⟨g2, 6, none⟩ = some (.string ⟨#[87, 50]⟩) := (cell_of hg 6 _ rfl).1; have lg2 : g2 < w2.heap.size := (Array.getElem?_eq_some_iff.1 hg).1; clear hb hg))
  all_goals go_wp2_with fail
  all_goals go_ret2
  all_goals exact ⟨rfl, B1.out.trans (B2.out.mono B1.out.size)⟩
set_option maxRecDepth 100000 in
theorem rnm6t (w : World) (IM : ∀ W, Calls Tryd.prog 18 #[.agg #[.int .i64 6, .bool true]] W fun e w' => e = .returned (.bool true) ∧ Below W.heap.size W w') : Calls Tryd.prog 5 #[.agg #[.int .i64 6, .bool true]] w fun e w' => e = .returned (.tuple #[.string ⟨#[87, 50, 32, 109, 105, 114, 114, 111, 114]⟩, .int .i64 0]) ∧ Below w.heap.size w w' := by
  have IH : Hid (∀ W, Calls Tryd.prog 18 #[.agg #[.int .i64 6, .bool true]] W fun e w' => e = .returned (.bool true) ∧ Below W.heap.size W w') := IM
  have NH : Hid (∀ W, Calls Tryd.prog 19 #[] W fun e w' => ∃ g : Nat, e = .returned (.slice (some ⟨g, 0, none⟩) 13 13) ∧ w'.heap[g]? = some (.cells nmA 9 (0, 0)) ∧ Below W.heap.size W w') := fun W => rnames_any W
  have B0 : Hid (Below w.heap.size w (w.alloc (.cells #[.int .i64 6, .bool true] 23))) := below_alloc _ _
  clear IM
  go_enter Tryd.func5, Tryd.ntmps5
  go_wp2_with fail
  refine (IH.out _).mono ?_
  rintro e w1 ⟨rfl, hb⟩
  have B1 : Hid (Below w.heap.size w w1) := B0.out.trans (hb.mono B0.out.size)
  have M1 : Hid (w1.heap[w.heap.size]? = some (.cells #[.int .i64 6, .bool true] 23 (0, 0))) := (hb.block _ (by simp)).trans (heap_alloc_at _ _ _ rfl)
  have CC : Hid (∀ z, Below w1.heap.size w1 z → z.cell? ⟨w.heap.size, 0, none⟩ = some (.int .i64 6) ∧ z.cell? ⟨w.heap.size, 1, none⟩ = some (.bool true)) := fun z hz => by
    have q := (hz.block _ (Array.getElem?_eq_some_iff.1 M1.out).1).trans M1.out
    exact ⟨(cell_of q 0 _ rfl).1, (cell_of q 1 _ rfl).1⟩
  obtain ⟨m0, m1⟩ := CC.out w1 (Below.refl _ _)
  have ml : w.heap.size < w1.heap.size := (Array.getElem?_eq_some_iff.1 M1.out).1
  have D1 : Hid (Below w1.heap.size w1 w1.drew) := (Below.refl _ _).drew
  clear hb
  go_wp2_with fail
  go_region_with (first | (go_at_call 19; refine (NH.out _).mono ?_; rintro e w2 ⟨g2, rfl, hg, hb⟩; have B2 : Hid (Below w1.heap.size w1 w2) := D1.out.trans (hb.mono D1.out.size); obtain ⟨x0, x1⟩ := CC.out _ B2.out; have ml2 : w.heap.size < w2.heap.size := Nat.lt_of_lt_of_le ml B2.out.size; have sc : w2.cell? ⟨g2, 6, none⟩ = some (.string ⟨#[87, 50]⟩) := (cell_of hg 6 _ rfl).1; have lg2 : g2 < w2.heap.size := (Array.getElem?_eq_some_iff.1 hg).1; clear hb hg))
  all_goals go_wp2_with fail
  all_goals go_ret2
  all_goals exact ⟨rfl, B1.out.trans (B2.out.mono B1.out.size)⟩
set_option maxRecDepth 100000 in
theorem rnm7f (w : World) (IM : ∀ W, Calls Tryd.prog 18 #[.agg #[.int .i64 7, .bool false]] W fun e w' => e = .returned (.bool true) ∧ Below W.heap.size W w') : Calls Tryd.prog 5 #[.agg #[.int .i64 7, .bool false]] w fun e w' => e = .returned (.tuple #[.string ⟨#[87, 51]⟩, .int .i64 0]) ∧ Below w.heap.size w w' := by
  have IH : Hid (∀ W, Calls Tryd.prog 18 #[.agg #[.int .i64 7, .bool false]] W fun e w' => e = .returned (.bool true) ∧ Below W.heap.size W w') := IM
  have NH : Hid (∀ W, Calls Tryd.prog 19 #[] W fun e w' => ∃ g : Nat, e = .returned (.slice (some ⟨g, 0, none⟩) 13 13) ∧ w'.heap[g]? = some (.cells nmA 9 (0, 0)) ∧ Below W.heap.size W w') := fun W => rnames_any W
  have B0 : Hid (Below w.heap.size w (w.alloc (.cells #[.int .i64 7, .bool false] 23))) := below_alloc _ _
  clear IM
  go_enter Tryd.func5, Tryd.ntmps5
  go_wp2_with fail
  refine (IH.out _).mono ?_
  rintro e w1 ⟨rfl, hb⟩
  have B1 : Hid (Below w.heap.size w w1) := B0.out.trans (hb.mono B0.out.size)
  have M1 : Hid (w1.heap[w.heap.size]? = some (.cells #[.int .i64 7, .bool false] 23 (0, 0))) := (hb.block _ (by simp)).trans (heap_alloc_at _ _ _ rfl)
  have CC : Hid (∀ z, Below w1.heap.size w1 z → z.cell? ⟨w.heap.size, 0, none⟩ = some (.int .i64 7) ∧ z.cell? ⟨w.heap.size, 1, none⟩ = some (.bool false)) := fun z hz => by
    have q := (hz.block _ (Array.getElem?_eq_some_iff.1 M1.out).1).trans M1.out
    exact ⟨(cell_of q 0 _ rfl).1, (cell_of q 1 _ rfl).1⟩
  obtain ⟨m0, m1⟩ := CC.out w1 (Below.refl _ _)
  have ml : w.heap.size < w1.heap.size := (Array.getElem?_eq_some_iff.1 M1.out).1
  have D1 : Hid (Below w1.heap.size w1 w1.drew) := (Below.refl _ _).drew
  clear hb
  go_wp2_with fail
  go_region_with (first | (go_at_call 19; refine (NH.out _).mono ?_; rintro e w2 ⟨g2, rfl, hg, hb⟩; have B2 : Hid (Below w1.heap.size w1 w2) := D1.out.trans (hb.mono D1.out.size); obtain ⟨x0, x1⟩ := CC.out _ B2.out; have ml2 : w.heap.size < w2.heap.size := Nat.lt_of_lt_of_le ml B2.out.size; have sc : w2.cell? ⟨g2, 7, none⟩ = some (.string ⟨#[87, 51]⟩) := (cell_of hg 7 _ rfl).1; have lg2 : g2 < w2.heap.size := (Array.getElem?_eq_some_iff.1 hg).1; clear hb hg))
  all_goals go_wp2_with fail
  all_goals go_ret2
  all_goals exact ⟨rfl, B1.out.trans (B2.out.mono B1.out.size)⟩
set_option maxRecDepth 100000 in
theorem rnm7t (w : World) (IM : ∀ W, Calls Tryd.prog 18 #[.agg #[.int .i64 7, .bool true]] W fun e w' => e = .returned (.bool true) ∧ Below W.heap.size W w') : Calls Tryd.prog 5 #[.agg #[.int .i64 7, .bool true]] w fun e w' => e = .returned (.tuple #[.string ⟨#[87, 51, 32, 109, 105, 114, 114, 111, 114]⟩, .int .i64 0]) ∧ Below w.heap.size w w' := by
  have IH : Hid (∀ W, Calls Tryd.prog 18 #[.agg #[.int .i64 7, .bool true]] W fun e w' => e = .returned (.bool true) ∧ Below W.heap.size W w') := IM
  have NH : Hid (∀ W, Calls Tryd.prog 19 #[] W fun e w' => ∃ g : Nat, e = .returned (.slice (some ⟨g, 0, none⟩) 13 13) ∧ w'.heap[g]? = some (.cells nmA 9 (0, 0)) ∧ Below W.heap.size W w') := fun W => rnames_any W
  have B0 : Hid (Below w.heap.size w (w.alloc (.cells #[.int .i64 7, .bool true] 23))) := below_alloc _ _
  clear IM
  go_enter Tryd.func5, Tryd.ntmps5
  go_wp2_with fail
  refine (IH.out _).mono ?_
  rintro e w1 ⟨rfl, hb⟩
  have B1 : Hid (Below w.heap.size w w1) := B0.out.trans (hb.mono B0.out.size)
  have M1 : Hid (w1.heap[w.heap.size]? = some (.cells #[.int .i64 7, .bool true] 23 (0, 0))) := (hb.block _ (by simp)).trans (heap_alloc_at _ _ _ rfl)
  have CC : Hid (∀ z, Below w1.heap.size w1 z → z.cell? ⟨w.heap.size, 0, none⟩ = some (.int .i64 7) ∧ z.cell? ⟨w.heap.size, 1, none⟩ = some (.bool true)) := fun z hz => by
    have q := (hz.block _ (Array.getElem?_eq_some_iff.1 M1.out).1).trans M1.out
    exact ⟨(cell_of q 0 _ rfl).1, (cell_of q 1 _ rfl).1⟩
  obtain ⟨m0, m1⟩ := CC.out w1 (Below.refl _ _)
  have ml : w.heap.size < w1.heap.size := (Array.getElem?_eq_some_iff.1 M1.out).1
  have D1 : Hid (Below w1.heap.size w1 w1.drew) := (Below.refl _ _).drew
  clear hb
  go_wp2_with fail
  go_region_with (first | (go_at_call 19; refine (NH.out _).mono ?_; rintro e w2 ⟨g2, rfl, hg, hb⟩; have B2 : Hid (Below w1.heap.size w1 w2) := D1.out.trans (hb.mono D1.out.size); obtain ⟨x0, x1⟩ := CC.out _ B2.out; have ml2 : w.heap.size < w2.heap.size := Nat.lt_of_lt_of_le ml B2.out.size; have sc : w2.cell? ⟨g2, 7, none⟩ = some (.string ⟨#[87, 51]⟩) := (cell_of hg 7 _ rfl).1; have lg2 : g2 < w2.heap.size := (Array.getElem?_eq_some_iff.1 hg).1; clear hb hg))
  all_goals go_wp2_with fail
  all_goals go_ret2
  all_goals exact ⟨rfl, B1.out.trans (B2.out.mono B1.out.size)⟩
set_option maxRecDepth 100000 in
theorem rnm8f (w : World) (IM : ∀ W, Calls Tryd.prog 18 #[.agg #[.int .i64 8, .bool false]] W fun e w' => e = .returned (.bool true) ∧ Below W.heap.size W w') : Calls Tryd.prog 5 #[.agg #[.int .i64 8, .bool false]] w fun e w' => e = .returned (.tuple #[.string ⟨#[87, 52]⟩, .int .i64 0]) ∧ Below w.heap.size w w' := by
  have IH : Hid (∀ W, Calls Tryd.prog 18 #[.agg #[.int .i64 8, .bool false]] W fun e w' => e = .returned (.bool true) ∧ Below W.heap.size W w') := IM
  have NH : Hid (∀ W, Calls Tryd.prog 19 #[] W fun e w' => ∃ g : Nat, e = .returned (.slice (some ⟨g, 0, none⟩) 13 13) ∧ w'.heap[g]? = some (.cells nmA 9 (0, 0)) ∧ Below W.heap.size W w') := fun W => rnames_any W
  have B0 : Hid (Below w.heap.size w (w.alloc (.cells #[.int .i64 8, .bool false] 23))) := below_alloc _ _
  clear IM
  go_enter Tryd.func5, Tryd.ntmps5
  go_wp2_with fail
  refine (IH.out _).mono ?_
  rintro e w1 ⟨rfl, hb⟩
  have B1 : Hid (Below w.heap.size w w1) := B0.out.trans (hb.mono B0.out.size)
  have M1 : Hid (w1.heap[w.heap.size]? = some (.cells #[.int .i64 8, .bool false] 23 (0, 0))) := (hb.block _ (by simp)).trans (heap_alloc_at _ _ _ rfl)
  have CC : Hid (∀ z, Below w1.heap.size w1 z → z.cell? ⟨w.heap.size, 0, none⟩ = some (.int .i64 8) ∧ z.cell? ⟨w.heap.size, 1, none⟩ = some (.bool false)) := fun z hz => by
    have q := (hz.block _ (Array.getElem?_eq_some_iff.1 M1.out).1).trans M1.out
    exact ⟨(cell_of q 0 _ rfl).1, (cell_of q 1 _ rfl).1⟩
  obtain ⟨m0, m1⟩ := CC.out w1 (Below.refl _ _)
  have ml : w.heap.size < w1.heap.size := (Array.getElem?_eq_some_iff.1 M1.out).1
  have D1 : Hid (Below w1.heap.size w1 w1.drew) := (Below.refl _ _).drew
  clear hb
  go_wp2_with fail
  go_region_with (first | (go_at_call 19; refine (NH.out _).mono ?_; rintro e w2 ⟨g2, rfl, hg, hb⟩; have B2 : Hid (Below w1.heap.size w1 w2) := D1.out.trans (hb.mono D1.out.size); obtain ⟨x0, x1⟩ := CC.out _ B2.out; have ml2 : w.heap.size < w2.heap.size := Nat.lt_of_lt_of_le ml B2.out.size; have sc : w2.cell? ⟨g2, 8, none⟩ = some (.string ⟨#[87, 52]⟩) := (cell_of hg 8 _ rfl).1; have lg2 : g2 < w2.heap.size := (Array.getElem?_eq_some_iff.1 hg).1; clear hb hg))
  all_goals go_wp2_with fail
  all_goals go_ret2
  all_goals exact ⟨rfl, B1.out.trans (B2.out.mono B1.out.size)⟩
set_option maxRecDepth 100000 in
theorem rnm8t (w : World) (IM : ∀ W, Calls Tryd.prog 18 #[.agg #[.int .i64 8, .bool true]] W fun e w' => e = .returned (.bool true) ∧ Below W.heap.size W w') : Calls Tryd.prog 5 #[.agg #[.int .i64 8, .bool true]] w fun e w' => e = .returned (.tuple #[.string ⟨#[87, 52, 32, 109, 105, 114, 114, 111, 114]⟩, .int .i64 0]) ∧ Below w.heap.size w w' := by
  have IH : Hid (∀ W, Calls Tryd.prog 18 #[.agg #[.int .i64 8, .bool true]] W fun e w' => e = .returned (.bool true) ∧ Below W.heap.size W w') := IM
  have NH : Hid (∀ W, Calls Tryd.prog 19 #[] W fun e w' => ∃ g : Nat, e = .returned (.slice (some ⟨g, 0, none⟩) 13 13) ∧ w'.heap[g]? = some (.cells nmA 9 (0, 0)) ∧ Below W.heap.size W w') := fun W => rnames_any W
  have B0 : Hid (Below w.heap.size w (w.alloc (.cells #[.int .i64 8, .bool true] 23))) := below_alloc _ _
  clear IM
  go_enter Tryd.func5, Tryd.ntmps5
  go_wp2_with fail
  refine (IH.out _).mono ?_
  rintro e w1 ⟨rfl, hb⟩
  have B1 : Hid (Below w.heap.size w w1) := B0.out.trans (hb.mono B0.out.size)
  have M1 : Hid (w1.heap[w.heap.size]? = some (.cells #[.int .i64 8, .bool true] 23 (0, 0))) := (hb.block _ (by simp)).trans (heap_alloc_at _ _ _ rfl)
  have CC : Hid (∀ z, Below w1.heap.size w1 z → z.cell? ⟨w.heap.size, 0, none⟩ = some (.int .i64 8) ∧ z.cell? ⟨w.heap.size, 1, none⟩ = some (.bool true)) := fun z hz => by
    have q := (hz.block _ (Array.getElem?_eq_some_iff.1 M1.out).1).trans M1.out
    exact ⟨(cell_of q 0 _ rfl).1, (cell_of q 1 _ rfl).1⟩
  obtain ⟨m0, m1⟩ := CC.out w1 (Below.refl _ _)
  have ml : w.heap.size < w1.heap.size := (Array.getElem?_eq_some_iff.1 M1.out).1
  have D1 : Hid (Below w1.heap.size w1 w1.drew) := (Below.refl _ _).drew
  clear hb
  go_wp2_with fail
  go_region_with (first | (go_at_call 19; refine (NH.out _).mono ?_; rintro e w2 ⟨g2, rfl, hg, hb⟩; have B2 : Hid (Below w1.heap.size w1 w2) := D1.out.trans (hb.mono D1.out.size); obtain ⟨x0, x1⟩ := CC.out _ B2.out; have ml2 : w.heap.size < w2.heap.size := Nat.lt_of_lt_of_le ml B2.out.size; have sc : w2.cell? ⟨g2, 8, none⟩ = some (.string ⟨#[87, 52]⟩) := (cell_of hg 8 _ rfl).1; have lg2 : g2 < w2.heap.size := (Array.getElem?_eq_some_iff.1 hg).1; clear hb hg))
  all_goals go_wp2_with fail
  all_goals go_ret2
  all_goals exact ⟨rfl, B1.out.trans (B2.out.mono B1.out.size)⟩
set_option maxRecDepth 100000 in
theorem rnm9f (w : World) (IM : ∀ W, Calls Tryd.prog 18 #[.agg #[.int .i64 9, .bool false]] W fun e w' => e = .returned (.bool true) ∧ Below W.heap.size W w') : Calls Tryd.prog 5 #[.agg #[.int .i64 9, .bool false]] w fun e w' => e = .returned (.tuple #[.string ⟨#[87, 53]⟩, .int .i64 0]) ∧ Below w.heap.size w w' := by
  have IH : Hid (∀ W, Calls Tryd.prog 18 #[.agg #[.int .i64 9, .bool false]] W fun e w' => e = .returned (.bool true) ∧ Below W.heap.size W w') := IM
  have NH : Hid (∀ W, Calls Tryd.prog 19 #[] W fun e w' => ∃ g : Nat, e = .returned (.slice (some ⟨g, 0, none⟩) 13 13) ∧ w'.heap[g]? = some (.cells nmA 9 (0, 0)) ∧ Below W.heap.size W w') := fun W => rnames_any W
  have B0 : Hid (Below w.heap.size w (w.alloc (.cells #[.int .i64 9, .bool false] 23))) := below_alloc _ _
  clear IM
  go_enter Tryd.func5, Tryd.ntmps5
  go_wp2_with fail
  refine (IH.out _).mono ?_
  rintro e w1 ⟨rfl, hb⟩
  have B1 : Hid (Below w.heap.size w w1) := B0.out.trans (hb.mono B0.out.size)
  have M1 : Hid (w1.heap[w.heap.size]? = some (.cells #[.int .i64 9, .bool false] 23 (0, 0))) := (hb.block _ (by simp)).trans (heap_alloc_at _ _ _ rfl)
  have CC : Hid (∀ z, Below w1.heap.size w1 z → z.cell? ⟨w.heap.size, 0, none⟩ = some (.int .i64 9) ∧ z.cell? ⟨w.heap.size, 1, none⟩ = some (.bool false)) := fun z hz => by
    have q := (hz.block _ (Array.getElem?_eq_some_iff.1 M1.out).1).trans M1.out
    exact ⟨(cell_of q 0 _ rfl).1, (cell_of q 1 _ rfl).1⟩
  obtain ⟨m0, m1⟩ := CC.out w1 (Below.refl _ _)
  have ml : w.heap.size < w1.heap.size := (Array.getElem?_eq_some_iff.1 M1.out).1
  have D1 : Hid (Below w1.heap.size w1 w1.drew) := (Below.refl _ _).drew
  clear hb
  go_wp2_with fail
  go_region_with (first | (go_at_call 19; refine (NH.out _).mono ?_; rintro e w2 ⟨g2, rfl, hg, hb⟩; have B2 : Hid (Below w1.heap.size w1 w2) := D1.out.trans (hb.mono D1.out.size); obtain ⟨x0, x1⟩ := CC.out _ B2.out; have ml2 : w.heap.size < w2.heap.size := Nat.lt_of_lt_of_le ml B2.out.size; have sc : w2.cell? ⟨g2, 9, none⟩ = some (.string ⟨#[87, 53]⟩) := (cell_of hg 9 _ rfl).1; have lg2 : g2 < w2.heap.size := (Array.getElem?_eq_some_iff.1 hg).1; clear hb hg))
  all_goals go_wp2_with fail
  all_goals go_ret2
  all_goals exact ⟨rfl, B1.out.trans (B2.out.mono B1.out.size)⟩
set_option maxRecDepth 100000 in
theorem rnm9t (w : World) (IM : ∀ W, Calls Tryd.prog 18 #[.agg #[.int .i64 9, .bool true]] W fun e w' => e = .returned (.bool true) ∧ Below W.heap.size W w') : Calls Tryd.prog 5 #[.agg #[.int .i64 9, .bool true]] w fun e w' => e = .returned (.tuple #[.string ⟨#[87, 53, 32, 109, 105, 114, 114, 111, 114]⟩, .int .i64 0]) ∧ Below w.heap.size w w' := by
  have IH : Hid (∀ W, Calls Tryd.prog 18 #[.agg #[.int .i64 9, .bool true]] W fun e w' => e = .returned (.bool true) ∧ Below W.heap.size W w') := IM
  have NH : Hid (∀ W, Calls Tryd.prog 19 #[] W fun e w' => ∃ g : Nat, e = .returned (.slice (some ⟨g, 0, none⟩) 13 13) ∧ w'.heap[g]? = some (.cells nmA 9 (0, 0)) ∧ Below W.heap.size W w') := fun W => rnames_any W
  have B0 : Hid (Below w.heap.size w (w.alloc (.cells #[.int .i64 9, .bool true] 23))) := below_alloc _ _
  clear IM
  go_enter Tryd.func5, Tryd.ntmps5
  go_wp2_with fail
  refine (IH.out _).mono ?_
  rintro e w1 ⟨rfl, hb⟩
  have B1 : Hid (Below w.heap.size w w1) := B0.out.trans (hb.mono B0.out.size)
  have M1 : Hid (w1.heap[w.heap.size]? = some (.cells #[.int .i64 9, .bool true] 23 (0, 0))) := (hb.block _ (by simp)).trans (heap_alloc_at _ _ _ rfl)
  have CC : Hid (∀ z, Below w1.heap.size w1 z → z.cell? ⟨w.heap.size, 0, none⟩ = some (.int .i64 9) ∧ z.cell? ⟨w.heap.size, 1, none⟩ = some (.bool true)) := fun z hz => by
    have q := (hz.block _ (Array.getElem?_eq_some_iff.1 M1.out).1).trans M1.out
    exact ⟨(cell_of q 0 _ rfl).1, (cell_of q 1 _ rfl).1⟩
  obtain ⟨m0, m1⟩ := CC.out w1 (Below.refl _ _)
  have ml : w.heap.size < w1.heap.size := (Array.getElem?_eq_some_iff.1 M1.out).1
  have D1 : Hid (Below w1.heap.size w1 w1.drew) := (Below.refl _ _).drew
  clear hb
  go_wp2_with fail
  go_region_with (first | (go_at_call 19; refine (NH.out _).mono ?_; rintro e w2 ⟨g2, rfl, hg, hb⟩; have B2 : Hid (Below w1.heap.size w1 w2) := D1.out.trans (hb.mono D1.out.size); obtain ⟨x0, x1⟩ := CC.out _ B2.out; have ml2 : w.heap.size < w2.heap.size := Nat.lt_of_lt_of_le ml B2.out.size; have sc : w2.cell? ⟨g2, 9, none⟩ = some (.string ⟨#[87, 53]⟩) := (cell_of hg 9 _ rfl).1; have lg2 : g2 < w2.heap.size := (Array.getElem?_eq_some_iff.1 hg).1; clear hb hg))
  all_goals go_wp2_with fail
  all_goals go_ret2
  all_goals exact ⟨rfl, B1.out.trans (B2.out.mono B1.out.size)⟩
set_option maxRecDepth 100000 in
theorem rnm10f (w : World) (IM : ∀ W, Calls Tryd.prog 18 #[.agg #[.int .i64 10, .bool false]] W fun e w' => e = .returned (.bool true) ∧ Below W.heap.size W w') : Calls Tryd.prog 5 #[.agg #[.int .i64 10, .bool false]] w fun e w' => e = .returned (.tuple #[.string ⟨#[87, 54]⟩, .int .i64 0]) ∧ Below w.heap.size w w' := by
  have IH : Hid (∀ W, Calls Tryd.prog 18 #[.agg #[.int .i64 10, .bool false]] W fun e w' => e = .returned (.bool true) ∧ Below W.heap.size W w') := IM
  have NH : Hid (∀ W, Calls Tryd.prog 19 #[] W fun e w' => ∃ g : Nat, e = .returned (.slice (some ⟨g, 0, none⟩) 13 13) ∧ w'.heap[g]? = some (.cells nmA 9 (0, 0)) ∧ Below W.heap.size W w') := fun W => rnames_any W
  have B0 : Hid (Below w.heap.size w (w.alloc (.cells #[.int .i64 10, .bool false] 23))) := below_alloc _ _
  clear IM
  go_enter Tryd.func5, Tryd.ntmps5
  go_wp2_with fail
  refine (IH.out _).mono ?_
  rintro e w1 ⟨rfl, hb⟩
  have B1 : Hid (Below w.heap.size w w1) := B0.out.trans (hb.mono B0.out.size)
  have M1 : Hid (w1.heap[w.heap.size]? = some (.cells #[.int .i64 10, .bool false] 23 (0, 0))) := (hb.block _ (by simp)).trans (heap_alloc_at _ _ _ rfl)
  have CC : Hid (∀ z, Below w1.heap.size w1 z → z.cell? ⟨w.heap.size, 0, none⟩ = some (.int .i64 10) ∧ z.cell? ⟨w.heap.size, 1, none⟩ = some (.bool false)) := fun z hz => by
    have q := (hz.block _ (Array.getElem?_eq_some_iff.1 M1.out).1).trans M1.out
    exact ⟨(cell_of q 0 _ rfl).1, (cell_of q 1 _ rfl).1⟩
  obtain ⟨m0, m1⟩ := CC.out w1 (Below.refl _ _)
  have ml : w.heap.size < w1.heap.size := (Array.getElem?_eq_some_iff.1 M1.out).1
  have D1 : Hid (Below w1.heap.size w1 w1.drew) := (Below.refl _ _).drew
  clear hb
  go_wp2_with fail
  go_region_with (first | (go_at_call 19; refine (NH.out _).mono ?_; rintro e w2 ⟨g2, rfl, hg, hb⟩; have B2 : Hid (Below w1.heap.size w1 w2) := D1.out.trans (hb.mono D1.out.size); obtain ⟨x0, x1⟩ := CC.out _ B2.out; have ml2 : w.heap.size < w2.heap.size := Nat.lt_of_lt_of_le ml B2.out.size; have sc : w2.cell? ⟨g2, 10, none⟩ = some (.string ⟨#[87, 54]⟩) := (cell_of hg 10 _ rfl).1; have lg2 : g2 < w2.heap.size := (Array.getElem?_eq_some_iff.1 hg).1; clear hb hg))
  all_goals go_wp2_with fail
  all_goals go_ret2
  all_goals exact ⟨rfl, B1.out.trans (B2.out.mono B1.out.size)⟩
set_option maxRecDepth 100000 in
theorem rnm10t (w : World) (IM : ∀ W, Calls Tryd.prog 18 #[.agg #[.int .i64 10, .bool true]] W fun e w' => e = .returned (.bool true) ∧ Below W.heap.size W w') : Calls Tryd.prog 5 #[.agg #[.int .i64 10, .bool true]] w fun e w' => e = .returned (.tuple #[.string ⟨#[87, 54, 32, 109, 105, 114, 114, 111, 114]⟩, .int .i64 0]) ∧ Below w.heap.size w w' := by
  have IH : Hid (∀ W, Calls Tryd.prog 18 #[.agg #[.int .i64 10, .bool true]] W fun e w' => e = .returned (.bool true) ∧ Below W.heap.size W w') := IM
  have NH : Hid (∀ W, Calls Tryd.prog 19 #[] W fun e w' => ∃ g : Nat, e = .returned (.slice (some ⟨g, 0, none⟩) 13 13) ∧ w'.heap[g]? = some (.cells nmA 9 (0, 0)) ∧ Below W.heap.size W w') := fun W => rnames_any W
  have B0 : Hid (Below w.heap.size w (w.alloc (.cells #[.int .i64 10, .bool true] 23))) := below_alloc _ _
  clear IM
  go_enter Tryd.func5, Tryd.ntmps5
  go_wp2_with fail
  refine (IH.out _).mono ?_
  rintro e w1 ⟨rfl, hb⟩
  have B1 : Hid (Below w.heap.size w w1) := B0.out.trans (hb.mono B0.out.size)
  have M1 : Hid (w1.heap[w.heap.size]? = some (.cells #[.int .i64 10, .bool true] 23 (0, 0))) := (hb.block _ (by simp)).trans (heap_alloc_at _ _ _ rfl)
  have CC : Hid (∀ z, Below w1.heap.size w1 z → z.cell? ⟨w.heap.size, 0, none⟩ = some (.int .i64 10) ∧ z.cell? ⟨w.heap.size, 1, none⟩ = some (.bool true)) := fun z hz => by
    have q := (hz.block _ (Array.getElem?_eq_some_iff.1 M1.out).1).trans M1.out
    exact ⟨(cell_of q 0 _ rfl).1, (cell_of q 1 _ rfl).1⟩
  obtain ⟨m0, m1⟩ := CC.out w1 (Below.refl _ _)
  have ml : w.heap.size < w1.heap.size := (Array.getElem?_eq_some_iff.1 M1.out).1
  have D1 : Hid (Below w1.heap.size w1 w1.drew) := (Below.refl _ _).drew
  clear hb
  go_wp2_with fail
  go_region_with (first | (go_at_call 19; refine (NH.out _).mono ?_; rintro e w2 ⟨g2, rfl, hg, hb⟩; have B2 : Hid (Below w1.heap.size w1 w2) := D1.out.trans (hb.mono D1.out.size); obtain ⟨x0, x1⟩ := CC.out _ B2.out; have ml2 : w.heap.size < w2.heap.size := Nat.lt_of_lt_of_le ml B2.out.size; have sc : w2.cell? ⟨g2, 10, none⟩ = some (.string ⟨#[87, 54]⟩) := (cell_of hg 10 _ rfl).1; have lg2 : g2 < w2.heap.size := (Array.getElem?_eq_some_iff.1 hg).1; clear hb hg))
  all_goals go_wp2_with fail
  all_goals go_ret2
  all_goals exact ⟨rfl, B1.out.trans (B2.out.mono B1.out.size)⟩
set_option maxRecDepth 100000 in
theorem rnm11f (w : World) (IM : ∀ W, Calls Tryd.prog 18 #[.agg #[.int .i64 11, .bool false]] W fun e w' => e = .returned (.bool true) ∧ Below W.heap.size W w') : Calls Tryd.prog 5 #[.agg #[.int .i64 11, .bool false]] w fun e w' => e = .returned (.tuple #[.string ⟨#[87, 55]⟩, .int .i64 0]) ∧ Below w.heap.size w w' := by
  have IH : Hid (∀ W, Calls Tryd.prog 18 #[.agg #[.int .i64 11, .bool false]] W fun e w' => e = .returned (.bool true) ∧ Below W.heap.size W w') := IM
  have NH : Hid (∀ W, Calls Tryd.prog 19 #[] W fun e w' => ∃ g : Nat, e = .returned (.slice (some ⟨g, 0, none⟩) 13 13) ∧ w'.heap[g]? = some (.cells nmA 9 (0, 0)) ∧ Below W.heap.size W w') := fun W => rnames_any W
  have B0 : Hid (Below w.heap.size w (w.alloc (.cells #[.int .i64 11, .bool false] 23))) := below_alloc _ _
  clear IM
  go_enter Tryd.func5, Tryd.ntmps5
  go_wp2_with fail
  refine (IH.out _).mono ?_
  rintro e w1 ⟨rfl, hb⟩
  have B1 : Hid (Below w.heap.size w w1) := B0.out.trans (hb.mono B0.out.size)
  have M1 : Hid (w1.heap[w.heap.size]? = some (.cells #[.int .i64 11, .bool false] 23 (0, 0))) := (hb.block _ (by simp)).trans (heap_alloc_at _ _ _ rfl)
  have CC : Hid (∀ z, Below w1.heap.size w1 z → z.cell? ⟨w.heap.size, 0, none⟩ = some (.int .i64 11) ∧ z.cell? ⟨w.heap.size, 1, none⟩ = some (.bool false)) := fun z hz => by
    have q := (hz.block _ (Array.getElem?_eq_some_iff.1 M1.out).1).trans M1.out
    exact ⟨(cell_of q 0 _ rfl).1, (cell_of q 1 _ rfl).1⟩
  obtain ⟨m0, m1⟩ := CC.out w1 (Below.refl _ _)
  have ml : w.heap.size < w1.heap.size := (Array.getElem?_eq_some_iff.1 M1.out).1
  have D1 : Hid (Below w1.heap.size w1 w1.drew) := (Below.refl _ _).drew
  clear hb
  go_wp2_with fail
  go_region_with (first | (go_at_call 19; refine (NH.out _).mono ?_; rintro e w2 ⟨g2, rfl, hg, hb⟩; have B2 : Hid (Below w1.heap.size w1 w2) := D1.out.trans (hb.mono D1.out.size); obtain ⟨x0, x1⟩ := CC.out _ B2.out; have ml2 : w.heap.size < w2.heap.size := Nat.lt_of_lt_of_le ml B2.out.size; have sc : w2.cell? ⟨g2, 11, none⟩ = some (.string ⟨#[87, 55]⟩) := (cell_of hg 11 _ rfl).1; have lg2 : g2 < w2.heap.size := (Array.getElem?_eq_some_iff.1 hg).1; clear hb hg))
  all_goals go_wp2_with fail
  all_goals go_ret2
  all_goals exact ⟨rfl, B1.out.trans (B2.out.mono B1.out.size)⟩
set_option maxRecDepth 100000 in
theorem rnm12f (w : World) (IM : ∀ W, Calls Tryd.prog 18 #[.agg #[.int .i64 12, .bool false]] W fun e w' => e = .returned (.bool true) ∧ Below W.heap.size W w') : Calls Tryd.prog 5 #[.agg #[.int .i64 12, .bool false]] w fun e w' => e = .returned (.tuple #[.string ⟨#[82, 79, 79, 84]⟩, .int .i64 0]) ∧ Below w.heap.size w w' := by
  have IH : Hid (∀ W, Calls Tryd.prog 18 #[.agg #[.int .i64 12, .bool false]] W fun e w' => e = .returned (.bool true) ∧ Below W.heap.size W w') := IM
  have NH : Hid (∀ W, Calls Tryd.prog 19 #[] W fun e w' => ∃ g : Nat, e = .returned (.slice (some ⟨g, 0, none⟩) 13 13) ∧ w'.heap[g]? = some (.cells nmA 9 (0, 0)) ∧ Below W.heap.size W w') := fun W => rnames_any W
  have B0 : Hid (Below w.heap.size w (w.alloc (.cells #[.int .i64 12, .bool false] 23))) := below_alloc _ _
  clear IM
  go_enter Tryd.func5, Tryd.ntmps5
  go_wp2_with fail
  refine (IH.out _).mono ?_
  rintro e w1 ⟨rfl, hb⟩
  have B1 : Hid (Below w.heap.size w w1) := B0.out.trans (hb.mono B0.out.size)
  have M1 : Hid (w1.heap[w.heap.size]? = some (.cells #[.int .i64 12, .bool false] 23 (0, 0))) := (hb.block _ (by simp)).trans (heap_alloc_at _ _ _ rfl)
  have CC : Hid (∀ z, Below w1.heap.size w1 z → z.cell? ⟨w.heap.size, 0, none⟩ = some (.int .i64 12) ∧ z.cell? ⟨w.heap.size, 1, none⟩ = some (.bool false)) := fun z hz => by
    have q := (hz.block _ (Array.getElem?_eq_some_iff.1 M1.out).1).trans M1.out
    exact ⟨(cell_of q 0 _ rfl).1, (cell_of q 1 _ rfl).1⟩
  obtain ⟨m0, m1⟩ := CC.out w1 (Below.refl _ _)
  have ml : w.heap.size < w1.heap.size := (Array.getElem?_eq_some_iff.1 M1.out).1
  have D1 : Hid (Below w1.heap.size w1 w1.drew) := (Below.refl _ _).drew
  clear hb
  go_wp2_with fail
  go_region_with (first | (go_at_call 19; refine (NH.out _).mono ?_; rintro e w2 ⟨g2, rfl, hg, hb⟩; have B2 : Hid (Below w1.heap.size w1 w2) := D1.out.trans (hb.mono D1.out.size); obtain ⟨x0, x1⟩ := CC.out _ B2.out; have ml2 : w.heap.size < w2.heap.size := Nat.lt_of_lt_of_le ml B2.out.size; have sc : w2.cell? ⟨g2, 12, none⟩ = some (.string ⟨#[82, 79, 79, 84]⟩) := (cell_of hg 12 _ rfl).1; have lg2 : g2 < w2.heap.size := (Array.getElem?_eq_some_iff.1 hg).1; clear hb hg))
  all_goals go_wp2_with fail
  all_goals go_ret2
  all_goals exact ⟨rfl, B1.out.trans (B2.out.mono B1.out.size)⟩
end Go.Proofs.YthlhbajaogonnaaDoor
