
/- Layer 28: the document's Tell. -/

import Derived.Test.YtgiblcieplnncaaGreatDoorHRf1

namespace Go.Proofs.YtgiblcieplnncaaGreatDoor

open Go.RowKit

attribute [local go_sem ↓] Go.wp_at_zero Go.wp_at_succ

theorem box10 {w z : World} {v0 v1 v2 v3 v4 v5 v6 v7 v8 v9 : Value} {t : TypeId} (h : Below (w.alloc (.cells #[v0, v1, v2, v3, v4, v5, v6, v7, v8, v9] t)).heap.size (w.alloc (.cells #[v0, v1, v2, v3, v4, v5, v6, v7, v8, v9] t)) z) : z.cell? ⟨w.heap.size, 0, none⟩ = some v0 ∧ z.cell? ⟨w.heap.size, 1, none⟩ = some v1 ∧ z.cell? ⟨w.heap.size, 2, none⟩ = some v2 ∧ z.cell? ⟨w.heap.size, 3, none⟩ = some v3 ∧ z.cell? ⟨w.heap.size, 4, none⟩ = some v4 ∧ z.cell? ⟨w.heap.size, 5, none⟩ = some v5 ∧ z.cell? ⟨w.heap.size, 6, none⟩ = some v6 ∧ z.cell? ⟨w.heap.size, 7, none⟩ = some v7 ∧ z.cell? ⟨w.heap.size, 8, none⟩ = some v8 ∧ z.cell? ⟨w.heap.size, 9, none⟩ = some v9 := by
  have hb := h.block w.heap.size (by simp)
  rw [heap_alloc_at _ _ _ rfl] at hb
  simp [World.cell?, hb]
set_option maxRecDepth 100000 in
set_option maxHeartbeats 4000000 in
theorem rTell_inv (kd : Int) (ok : Bool) (th ky vl hh rk rv : Int) (pb : Option Addr) (pc n : Nat) (w : World) (hth : In64 th) (hrk : In64 rk) (hrv : In64 rv) (hin : OpIn ⟨kd, ky, vl, hh⟩) (L : List UInt8) (hL : opL ⟨kd, ky, vl, hh⟩ = L) (hLl : L.length ≤ 60) (hne : L ≠ []) :
    Calls Tryz.prog 12 #[.agg #[.int .i64 th, .bool false, .int .i64 kd, .int .i64 ky, .int .i64 vl, .int .i64 hh, .bool ok, .int .i64 rk, .int .i64 rv, .slice pb n pc]] w fun e w' => e = .returned (.string ⟨(116 :: Lib.itoa th ++ 32 :: L).toArray⟩) ∧ Below w.heap.size w w' := by
  have HIN : Hid (OpIn ⟨kd, ky, vl, hh⟩) := hin
  have HTH : Hid (In64 th) := hth
  have HRK : Hid (In64 rk) := hrk
  have HRV : Hid (In64 rv) := hrv
  have HOL : Hid (opL ⟨kd, ky, vl, hh⟩ = L) := hL
  have l1 := itoa_le hth
  have l2 := itoa_le hrv
  have l3 := itoa_le hin.1
  have l4 := pairT_len (p := (rk, rv)) hrk hrv
  have B0 : Hid (Below (w.alloc (.cells #[.int .i64 th, .bool false, .int .i64 kd, .int .i64 ky, .int .i64 vl, .int .i64 hh, .bool ok, .int .i64 rk, .int .i64 rv, .slice pb n pc] 39)).heap.size (w.alloc (.cells #[.int .i64 th, .bool false, .int .i64 kd, .int .i64 ky, .int .i64 vl, .int .i64 hh, .bool ok, .int .i64 rk, .int .i64 rv, .slice pb n pc] 39)) (w.alloc (.cells #[.int .i64 th, .bool false, .int .i64 kd, .int .i64 ky, .int .i64 vl, .int .i64 hh, .bool ok, .int .i64 rk, .int .i64 rv, .slice pb n pc] 39))) := Below.refl _ _
  clear hth hrk hrv hin hL
  have hne' : (L == []) = false := by simpa using hne
  clear hne
  go_enter Tryz.func12, Tryz.ntmps12
  go_wp2_with (first | (go_at_call 7; have q := B0; refine (rPrintOp_any ⟨kd, ky, vl, hh⟩ HIN.out _).mono ?_; rintro e z1 ⟨rfl, hb1⟩; rw [HOL.out]; have B1 : Hid (Below (w.alloc (.cells #[.int .i64 th, .bool false, .int .i64 kd, .int .i64 ky, .int .i64 vl, .int .i64 hh, .bool ok, .int .i64 rk, .int .i64 rv, .slice pb n pc] 39)).heap.size (w.alloc (.cells #[.int .i64 th, .bool false, .int .i64 kd, .int .i64 ky, .int .i64 vl, .int .i64 hh, .bool ok, .int .i64 rk, .int .i64 rv, .slice pb n pc] 39)) z1) := B0.out.trans (hb1.mono B0.out.size); obtain ⟨c0, c1, c2, c3, c4, c5, c6, c7, c8, c9⟩ := box10 B1.out; clear hb1; clear q B0) | (go_at_call 18; have q := B1; refine (number_any _ HTH.out _).mono ?_; rintro e z3 ⟨rfl, hb3⟩; have B3 : Hid (Below (w.alloc (.cells #[.int .i64 th, .bool false, .int .i64 kd, .int .i64 ky, .int .i64 vl, .int .i64 hh, .bool ok, .int .i64 rk, .int .i64 rv, .slice pb n pc] 39)).heap.size (w.alloc (.cells #[.int .i64 th, .bool false, .int .i64 kd, .int .i64 ky, .int .i64 vl, .int .i64 hh, .bool ok, .int .i64 rk, .int .i64 rv, .slice pb n pc] 39)) z3) := B1.out.trans (hb3.mono B1.out.size); obtain ⟨c0, c1, c2, c3, c4, c5, c6, c7, c8, c9⟩ := box10 B3.out; clear hb3; clear q B1))
  go_ret
  refine ⟨ret_str ?_, (below_alloc _ _).trans (B3.out.mono (by simp))⟩
  simp only [ba_app]
  simp
set_option maxRecDepth 100000 in
set_option maxHeartbeats 4000000 in
theorem rTell_invb (kd : Int) (ok : Bool) (th ky vl hh rk rv : Int) (pb : Option Addr) (pc n : Nat) (w : World) (hth : In64 th) (hrk : In64 rk) (hrv : In64 rv) (hin : OpIn ⟨kd, ky, vl, hh⟩) (L : List UInt8) (hL : opL ⟨kd, ky, vl, hh⟩ = L) (hLl : L.length ≤ 60) (he : L = []) :
    Calls Tryz.prog 12 #[.agg #[.int .i64 th, .bool false, .int .i64 kd, .int .i64 ky, .int .i64 vl, .int .i64 hh, .bool ok, .int .i64 rk, .int .i64 rv, .slice pb n pc]] w fun e w' => e = .returned (.string ⟨(116 :: Lib.itoa th ++ 32 :: ([107, 105, 110, 100, 32] ++ Lib.itoa kd)).toArray⟩) ∧ Below w.heap.size w w' := by
  have HIN : Hid (OpIn ⟨kd, ky, vl, hh⟩) := hin
  have HTH : Hid (In64 th) := hth
  have HRK : Hid (In64 rk) := hrk
  have HRV : Hid (In64 rv) := hrv
  have HOL : Hid (opL ⟨kd, ky, vl, hh⟩ = L) := hL
  have l1 := itoa_le hth
  have l2 := itoa_le hrv
  have l3 := itoa_le hin.1
  have l4 := pairT_len (p := (rk, rv)) hrk hrv
  have B0 : Hid (Below (w.alloc (.cells #[.int .i64 th, .bool false, .int .i64 kd, .int .i64 ky, .int .i64 vl, .int .i64 hh, .bool ok, .int .i64 rk, .int .i64 rv, .slice pb n pc] 39)).heap.size (w.alloc (.cells #[.int .i64 th, .bool false, .int .i64 kd, .int .i64 ky, .int .i64 vl, .int .i64 hh, .bool ok, .int .i64 rk, .int .i64 rv, .slice pb n pc] 39)) (w.alloc (.cells #[.int .i64 th, .bool false, .int .i64 kd, .int .i64 ky, .int .i64 vl, .int .i64 hh, .bool ok, .int .i64 rk, .int .i64 rv, .slice pb n pc] 39))) := Below.refl _ _
  clear hth hrk hrv hin hL
  subst he
  go_enter Tryz.func12, Tryz.ntmps12
  go_wp2_with (first | (go_at_call 7; have q := B0; refine (rPrintOp_any ⟨kd, ky, vl, hh⟩ HIN.out _).mono ?_; rintro e z1 ⟨rfl, hb1⟩; rw [HOL.out]; have B1 : Hid (Below (w.alloc (.cells #[.int .i64 th, .bool false, .int .i64 kd, .int .i64 ky, .int .i64 vl, .int .i64 hh, .bool ok, .int .i64 rk, .int .i64 rv, .slice pb n pc] 39)).heap.size (w.alloc (.cells #[.int .i64 th, .bool false, .int .i64 kd, .int .i64 ky, .int .i64 vl, .int .i64 hh, .bool ok, .int .i64 rk, .int .i64 rv, .slice pb n pc] 39)) z1) := B0.out.trans (hb1.mono B0.out.size); obtain ⟨c0, c1, c2, c3, c4, c5, c6, c7, c8, c9⟩ := box10 B1.out; clear hb1; clear q B0) | (go_at_call 18; have q := B1; refine (number_any _ HIN.out.1 _).mono ?_; rintro e z2 ⟨rfl, hb2⟩; have B2 : Hid (Below (w.alloc (.cells #[.int .i64 th, .bool false, .int .i64 kd, .int .i64 ky, .int .i64 vl, .int .i64 hh, .bool ok, .int .i64 rk, .int .i64 rv, .slice pb n pc] 39)).heap.size (w.alloc (.cells #[.int .i64 th, .bool false, .int .i64 kd, .int .i64 ky, .int .i64 vl, .int .i64 hh, .bool ok, .int .i64 rk, .int .i64 rv, .slice pb n pc] 39)) z2) := B1.out.trans (hb2.mono B1.out.size); obtain ⟨c0, c1, c2, c3, c4, c5, c6, c7, c8, c9⟩ := box10 B2.out; clear hb2; clear q B1) | (go_at_call 18; have q := B2; refine (number_any _ HTH.out _).mono ?_; rintro e z3 ⟨rfl, hb3⟩; have B3 : Hid (Below (w.alloc (.cells #[.int .i64 th, .bool false, .int .i64 kd, .int .i64 ky, .int .i64 vl, .int .i64 hh, .bool ok, .int .i64 rk, .int .i64 rv, .slice pb n pc] 39)).heap.size (w.alloc (.cells #[.int .i64 th, .bool false, .int .i64 kd, .int .i64 ky, .int .i64 vl, .int .i64 hh, .bool ok, .int .i64 rk, .int .i64 rv, .slice pb n pc] 39)) z3) := B2.out.trans (hb3.mono B2.out.size); obtain ⟨c0, c1, c2, c3, c4, c5, c6, c7, c8, c9⟩ := box10 B3.out; clear hb3; clear q B2))
  go_ret
  refine ⟨ret_str ?_, (below_alloc _ _).trans (B3.out.mono (by simp))⟩
  simp only [ba_app]
  simp
set_option maxRecDepth 100000 in
set_option maxHeartbeats 4000000 in
theorem rTell_1t (th ky vl hh rk rv : Int) (pb : Option Addr) (pc n : Nat) (w : World) (hth : In64 th) (hrk : In64 rk) (hrv : In64 rv) (hin : OpIn ⟨1, ky, vl, hh⟩) (L : List UInt8) (hL : opL ⟨1, ky, vl, hh⟩ = L) (hLl : L.length ≤ 60) (hne : L ≠ []) :
    Calls Tryz.prog 12 #[.agg #[.int .i64 th, .bool true, .int .i64 1, .int .i64 ky, .int .i64 vl, .int .i64 hh, .bool true, .int .i64 rk, .int .i64 rv, .slice pb n pc]] w fun e w' => e = .returned (.string ⟨((116 :: Lib.itoa th ++ 32 :: L) ++ [32, 45, 62, 32, 121, 101, 115] ++ 32 :: Lib.itoa rv).toArray⟩) ∧ Below w.heap.size w w' := by
  have HIN : Hid (OpIn ⟨1, ky, vl, hh⟩) := hin
  have HTH : Hid (In64 th) := hth
  have HRK : Hid (In64 rk) := hrk
  have HRV : Hid (In64 rv) := hrv
  have HOL : Hid (opL ⟨1, ky, vl, hh⟩ = L) := hL
  have l1 := itoa_le hth
  have l2 := itoa_le hrv
  have l3 := itoa_le hin.1
  have l4 := pairT_len (p := (rk, rv)) hrk hrv
  have B0 : Hid (Below (w.alloc (.cells #[.int .i64 th, .bool true, .int .i64 1, .int .i64 ky, .int .i64 vl, .int .i64 hh, .bool true, .int .i64 rk, .int .i64 rv, .slice pb n pc] 39)).heap.size (w.alloc (.cells #[.int .i64 th, .bool true, .int .i64 1, .int .i64 ky, .int .i64 vl, .int .i64 hh, .bool true, .int .i64 rk, .int .i64 rv, .slice pb n pc] 39)) (w.alloc (.cells #[.int .i64 th, .bool true, .int .i64 1, .int .i64 ky, .int .i64 vl, .int .i64 hh, .bool true, .int .i64 rk, .int .i64 rv, .slice pb n pc] 39))) := Below.refl _ _
  clear hth hrk hrv hin hL
  have hne' : (L == []) = false := by simpa using hne
  clear hne
  go_enter Tryz.func12, Tryz.ntmps12
  go_wp2_with (first | (go_at_call 7; have q := B0; refine (rPrintOp_any ⟨1, ky, vl, hh⟩ HIN.out _).mono ?_; rintro e z1 ⟨rfl, hb1⟩; rw [HOL.out]; have B1 : Hid (Below (w.alloc (.cells #[.int .i64 th, .bool true, .int .i64 1, .int .i64 ky, .int .i64 vl, .int .i64 hh, .bool true, .int .i64 rk, .int .i64 rv, .slice pb n pc] 39)).heap.size (w.alloc (.cells #[.int .i64 th, .bool true, .int .i64 1, .int .i64 ky, .int .i64 vl, .int .i64 hh, .bool true, .int .i64 rk, .int .i64 rv, .slice pb n pc] 39)) z1) := B0.out.trans (hb1.mono B0.out.size); obtain ⟨c0, c1, c2, c3, c4, c5, c6, c7, c8, c9⟩ := box10 B1.out; clear hb1; clear q B0) | (go_at_call 18; have q := B1; refine (number_any _ HTH.out _).mono ?_; rintro e z3 ⟨rfl, hb3⟩; have B3 : Hid (Below (w.alloc (.cells #[.int .i64 th, .bool true, .int .i64 1, .int .i64 ky, .int .i64 vl, .int .i64 hh, .bool true, .int .i64 rk, .int .i64 rv, .slice pb n pc] 39)).heap.size (w.alloc (.cells #[.int .i64 th, .bool true, .int .i64 1, .int .i64 ky, .int .i64 vl, .int .i64 hh, .bool true, .int .i64 rk, .int .i64 rv, .slice pb n pc] 39)) z3) := B1.out.trans (hb3.mono B1.out.size); obtain ⟨c0, c1, c2, c3, c4, c5, c6, c7, c8, c9⟩ := box10 B3.out; clear hb3; clear q B1) | (go_at_call 18; have q := B3; refine (number_any _ HRV.out _).mono ?_; rintro e z4 ⟨rfl, hb4⟩; have B4 : Hid (Below (w.alloc (.cells #[.int .i64 th, .bool true, .int .i64 1, .int .i64 ky, .int .i64 vl, .int .i64 hh, .bool true, .int .i64 rk, .int .i64 rv, .slice pb n pc] 39)).heap.size (w.alloc (.cells #[.int .i64 th, .bool true, .int .i64 1, .int .i64 ky, .int .i64 vl, .int .i64 hh, .bool true, .int .i64 rk, .int .i64 rv, .slice pb n pc] 39)) z4) := B3.out.trans (hb4.mono B3.out.size); obtain ⟨c0, c1, c2, c3, c4, c5, c6, c7, c8, c9⟩ := box10 B4.out; clear hb4; clear q B3))
  go_ret
  refine ⟨ret_str ?_, (below_alloc _ _).trans (B4.out.mono (by simp))⟩
  simp only [ba_app]
  simp
set_option maxRecDepth 100000 in
set_option maxHeartbeats 4000000 in
theorem rTell_1f (th ky vl hh rk rv : Int) (pb : Option Addr) (pc n : Nat) (w : World) (hth : In64 th) (hrk : In64 rk) (hrv : In64 rv) (hin : OpIn ⟨1, ky, vl, hh⟩) (L : List UInt8) (hL : opL ⟨1, ky, vl, hh⟩ = L) (hLl : L.length ≤ 60) (hne : L ≠ []) :
    Calls Tryz.prog 12 #[.agg #[.int .i64 th, .bool true, .int .i64 1, .int .i64 ky, .int .i64 vl, .int .i64 hh, .bool false, .int .i64 rk, .int .i64 rv, .slice pb n pc]] w fun e w' => e = .returned (.string ⟨((116 :: Lib.itoa th ++ 32 :: L) ++ [32, 45, 62, 32, 110, 111] ++ 32 :: Lib.itoa rv).toArray⟩) ∧ Below w.heap.size w w' := by
  have HIN : Hid (OpIn ⟨1, ky, vl, hh⟩) := hin
  have HTH : Hid (In64 th) := hth
  have HRK : Hid (In64 rk) := hrk
  have HRV : Hid (In64 rv) := hrv
  have HOL : Hid (opL ⟨1, ky, vl, hh⟩ = L) := hL
  have l1 := itoa_le hth
  have l2 := itoa_le hrv
  have l3 := itoa_le hin.1
  have l4 := pairT_len (p := (rk, rv)) hrk hrv
  have B0 : Hid (Below (w.alloc (.cells #[.int .i64 th, .bool true, .int .i64 1, .int .i64 ky, .int .i64 vl, .int .i64 hh, .bool false, .int .i64 rk, .int .i64 rv, .slice pb n pc] 39)).heap.size (w.alloc (.cells #[.int .i64 th, .bool true, .int .i64 1, .int .i64 ky, .int .i64 vl, .int .i64 hh, .bool false, .int .i64 rk, .int .i64 rv, .slice pb n pc] 39)) (w.alloc (.cells #[.int .i64 th, .bool true, .int .i64 1, .int .i64 ky, .int .i64 vl, .int .i64 hh, .bool false, .int .i64 rk, .int .i64 rv, .slice pb n pc] 39))) := Below.refl _ _
  clear hth hrk hrv hin hL
  have hne' : (L == []) = false := by simpa using hne
  clear hne
  go_enter Tryz.func12, Tryz.ntmps12
  go_wp2_with (first | (go_at_call 7; have q := B0; refine (rPrintOp_any ⟨1, ky, vl, hh⟩ HIN.out _).mono ?_; rintro e z1 ⟨rfl, hb1⟩; rw [HOL.out]; have B1 : Hid (Below (w.alloc (.cells #[.int .i64 th, .bool true, .int .i64 1, .int .i64 ky, .int .i64 vl, .int .i64 hh, .bool false, .int .i64 rk, .int .i64 rv, .slice pb n pc] 39)).heap.size (w.alloc (.cells #[.int .i64 th, .bool true, .int .i64 1, .int .i64 ky, .int .i64 vl, .int .i64 hh, .bool false, .int .i64 rk, .int .i64 rv, .slice pb n pc] 39)) z1) := B0.out.trans (hb1.mono B0.out.size); obtain ⟨c0, c1, c2, c3, c4, c5, c6, c7, c8, c9⟩ := box10 B1.out; clear hb1; clear q B0) | (go_at_call 18; have q := B1; refine (number_any _ HTH.out _).mono ?_; rintro e z3 ⟨rfl, hb3⟩; have B3 : Hid (Below (w.alloc (.cells #[.int .i64 th, .bool true, .int .i64 1, .int .i64 ky, .int .i64 vl, .int .i64 hh, .bool false, .int .i64 rk, .int .i64 rv, .slice pb n pc] 39)).heap.size (w.alloc (.cells #[.int .i64 th, .bool true, .int .i64 1, .int .i64 ky, .int .i64 vl, .int .i64 hh, .bool false, .int .i64 rk, .int .i64 rv, .slice pb n pc] 39)) z3) := B1.out.trans (hb3.mono B1.out.size); obtain ⟨c0, c1, c2, c3, c4, c5, c6, c7, c8, c9⟩ := box10 B3.out; clear hb3; clear q B1) | (go_at_call 18; have q := B3; refine (number_any _ HRV.out _).mono ?_; rintro e z4 ⟨rfl, hb4⟩; have B4 : Hid (Below (w.alloc (.cells #[.int .i64 th, .bool true, .int .i64 1, .int .i64 ky, .int .i64 vl, .int .i64 hh, .bool false, .int .i64 rk, .int .i64 rv, .slice pb n pc] 39)).heap.size (w.alloc (.cells #[.int .i64 th, .bool true, .int .i64 1, .int .i64 ky, .int .i64 vl, .int .i64 hh, .bool false, .int .i64 rk, .int .i64 rv, .slice pb n pc] 39)) z4) := B3.out.trans (hb4.mono B3.out.size); obtain ⟨c0, c1, c2, c3, c4, c5, c6, c7, c8, c9⟩ := box10 B4.out; clear hb4; clear q B3))
  go_ret
  refine ⟨ret_str ?_, (below_alloc _ _).trans (B4.out.mono (by simp))⟩
  simp only [ba_app]
  simp
set_option maxRecDepth 100000 in
set_option maxHeartbeats 4000000 in
theorem rTell_2t (th ky vl hh rk rv : Int) (pb : Option Addr) (pc n : Nat) (w : World) (hth : In64 th) (hrk : In64 rk) (hrv : In64 rv) (hin : OpIn ⟨2, ky, vl, hh⟩) (L : List UInt8) (hL : opL ⟨2, ky, vl, hh⟩ = L) (hLl : L.length ≤ 60) (hne : L ≠ []) :
    Calls Tryz.prog 12 #[.agg #[.int .i64 th, .bool true, .int .i64 2, .int .i64 ky, .int .i64 vl, .int .i64 hh, .bool true, .int .i64 rk, .int .i64 rv, .slice pb n pc]] w fun e w' => e = .returned (.string ⟨((116 :: Lib.itoa th ++ 32 :: L) ++ [32, 45, 62, 32, 121, 101, 115] ++ 32 :: Lib.itoa rv).toArray⟩) ∧ Below w.heap.size w w' := by
  have HIN : Hid (OpIn ⟨2, ky, vl, hh⟩) := hin
  have HTH : Hid (In64 th) := hth
  have HRK : Hid (In64 rk) := hrk
  have HRV : Hid (In64 rv) := hrv
  have HOL : Hid (opL ⟨2, ky, vl, hh⟩ = L) := hL
  have l1 := itoa_le hth
  have l2 := itoa_le hrv
  have l3 := itoa_le hin.1
  have l4 := pairT_len (p := (rk, rv)) hrk hrv
  have B0 : Hid (Below (w.alloc (.cells #[.int .i64 th, .bool true, .int .i64 2, .int .i64 ky, .int .i64 vl, .int .i64 hh, .bool true, .int .i64 rk, .int .i64 rv, .slice pb n pc] 39)).heap.size (w.alloc (.cells #[.int .i64 th, .bool true, .int .i64 2, .int .i64 ky, .int .i64 vl, .int .i64 hh, .bool true, .int .i64 rk, .int .i64 rv, .slice pb n pc] 39)) (w.alloc (.cells #[.int .i64 th, .bool true, .int .i64 2, .int .i64 ky, .int .i64 vl, .int .i64 hh, .bool true, .int .i64 rk, .int .i64 rv, .slice pb n pc] 39))) := Below.refl _ _
  clear hth hrk hrv hin hL
  have hne' : (L == []) = false := by simpa using hne
  clear hne
  go_enter Tryz.func12, Tryz.ntmps12
  go_wp2_with (first | (go_at_call 7; have q := B0; refine (rPrintOp_any ⟨2, ky, vl, hh⟩ HIN.out _).mono ?_; rintro e z1 ⟨rfl, hb1⟩; rw [HOL.out]; have B1 : Hid (Below (w.alloc (.cells #[.int .i64 th, .bool true, .int .i64 2, .int .i64 ky, .int .i64 vl, .int .i64 hh, .bool true, .int .i64 rk, .int .i64 rv, .slice pb n pc] 39)).heap.size (w.alloc (.cells #[.int .i64 th, .bool true, .int .i64 2, .int .i64 ky, .int .i64 vl, .int .i64 hh, .bool true, .int .i64 rk, .int .i64 rv, .slice pb n pc] 39)) z1) := B0.out.trans (hb1.mono B0.out.size); obtain ⟨c0, c1, c2, c3, c4, c5, c6, c7, c8, c9⟩ := box10 B1.out; clear hb1; clear q B0) | (go_at_call 18; have q := B1; refine (number_any _ HTH.out _).mono ?_; rintro e z3 ⟨rfl, hb3⟩; have B3 : Hid (Below (w.alloc (.cells #[.int .i64 th, .bool true, .int .i64 2, .int .i64 ky, .int .i64 vl, .int .i64 hh, .bool true, .int .i64 rk, .int .i64 rv, .slice pb n pc] 39)).heap.size (w.alloc (.cells #[.int .i64 th, .bool true, .int .i64 2, .int .i64 ky, .int .i64 vl, .int .i64 hh, .bool true, .int .i64 rk, .int .i64 rv, .slice pb n pc] 39)) z3) := B1.out.trans (hb3.mono B1.out.size); obtain ⟨c0, c1, c2, c3, c4, c5, c6, c7, c8, c9⟩ := box10 B3.out; clear hb3; clear q B1) | (go_at_call 18; have q := B3; refine (number_any _ HRV.out _).mono ?_; rintro e z4 ⟨rfl, hb4⟩; have B4 : Hid (Below (w.alloc (.cells #[.int .i64 th, .bool true, .int .i64 2, .int .i64 ky, .int .i64 vl, .int .i64 hh, .bool true, .int .i64 rk, .int .i64 rv, .slice pb n pc] 39)).heap.size (w.alloc (.cells #[.int .i64 th, .bool true, .int .i64 2, .int .i64 ky, .int .i64 vl, .int .i64 hh, .bool true, .int .i64 rk, .int .i64 rv, .slice pb n pc] 39)) z4) := B3.out.trans (hb4.mono B3.out.size); obtain ⟨c0, c1, c2, c3, c4, c5, c6, c7, c8, c9⟩ := box10 B4.out; clear hb4; clear q B3))
  go_ret
  refine ⟨ret_str ?_, (below_alloc _ _).trans (B4.out.mono (by simp))⟩
  simp only [ba_app]
  simp
set_option maxRecDepth 100000 in
set_option maxHeartbeats 4000000 in
theorem rTell_2f (th ky vl hh rk rv : Int) (pb : Option Addr) (pc n : Nat) (w : World) (hth : In64 th) (hrk : In64 rk) (hrv : In64 rv) (hin : OpIn ⟨2, ky, vl, hh⟩) (L : List UInt8) (hL : opL ⟨2, ky, vl, hh⟩ = L) (hLl : L.length ≤ 60) (hne : L ≠ []) :
    Calls Tryz.prog 12 #[.agg #[.int .i64 th, .bool true, .int .i64 2, .int .i64 ky, .int .i64 vl, .int .i64 hh, .bool false, .int .i64 rk, .int .i64 rv, .slice pb n pc]] w fun e w' => e = .returned (.string ⟨((116 :: Lib.itoa th ++ 32 :: L) ++ [32, 45, 62, 32, 110, 111] ++ 32 :: Lib.itoa rv).toArray⟩) ∧ Below w.heap.size w w' := by
  have HIN : Hid (OpIn ⟨2, ky, vl, hh⟩) := hin
  have HTH : Hid (In64 th) := hth
  have HRK : Hid (In64 rk) := hrk
  have HRV : Hid (In64 rv) := hrv
  have HOL : Hid (opL ⟨2, ky, vl, hh⟩ = L) := hL
  have l1 := itoa_le hth
  have l2 := itoa_le hrv
  have l3 := itoa_le hin.1
  have l4 := pairT_len (p := (rk, rv)) hrk hrv
  have B0 : Hid (Below (w.alloc (.cells #[.int .i64 th, .bool true, .int .i64 2, .int .i64 ky, .int .i64 vl, .int .i64 hh, .bool false, .int .i64 rk, .int .i64 rv, .slice pb n pc] 39)).heap.size (w.alloc (.cells #[.int .i64 th, .bool true, .int .i64 2, .int .i64 ky, .int .i64 vl, .int .i64 hh, .bool false, .int .i64 rk, .int .i64 rv, .slice pb n pc] 39)) (w.alloc (.cells #[.int .i64 th, .bool true, .int .i64 2, .int .i64 ky, .int .i64 vl, .int .i64 hh, .bool false, .int .i64 rk, .int .i64 rv, .slice pb n pc] 39))) := Below.refl _ _
  clear hth hrk hrv hin hL
  have hne' : (L == []) = false := by simpa using hne
  clear hne
  go_enter Tryz.func12, Tryz.ntmps12
  go_wp2_with (first | (go_at_call 7; have q := B0; refine (rPrintOp_any ⟨2, ky, vl, hh⟩ HIN.out _).mono ?_; rintro e z1 ⟨rfl, hb1⟩; rw [HOL.out]; have B1 : Hid (Below (w.alloc (.cells #[.int .i64 th, .bool true, .int .i64 2, .int .i64 ky, .int .i64 vl, .int .i64 hh, .bool false, .int .i64 rk, .int .i64 rv, .slice pb n pc] 39)).heap.size (w.alloc (.cells #[.int .i64 th, .bool true, .int .i64 2, .int .i64 ky, .int .i64 vl, .int .i64 hh, .bool false, .int .i64 rk, .int .i64 rv, .slice pb n pc] 39)) z1) := B0.out.trans (hb1.mono B0.out.size); obtain ⟨c0, c1, c2, c3, c4, c5, c6, c7, c8, c9⟩ := box10 B1.out; clear hb1; clear q B0) | (go_at_call 18; have q := B1; refine (number_any _ HTH.out _).mono ?_; rintro e z3 ⟨rfl, hb3⟩; have B3 : Hid (Below (w.alloc (.cells #[.int .i64 th, .bool true, .int .i64 2, .int .i64 ky, .int .i64 vl, .int .i64 hh, .bool false, .int .i64 rk, .int .i64 rv, .slice pb n pc] 39)).heap.size (w.alloc (.cells #[.int .i64 th, .bool true, .int .i64 2, .int .i64 ky, .int .i64 vl, .int .i64 hh, .bool false, .int .i64 rk, .int .i64 rv, .slice pb n pc] 39)) z3) := B1.out.trans (hb3.mono B1.out.size); obtain ⟨c0, c1, c2, c3, c4, c5, c6, c7, c8, c9⟩ := box10 B3.out; clear hb3; clear q B1) | (go_at_call 18; have q := B3; refine (number_any _ HRV.out _).mono ?_; rintro e z4 ⟨rfl, hb4⟩; have B4 : Hid (Below (w.alloc (.cells #[.int .i64 th, .bool true, .int .i64 2, .int .i64 ky, .int .i64 vl, .int .i64 hh, .bool false, .int .i64 rk, .int .i64 rv, .slice pb n pc] 39)).heap.size (w.alloc (.cells #[.int .i64 th, .bool true, .int .i64 2, .int .i64 ky, .int .i64 vl, .int .i64 hh, .bool false, .int .i64 rk, .int .i64 rv, .slice pb n pc] 39)) z4) := B3.out.trans (hb4.mono B3.out.size); obtain ⟨c0, c1, c2, c3, c4, c5, c6, c7, c8, c9⟩ := box10 B4.out; clear hb4; clear q B3))
  go_ret
  refine ⟨ret_str ?_, (below_alloc _ _).trans (B4.out.mono (by simp))⟩
  simp only [ba_app]
  simp
set_option maxRecDepth 100000 in
set_option maxHeartbeats 4000000 in
theorem rTell_3t (th ky vl hh rk rv : Int) (pb : Option Addr) (pc n : Nat) (w : World) (hth : In64 th) (hrk : In64 rk) (hrv : In64 rv) (hin : OpIn ⟨3, ky, vl, hh⟩) (L : List UInt8) (hL : opL ⟨3, ky, vl, hh⟩ = L) (hLl : L.length ≤ 60) (hne : L ≠ []) :
    Calls Tryz.prog 12 #[.agg #[.int .i64 th, .bool true, .int .i64 3, .int .i64 ky, .int .i64 vl, .int .i64 hh, .bool true, .int .i64 rk, .int .i64 rv, .slice pb n pc]] w fun e w' => e = .returned (.string ⟨((116 :: Lib.itoa th ++ 32 :: L) ++ [32, 45, 62, 32, 121, 101, 115] ++ 32 :: Lib.itoa rv).toArray⟩) ∧ Below w.heap.size w w' := by
  have HIN : Hid (OpIn ⟨3, ky, vl, hh⟩) := hin
  have HTH : Hid (In64 th) := hth
  have HRK : Hid (In64 rk) := hrk
  have HRV : Hid (In64 rv) := hrv
  have HOL : Hid (opL ⟨3, ky, vl, hh⟩ = L) := hL
  have l1 := itoa_le hth
  have l2 := itoa_le hrv
  have l3 := itoa_le hin.1
  have l4 := pairT_len (p := (rk, rv)) hrk hrv
  have B0 : Hid (Below (w.alloc (.cells #[.int .i64 th, .bool true, .int .i64 3, .int .i64 ky, .int .i64 vl, .int .i64 hh, .bool true, .int .i64 rk, .int .i64 rv, .slice pb n pc] 39)).heap.size (w.alloc (.cells #[.int .i64 th, .bool true, .int .i64 3, .int .i64 ky, .int .i64 vl, .int .i64 hh, .bool true, .int .i64 rk, .int .i64 rv, .slice pb n pc] 39)) (w.alloc (.cells #[.int .i64 th, .bool true, .int .i64 3, .int .i64 ky, .int .i64 vl, .int .i64 hh, .bool true, .int .i64 rk, .int .i64 rv, .slice pb n pc] 39))) := Below.refl _ _
  clear hth hrk hrv hin hL
  have hne' : (L == []) = false := by simpa using hne
  clear hne
  go_enter Tryz.func12, Tryz.ntmps12
  go_wp2_with (first | (go_at_call 7; have q := B0; refine (rPrintOp_any ⟨3, ky, vl, hh⟩ HIN.out _).mono ?_; rintro e z1 ⟨rfl, hb1⟩; rw [HOL.out]; have B1 : Hid (Below (w.alloc (.cells #[.int .i64 th, .bool true, .int .i64 3, .int .i64 ky, .int .i64 vl, .int .i64 hh, .bool true, .int .i64 rk, .int .i64 rv, .slice pb n pc] 39)).heap.size (w.alloc (.cells #[.int .i64 th, .bool true, .int .i64 3, .int .i64 ky, .int .i64 vl, .int .i64 hh, .bool true, .int .i64 rk, .int .i64 rv, .slice pb n pc] 39)) z1) := B0.out.trans (hb1.mono B0.out.size); obtain ⟨c0, c1, c2, c3, c4, c5, c6, c7, c8, c9⟩ := box10 B1.out; clear hb1; clear q B0) | (go_at_call 18; have q := B1; refine (number_any _ HTH.out _).mono ?_; rintro e z3 ⟨rfl, hb3⟩; have B3 : Hid (Below (w.alloc (.cells #[.int .i64 th, .bool true, .int .i64 3, .int .i64 ky, .int .i64 vl, .int .i64 hh, .bool true, .int .i64 rk, .int .i64 rv, .slice pb n pc] 39)).heap.size (w.alloc (.cells #[.int .i64 th, .bool true, .int .i64 3, .int .i64 ky, .int .i64 vl, .int .i64 hh, .bool true, .int .i64 rk, .int .i64 rv, .slice pb n pc] 39)) z3) := B1.out.trans (hb3.mono B1.out.size); obtain ⟨c0, c1, c2, c3, c4, c5, c6, c7, c8, c9⟩ := box10 B3.out; clear hb3; clear q B1) | (go_at_call 18; have q := B3; refine (number_any _ HRV.out _).mono ?_; rintro e z4 ⟨rfl, hb4⟩; have B4 : Hid (Below (w.alloc (.cells #[.int .i64 th, .bool true, .int .i64 3, .int .i64 ky, .int .i64 vl, .int .i64 hh, .bool true, .int .i64 rk, .int .i64 rv, .slice pb n pc] 39)).heap.size (w.alloc (.cells #[.int .i64 th, .bool true, .int .i64 3, .int .i64 ky, .int .i64 vl, .int .i64 hh, .bool true, .int .i64 rk, .int .i64 rv, .slice pb n pc] 39)) z4) := B3.out.trans (hb4.mono B3.out.size); obtain ⟨c0, c1, c2, c3, c4, c5, c6, c7, c8, c9⟩ := box10 B4.out; clear hb4; clear q B3))
  go_ret
  refine ⟨ret_str ?_, (below_alloc _ _).trans (B4.out.mono (by simp))⟩
  simp only [ba_app]
  simp
set_option maxRecDepth 100000 in
set_option maxHeartbeats 4000000 in
theorem rTell_3f (th ky vl hh rk rv : Int) (pb : Option Addr) (pc n : Nat) (w : World) (hth : In64 th) (hrk : In64 rk) (hrv : In64 rv) (hin : OpIn ⟨3, ky, vl, hh⟩) (L : List UInt8) (hL : opL ⟨3, ky, vl, hh⟩ = L) (hLl : L.length ≤ 60) (hne : L ≠ []) :
    Calls Tryz.prog 12 #[.agg #[.int .i64 th, .bool true, .int .i64 3, .int .i64 ky, .int .i64 vl, .int .i64 hh, .bool false, .int .i64 rk, .int .i64 rv, .slice pb n pc]] w fun e w' => e = .returned (.string ⟨((116 :: Lib.itoa th ++ 32 :: L) ++ [32, 45, 62, 32, 110, 111] ++ 32 :: Lib.itoa rv).toArray⟩) ∧ Below w.heap.size w w' := by
  have HIN : Hid (OpIn ⟨3, ky, vl, hh⟩) := hin
  have HTH : Hid (In64 th) := hth
  have HRK : Hid (In64 rk) := hrk
  have HRV : Hid (In64 rv) := hrv
  have HOL : Hid (opL ⟨3, ky, vl, hh⟩ = L) := hL
  have l1 := itoa_le hth
  have l2 := itoa_le hrv
  have l3 := itoa_le hin.1
  have l4 := pairT_len (p := (rk, rv)) hrk hrv
  have B0 : Hid (Below (w.alloc (.cells #[.int .i64 th, .bool true, .int .i64 3, .int .i64 ky, .int .i64 vl, .int .i64 hh, .bool false, .int .i64 rk, .int .i64 rv, .slice pb n pc] 39)).heap.size (w.alloc (.cells #[.int .i64 th, .bool true, .int .i64 3, .int .i64 ky, .int .i64 vl, .int .i64 hh, .bool false, .int .i64 rk, .int .i64 rv, .slice pb n pc] 39)) (w.alloc (.cells #[.int .i64 th, .bool true, .int .i64 3, .int .i64 ky, .int .i64 vl, .int .i64 hh, .bool false, .int .i64 rk, .int .i64 rv, .slice pb n pc] 39))) := Below.refl _ _
  clear hth hrk hrv hin hL
  have hne' : (L == []) = false := by simpa using hne
  clear hne
  go_enter Tryz.func12, Tryz.ntmps12
  go_wp2_with (first | (go_at_call 7; have q := B0; refine (rPrintOp_any ⟨3, ky, vl, hh⟩ HIN.out _).mono ?_; rintro e z1 ⟨rfl, hb1⟩; rw [HOL.out]; have B1 : Hid (Below (w.alloc (.cells #[.int .i64 th, .bool true, .int .i64 3, .int .i64 ky, .int .i64 vl, .int .i64 hh, .bool false, .int .i64 rk, .int .i64 rv, .slice pb n pc] 39)).heap.size (w.alloc (.cells #[.int .i64 th, .bool true, .int .i64 3, .int .i64 ky, .int .i64 vl, .int .i64 hh, .bool false, .int .i64 rk, .int .i64 rv, .slice pb n pc] 39)) z1) := B0.out.trans (hb1.mono B0.out.size); obtain ⟨c0, c1, c2, c3, c4, c5, c6, c7, c8, c9⟩ := box10 B1.out; clear hb1; clear q B0) | (go_at_call 18; have q := B1; refine (number_any _ HTH.out _).mono ?_; rintro e z3 ⟨rfl, hb3⟩; have B3 : Hid (Below (w.alloc (.cells #[.int .i64 th, .bool true, .int .i64 3, .int .i64 ky, .int .i64 vl, .int .i64 hh, .bool false, .int .i64 rk, .int .i64 rv, .slice pb n pc] 39)).heap.size (w.alloc (.cells #[.int .i64 th, .bool true, .int .i64 3, .int .i64 ky, .int .i64 vl, .int .i64 hh, .bool false, .int .i64 rk, .int .i64 rv, .slice pb n pc] 39)) z3) := B1.out.trans (hb3.mono B1.out.size); obtain ⟨c0, c1, c2, c3, c4, c5, c6, c7, c8, c9⟩ := box10 B3.out; clear hb3; clear q B1) | (go_at_call 18; have q := B3; refine (number_any _ HRV.out _).mono ?_; rintro e z4 ⟨rfl, hb4⟩; have B4 : Hid (Below (w.alloc (.cells #[.int .i64 th, .bool true, .int .i64 3, .int .i64 ky, .int .i64 vl, .int .i64 hh, .bool false, .int .i64 rk, .int .i64 rv, .slice pb n pc] 39)).heap.size (w.alloc (.cells #[.int .i64 th, .bool true, .int .i64 3, .int .i64 ky, .int .i64 vl, .int .i64 hh, .bool false, .int .i64 rk, .int .i64 rv, .slice pb n pc] 39)) z4) := B3.out.trans (hb4.mono B3.out.size); obtain ⟨c0, c1, c2, c3, c4, c5, c6, c7, c8, c9⟩ := box10 B4.out; clear hb4; clear q B3))
  go_ret
  refine ⟨ret_str ?_, (below_alloc _ _).trans (B4.out.mono (by simp))⟩
  simp only [ba_app]
  simp
set_option maxRecDepth 100000 in
set_option maxHeartbeats 4000000 in
theorem rTell_4t (th ky vl hh rk rv : Int) (pb : Option Addr) (pc n : Nat) (w : World) (hth : In64 th) (hrk : In64 rk) (hrv : In64 rv) (hin : OpIn ⟨4, ky, vl, hh⟩) (L : List UInt8) (hL : opL ⟨4, ky, vl, hh⟩ = L) (hLl : L.length ≤ 60) (hne : L ≠ []) :
    Calls Tryz.prog 12 #[.agg #[.int .i64 th, .bool true, .int .i64 4, .int .i64 ky, .int .i64 vl, .int .i64 hh, .bool true, .int .i64 rk, .int .i64 rv, .slice pb n pc]] w fun e w' => e = .returned (.string ⟨((116 :: Lib.itoa th ++ 32 :: L) ++ [32, 45, 62, 32, 121, 101, 115] ++ 32 :: Lib.itoa rv).toArray⟩) ∧ Below w.heap.size w w' := by
  have HIN : Hid (OpIn ⟨4, ky, vl, hh⟩) := hin
  have HTH : Hid (In64 th) := hth
  have HRK : Hid (In64 rk) := hrk
  have HRV : Hid (In64 rv) := hrv
  have HOL : Hid (opL ⟨4, ky, vl, hh⟩ = L) := hL
  have l1 := itoa_le hth
  have l2 := itoa_le hrv
  have l3 := itoa_le hin.1
  have l4 := pairT_len (p := (rk, rv)) hrk hrv
  have B0 : Hid (Below (w.alloc (.cells #[.int .i64 th, .bool true, .int .i64 4, .int .i64 ky, .int .i64 vl, .int .i64 hh, .bool true, .int .i64 rk, .int .i64 rv, .slice pb n pc] 39)).heap.size (w.alloc (.cells #[.int .i64 th, .bool true, .int .i64 4, .int .i64 ky, .int .i64 vl, .int .i64 hh, .bool true, .int .i64 rk, .int .i64 rv, .slice pb n pc] 39)) (w.alloc (.cells #[.int .i64 th, .bool true, .int .i64 4, .int .i64 ky, .int .i64 vl, .int .i64 hh, .bool true, .int .i64 rk, .int .i64 rv, .slice pb n pc] 39))) := Below.refl _ _
  clear hth hrk hrv hin hL
  have hne' : (L == []) = false := by simpa using hne
  clear hne
  go_enter Tryz.func12, Tryz.ntmps12
  go_wp2_with (first | (go_at_call 7; have q := B0; refine (rPrintOp_any ⟨4, ky, vl, hh⟩ HIN.out _).mono ?_; rintro e z1 ⟨rfl, hb1⟩; rw [HOL.out]; have B1 : Hid (Below (w.alloc (.cells #[.int .i64 th, .bool true, .int .i64 4, .int .i64 ky, .int .i64 vl, .int .i64 hh, .bool true, .int .i64 rk, .int .i64 rv, .slice pb n pc] 39)).heap.size (w.alloc (.cells #[.int .i64 th, .bool true, .int .i64 4, .int .i64 ky, .int .i64 vl, .int .i64 hh, .bool true, .int .i64 rk, .int .i64 rv, .slice pb n pc] 39)) z1) := B0.out.trans (hb1.mono B0.out.size); obtain ⟨c0, c1, c2, c3, c4, c5, c6, c7, c8, c9⟩ := box10 B1.out; clear hb1; clear q B0) | (go_at_call 18; have q := B1; refine (number_any _ HTH.out _).mono ?_; rintro e z3 ⟨rfl, hb3⟩; have B3 : Hid (Below (w.alloc (.cells #[.int .i64 th, .bool true, .int .i64 4, .int .i64 ky, .int .i64 vl, .int .i64 hh, .bool true, .int .i64 rk, .int .i64 rv, .slice pb n pc] 39)).heap.size (w.alloc (.cells #[.int .i64 th, .bool true, .int .i64 4, .int .i64 ky, .int .i64 vl, .int .i64 hh, .bool true, .int .i64 rk, .int .i64 rv, .slice pb n pc] 39)) z3) := B1.out.trans (hb3.mono B1.out.size); obtain ⟨c0, c1, c2, c3, c4, c5, c6, c7, c8, c9⟩ := box10 B3.out; clear hb3; clear q B1) | (go_at_call 18; have q := B3; refine (number_any _ HRV.out _).mono ?_; rintro e z4 ⟨rfl, hb4⟩; have B4 : Hid (Below (w.alloc (.cells #[.int .i64 th, .bool true, .int .i64 4, .int .i64 ky, .int .i64 vl, .int .i64 hh, .bool true, .int .i64 rk, .int .i64 rv, .slice pb n pc] 39)).heap.size (w.alloc (.cells #[.int .i64 th, .bool true, .int .i64 4, .int .i64 ky, .int .i64 vl, .int .i64 hh, .bool true, .int .i64 rk, .int .i64 rv, .slice pb n pc] 39)) z4) := B3.out.trans (hb4.mono B3.out.size); obtain ⟨c0, c1, c2, c3, c4, c5, c6, c7, c8, c9⟩ := box10 B4.out; clear hb4; clear q B3))
  go_ret
  refine ⟨ret_str ?_, (below_alloc _ _).trans (B4.out.mono (by simp))⟩
  simp only [ba_app]
  simp
set_option maxRecDepth 100000 in
set_option maxHeartbeats 4000000 in
theorem rTell_4f (th ky vl hh rk rv : Int) (pb : Option Addr) (pc n : Nat) (w : World) (hth : In64 th) (hrk : In64 rk) (hrv : In64 rv) (hin : OpIn ⟨4, ky, vl, hh⟩) (L : List UInt8) (hL : opL ⟨4, ky, vl, hh⟩ = L) (hLl : L.length ≤ 60) (hne : L ≠ []) :
    Calls Tryz.prog 12 #[.agg #[.int .i64 th, .bool true, .int .i64 4, .int .i64 ky, .int .i64 vl, .int .i64 hh, .bool false, .int .i64 rk, .int .i64 rv, .slice pb n pc]] w fun e w' => e = .returned (.string ⟨((116 :: Lib.itoa th ++ 32 :: L) ++ [32, 45, 62, 32, 110, 111] ++ 32 :: Lib.itoa rv).toArray⟩) ∧ Below w.heap.size w w' := by
  have HIN : Hid (OpIn ⟨4, ky, vl, hh⟩) := hin
  have HTH : Hid (In64 th) := hth
  have HRK : Hid (In64 rk) := hrk
  have HRV : Hid (In64 rv) := hrv
  have HOL : Hid (opL ⟨4, ky, vl, hh⟩ = L) := hL
  have l1 := itoa_le hth
  have l2 := itoa_le hrv
  have l3 := itoa_le hin.1
  have l4 := pairT_len (p := (rk, rv)) hrk hrv
  have B0 : Hid (Below (w.alloc (.cells #[.int .i64 th, .bool true, .int .i64 4, .int .i64 ky, .int .i64 vl, .int .i64 hh, .bool false, .int .i64 rk, .int .i64 rv, .slice pb n pc] 39)).heap.size (w.alloc (.cells #[.int .i64 th, .bool true, .int .i64 4, .int .i64 ky, .int .i64 vl, .int .i64 hh, .bool false, .int .i64 rk, .int .i64 rv, .slice pb n pc] 39)) (w.alloc (.cells #[.int .i64 th, .bool true, .int .i64 4, .int .i64 ky, .int .i64 vl, .int .i64 hh, .bool false, .int .i64 rk, .int .i64 rv, .slice pb n pc] 39))) := Below.refl _ _
  clear hth hrk hrv hin hL
  have hne' : (L == []) = false := by simpa using hne
  clear hne
  go_enter Tryz.func12, Tryz.ntmps12
  go_wp2_with (first | (go_at_call 7; have q := B0; refine (rPrintOp_any ⟨4, ky, vl, hh⟩ HIN.out _).mono ?_; rintro e z1 ⟨rfl, hb1⟩; rw [HOL.out]; have B1 : Hid (Below (w.alloc (.cells #[.int .i64 th, .bool true, .int .i64 4, .int .i64 ky, .int .i64 vl, .int .i64 hh, .bool false, .int .i64 rk, .int .i64 rv, .slice pb n pc] 39)).heap.size (w.alloc (.cells #[.int .i64 th, .bool true, .int .i64 4, .int .i64 ky, .int .i64 vl, .int .i64 hh, .bool false, .int .i64 rk, .int .i64 rv, .slice pb n pc] 39)) z1) := B0.out.trans (hb1.mono B0.out.size); obtain ⟨c0, c1, c2, c3, c4, c5, c6, c7, c8, c9⟩ := box10 B1.out; clear hb1; clear q B0) | (go_at_call 18; have q := B1; refine (number_any _ HTH.out _).mono ?_; rintro e z3 ⟨rfl, hb3⟩; have B3 : Hid (Below (w.alloc (.cells #[.int .i64 th, .bool true, .int .i64 4, .int .i64 ky, .int .i64 vl, .int .i64 hh, .bool false, .int .i64 rk, .int .i64 rv, .slice pb n pc] 39)).heap.size (w.alloc (.cells #[.int .i64 th, .bool true, .int .i64 4, .int .i64 ky, .int .i64 vl, .int .i64 hh, .bool false, .int .i64 rk, .int .i64 rv, .slice pb n pc] 39)) z3) := B1.out.trans (hb3.mono B1.out.size); obtain ⟨c0, c1, c2, c3, c4, c5, c6, c7, c8, c9⟩ := box10 B3.out; clear hb3; clear q B1) | (go_at_call 18; have q := B3; refine (number_any _ HRV.out _).mono ?_; rintro e z4 ⟨rfl, hb4⟩; have B4 : Hid (Below (w.alloc (.cells #[.int .i64 th, .bool true, .int .i64 4, .int .i64 ky, .int .i64 vl, .int .i64 hh, .bool false, .int .i64 rk, .int .i64 rv, .slice pb n pc] 39)).heap.size (w.alloc (.cells #[.int .i64 th, .bool true, .int .i64 4, .int .i64 ky, .int .i64 vl, .int .i64 hh, .bool false, .int .i64 rk, .int .i64 rv, .slice pb n pc] 39)) z4) := B3.out.trans (hb4.mono B3.out.size); obtain ⟨c0, c1, c2, c3, c4, c5, c6, c7, c8, c9⟩ := box10 B4.out; clear hb4; clear q B3))
  go_ret
  refine ⟨ret_str ?_, (below_alloc _ _).trans (B4.out.mono (by simp))⟩
  simp only [ba_app]
  simp
set_option maxRecDepth 100000 in
set_option maxHeartbeats 4000000 in
theorem rTell_5t (th ky vl hh rk rv : Int) (pb : Option Addr) (pc n : Nat) (w : World) (hth : In64 th) (hrk : In64 rk) (hrv : In64 rv) (hin : OpIn ⟨5, ky, vl, hh⟩) (L : List UInt8) (hL : opL ⟨5, ky, vl, hh⟩ = L) (hLl : L.length ≤ 60) (hne : L ≠ []) :
    Calls Tryz.prog 12 #[.agg #[.int .i64 th, .bool true, .int .i64 5, .int .i64 ky, .int .i64 vl, .int .i64 hh, .bool true, .int .i64 rk, .int .i64 rv, .slice pb n pc]] w fun e w' => e = .returned (.string ⟨((116 :: Lib.itoa th ++ 32 :: L) ++ [32, 45, 62, 32, 121, 101, 115] ++ 32 :: pairT (rk, rv)).toArray⟩) ∧ Below w.heap.size w w' := by
  have HIN : Hid (OpIn ⟨5, ky, vl, hh⟩) := hin
  have HTH : Hid (In64 th) := hth
  have HRK : Hid (In64 rk) := hrk
  have HRV : Hid (In64 rv) := hrv
  have HOL : Hid (opL ⟨5, ky, vl, hh⟩ = L) := hL
  have l1 := itoa_le hth
  have l2 := itoa_le hrv
  have l3 := itoa_le hin.1
  have l4 := pairT_len (p := (rk, rv)) hrk hrv
  have B0 : Hid (Below (w.alloc (.cells #[.int .i64 th, .bool true, .int .i64 5, .int .i64 ky, .int .i64 vl, .int .i64 hh, .bool true, .int .i64 rk, .int .i64 rv, .slice pb n pc] 39)).heap.size (w.alloc (.cells #[.int .i64 th, .bool true, .int .i64 5, .int .i64 ky, .int .i64 vl, .int .i64 hh, .bool true, .int .i64 rk, .int .i64 rv, .slice pb n pc] 39)) (w.alloc (.cells #[.int .i64 th, .bool true, .int .i64 5, .int .i64 ky, .int .i64 vl, .int .i64 hh, .bool true, .int .i64 rk, .int .i64 rv, .slice pb n pc] 39))) := Below.refl _ _
  clear hth hrk hrv hin hL
  have hne' : (L == []) = false := by simpa using hne
  clear hne
  go_enter Tryz.func12, Tryz.ntmps12
  go_wp2_with (first | (go_at_call 7; have q := B0; refine (rPrintOp_any ⟨5, ky, vl, hh⟩ HIN.out _).mono ?_; rintro e z1 ⟨rfl, hb1⟩; rw [HOL.out]; have B1 : Hid (Below (w.alloc (.cells #[.int .i64 th, .bool true, .int .i64 5, .int .i64 ky, .int .i64 vl, .int .i64 hh, .bool true, .int .i64 rk, .int .i64 rv, .slice pb n pc] 39)).heap.size (w.alloc (.cells #[.int .i64 th, .bool true, .int .i64 5, .int .i64 ky, .int .i64 vl, .int .i64 hh, .bool true, .int .i64 rk, .int .i64 rv, .slice pb n pc] 39)) z1) := B0.out.trans (hb1.mono B0.out.size); obtain ⟨c0, c1, c2, c3, c4, c5, c6, c7, c8, c9⟩ := box10 B1.out; clear hb1; clear q B0) | (go_at_call 18; have q := B1; refine (number_any _ HTH.out _).mono ?_; rintro e z3 ⟨rfl, hb3⟩; have B3 : Hid (Below (w.alloc (.cells #[.int .i64 th, .bool true, .int .i64 5, .int .i64 ky, .int .i64 vl, .int .i64 hh, .bool true, .int .i64 rk, .int .i64 rv, .slice pb n pc] 39)).heap.size (w.alloc (.cells #[.int .i64 th, .bool true, .int .i64 5, .int .i64 ky, .int .i64 vl, .int .i64 hh, .bool true, .int .i64 rk, .int .i64 rv, .slice pb n pc] 39)) z3) := B1.out.trans (hb3.mono B1.out.size); obtain ⟨c0, c1, c2, c3, c4, c5, c6, c7, c8, c9⟩ := box10 B3.out; clear hb3; clear q B1) | (go_at_call 26; have q := B3; refine (rpair_any _ _ HRK.out HRV.out _).mono ?_; rintro e z4 ⟨rfl, hb4⟩; have B4 : Hid (Below (w.alloc (.cells #[.int .i64 th, .bool true, .int .i64 5, .int .i64 ky, .int .i64 vl, .int .i64 hh, .bool true, .int .i64 rk, .int .i64 rv, .slice pb n pc] 39)).heap.size (w.alloc (.cells #[.int .i64 th, .bool true, .int .i64 5, .int .i64 ky, .int .i64 vl, .int .i64 hh, .bool true, .int .i64 rk, .int .i64 rv, .slice pb n pc] 39)) z4) := B3.out.trans (hb4.mono B3.out.size); obtain ⟨c0, c1, c2, c3, c4, c5, c6, c7, c8, c9⟩ := box10 B4.out; clear hb4; clear q B3))
  go_ret
  refine ⟨ret_str ?_, (below_alloc _ _).trans (B4.out.mono (by simp))⟩
  simp only [ba_app]
  simp
set_option maxRecDepth 100000 in
set_option maxHeartbeats 4000000 in
theorem rTell_5f (th ky vl hh rk rv : Int) (pb : Option Addr) (pc n : Nat) (w : World) (hth : In64 th) (hrk : In64 rk) (hrv : In64 rv) (hin : OpIn ⟨5, ky, vl, hh⟩) (L : List UInt8) (hL : opL ⟨5, ky, vl, hh⟩ = L) (hLl : L.length ≤ 60) (hne : L ≠ []) :
    Calls Tryz.prog 12 #[.agg #[.int .i64 th, .bool true, .int .i64 5, .int .i64 ky, .int .i64 vl, .int .i64 hh, .bool false, .int .i64 rk, .int .i64 rv, .slice pb n pc]] w fun e w' => e = .returned (.string ⟨((116 :: Lib.itoa th ++ 32 :: L) ++ [32, 45, 62, 32, 110, 111] ++ 32 :: pairT (rk, rv)).toArray⟩) ∧ Below w.heap.size w w' := by
  have HIN : Hid (OpIn ⟨5, ky, vl, hh⟩) := hin
  have HTH : Hid (In64 th) := hth
  have HRK : Hid (In64 rk) := hrk
  have HRV : Hid (In64 rv) := hrv
  have HOL : Hid (opL ⟨5, ky, vl, hh⟩ = L) := hL
  have l1 := itoa_le hth
  have l2 := itoa_le hrv
  have l3 := itoa_le hin.1
  have l4 := pairT_len (p := (rk, rv)) hrk hrv
  have B0 : Hid (Below (w.alloc (.cells #[.int .i64 th, .bool true, .int .i64 5, .int .i64 ky, .int .i64 vl, .int .i64 hh, .bool false, .int .i64 rk, .int .i64 rv, .slice pb n pc] 39)).heap.size (w.alloc (.cells #[.int .i64 th, .bool true, .int .i64 5, .int .i64 ky, .int .i64 vl, .int .i64 hh, .bool false, .int .i64 rk, .int .i64 rv, .slice pb n pc] 39)) (w.alloc (.cells #[.int .i64 th, .bool true, .int .i64 5, .int .i64 ky, .int .i64 vl, .int .i64 hh, .bool false, .int .i64 rk, .int .i64 rv, .slice pb n pc] 39))) := Below.refl _ _
  clear hth hrk hrv hin hL
  have hne' : (L == []) = false := by simpa using hne
  clear hne
  go_enter Tryz.func12, Tryz.ntmps12
  go_wp2_with (first | (go_at_call 7; have q := B0; refine (rPrintOp_any ⟨5, ky, vl, hh⟩ HIN.out _).mono ?_; rintro e z1 ⟨rfl, hb1⟩; rw [HOL.out]; have B1 : Hid (Below (w.alloc (.cells #[.int .i64 th, .bool true, .int .i64 5, .int .i64 ky, .int .i64 vl, .int .i64 hh, .bool false, .int .i64 rk, .int .i64 rv, .slice pb n pc] 39)).heap.size (w.alloc (.cells #[.int .i64 th, .bool true, .int .i64 5, .int .i64 ky, .int .i64 vl, .int .i64 hh, .bool false, .int .i64 rk, .int .i64 rv, .slice pb n pc] 39)) z1) := B0.out.trans (hb1.mono B0.out.size); obtain ⟨c0, c1, c2, c3, c4, c5, c6, c7, c8, c9⟩ := box10 B1.out; clear hb1; clear q B0) | (go_at_call 18; have q := B1; refine (number_any _ HTH.out _).mono ?_; rintro e z3 ⟨rfl, hb3⟩; have B3 : Hid (Below (w.alloc (.cells #[.int .i64 th, .bool true, .int .i64 5, .int .i64 ky, .int .i64 vl, .int .i64 hh, .bool false, .int .i64 rk, .int .i64 rv, .slice pb n pc] 39)).heap.size (w.alloc (.cells #[.int .i64 th, .bool true, .int .i64 5, .int .i64 ky, .int .i64 vl, .int .i64 hh, .bool false, .int .i64 rk, .int .i64 rv, .slice pb n pc] 39)) z3) := B1.out.trans (hb3.mono B1.out.size); obtain ⟨c0, c1, c2, c3, c4, c5, c6, c7, c8, c9⟩ := box10 B3.out; clear hb3; clear q B1) | (go_at_call 26; have q := B3; refine (rpair_any _ _ HRK.out HRV.out _).mono ?_; rintro e z4 ⟨rfl, hb4⟩; have B4 : Hid (Below (w.alloc (.cells #[.int .i64 th, .bool true, .int .i64 5, .int .i64 ky, .int .i64 vl, .int .i64 hh, .bool false, .int .i64 rk, .int .i64 rv, .slice pb n pc] 39)).heap.size (w.alloc (.cells #[.int .i64 th, .bool true, .int .i64 5, .int .i64 ky, .int .i64 vl, .int .i64 hh, .bool false, .int .i64 rk, .int .i64 rv, .slice pb n pc] 39)) z4) := B3.out.trans (hb4.mono B3.out.size); obtain ⟨c0, c1, c2, c3, c4, c5, c6, c7, c8, c9⟩ := box10 B4.out; clear hb4; clear q B3))
  go_ret
  refine ⟨ret_str ?_, (below_alloc _ _).trans (B4.out.mono (by simp))⟩
  simp only [ba_app]
  simp
set_option maxRecDepth 100000 in
set_option maxHeartbeats 4000000 in
theorem rTell_6t (th ky vl hh rk rv : Int) (pb : Option Addr) (pc n : Nat) (w : World) (hth : In64 th) (hrk : In64 rk) (hrv : In64 rv) (hin : OpIn ⟨6, ky, vl, hh⟩) (L : List UInt8) (hL : opL ⟨6, ky, vl, hh⟩ = L) (hLl : L.length ≤ 60) (hne : L ≠ []) :
    Calls Tryz.prog 12 #[.agg #[.int .i64 th, .bool true, .int .i64 6, .int .i64 ky, .int .i64 vl, .int .i64 hh, .bool true, .int .i64 rk, .int .i64 rv, .slice pb n pc]] w fun e w' => e = .returned (.string ⟨((116 :: Lib.itoa th ++ 32 :: L) ++ [32, 45, 62, 32, 121, 101, 115] ++ 32 :: pairT (rk, rv)).toArray⟩) ∧ Below w.heap.size w w' := by
  have HIN : Hid (OpIn ⟨6, ky, vl, hh⟩) := hin
  have HTH : Hid (In64 th) := hth
  have HRK : Hid (In64 rk) := hrk
  have HRV : Hid (In64 rv) := hrv
  have HOL : Hid (opL ⟨6, ky, vl, hh⟩ = L) := hL
  have l1 := itoa_le hth
  have l2 := itoa_le hrv
  have l3 := itoa_le hin.1
  have l4 := pairT_len (p := (rk, rv)) hrk hrv
  have B0 : Hid (Below (w.alloc (.cells #[.int .i64 th, .bool true, .int .i64 6, .int .i64 ky, .int .i64 vl, .int .i64 hh, .bool true, .int .i64 rk, .int .i64 rv, .slice pb n pc] 39)).heap.size (w.alloc (.cells #[.int .i64 th, .bool true, .int .i64 6, .int .i64 ky, .int .i64 vl, .int .i64 hh, .bool true, .int .i64 rk, .int .i64 rv, .slice pb n pc] 39)) (w.alloc (.cells #[.int .i64 th, .bool true, .int .i64 6, .int .i64 ky, .int .i64 vl, .int .i64 hh, .bool true, .int .i64 rk, .int .i64 rv, .slice pb n pc] 39))) := Below.refl _ _
  clear hth hrk hrv hin hL
  have hne' : (L == []) = false := by simpa using hne
  clear hne
  go_enter Tryz.func12, Tryz.ntmps12
  go_wp2_with (first | (go_at_call 7; have q := B0; refine (rPrintOp_any ⟨6, ky, vl, hh⟩ HIN.out _).mono ?_; rintro e z1 ⟨rfl, hb1⟩; rw [HOL.out]; have B1 : Hid (Below (w.alloc (.cells #[.int .i64 th, .bool true, .int .i64 6, .int .i64 ky, .int .i64 vl, .int .i64 hh, .bool true, .int .i64 rk, .int .i64 rv, .slice pb n pc] 39)).heap.size (w.alloc (.cells #[.int .i64 th, .bool true, .int .i64 6, .int .i64 ky, .int .i64 vl, .int .i64 hh, .bool true, .int .i64 rk, .int .i64 rv, .slice pb n pc] 39)) z1) := B0.out.trans (hb1.mono B0.out.size); obtain ⟨c0, c1, c2, c3, c4, c5, c6, c7, c8, c9⟩ := box10 B1.out; clear hb1; clear q B0) | (go_at_call 18; have q := B1; refine (number_any _ HTH.out _).mono ?_; rintro e z3 ⟨rfl, hb3⟩; have B3 : Hid (Below (w.alloc (.cells #[.int .i64 th, .bool true, .int .i64 6, .int .i64 ky, .int .i64 vl, .int .i64 hh, .bool true, .int .i64 rk, .int .i64 rv, .slice pb n pc] 39)).heap.size (w.alloc (.cells #[.int .i64 th, .bool true, .int .i64 6, .int .i64 ky, .int .i64 vl, .int .i64 hh, .bool true, .int .i64 rk, .int .i64 rv, .slice pb n pc] 39)) z3) := B1.out.trans (hb3.mono B1.out.size); obtain ⟨c0, c1, c2, c3, c4, c5, c6, c7, c8, c9⟩ := box10 B3.out; clear hb3; clear q B1) | (go_at_call 26; have q := B3; refine (rpair_any _ _ HRK.out HRV.out _).mono ?_; rintro e z4 ⟨rfl, hb4⟩; have B4 : Hid (Below (w.alloc (.cells #[.int .i64 th, .bool true, .int .i64 6, .int .i64 ky, .int .i64 vl, .int .i64 hh, .bool true, .int .i64 rk, .int .i64 rv, .slice pb n pc] 39)).heap.size (w.alloc (.cells #[.int .i64 th, .bool true, .int .i64 6, .int .i64 ky, .int .i64 vl, .int .i64 hh, .bool true, .int .i64 rk, .int .i64 rv, .slice pb n pc] 39)) z4) := B3.out.trans (hb4.mono B3.out.size); obtain ⟨c0, c1, c2, c3, c4, c5, c6, c7, c8, c9⟩ := box10 B4.out; clear hb4; clear q B3))
  go_ret
  refine ⟨ret_str ?_, (below_alloc _ _).trans (B4.out.mono (by simp))⟩
  simp only [ba_app]
  simp
set_option maxRecDepth 100000 in
set_option maxHeartbeats 4000000 in
theorem rTell_6f (th ky vl hh rk rv : Int) (pb : Option Addr) (pc n : Nat) (w : World) (hth : In64 th) (hrk : In64 rk) (hrv : In64 rv) (hin : OpIn ⟨6, ky, vl, hh⟩) (L : List UInt8) (hL : opL ⟨6, ky, vl, hh⟩ = L) (hLl : L.length ≤ 60) (hne : L ≠ []) :
    Calls Tryz.prog 12 #[.agg #[.int .i64 th, .bool true, .int .i64 6, .int .i64 ky, .int .i64 vl, .int .i64 hh, .bool false, .int .i64 rk, .int .i64 rv, .slice pb n pc]] w fun e w' => e = .returned (.string ⟨((116 :: Lib.itoa th ++ 32 :: L) ++ [32, 45, 62, 32, 110, 111] ++ 32 :: pairT (rk, rv)).toArray⟩) ∧ Below w.heap.size w w' := by
  have HIN : Hid (OpIn ⟨6, ky, vl, hh⟩) := hin
  have HTH : Hid (In64 th) := hth
  have HRK : Hid (In64 rk) := hrk
  have HRV : Hid (In64 rv) := hrv
  have HOL : Hid (opL ⟨6, ky, vl, hh⟩ = L) := hL
  have l1 := itoa_le hth
  have l2 := itoa_le hrv
  have l3 := itoa_le hin.1
  have l4 := pairT_len (p := (rk, rv)) hrk hrv
  have B0 : Hid (Below (w.alloc (.cells #[.int .i64 th, .bool true, .int .i64 6, .int .i64 ky, .int .i64 vl, .int .i64 hh, .bool false, .int .i64 rk, .int .i64 rv, .slice pb n pc] 39)).heap.size (w.alloc (.cells #[.int .i64 th, .bool true, .int .i64 6, .int .i64 ky, .int .i64 vl, .int .i64 hh, .bool false, .int .i64 rk, .int .i64 rv, .slice pb n pc] 39)) (w.alloc (.cells #[.int .i64 th, .bool true, .int .i64 6, .int .i64 ky, .int .i64 vl, .int .i64 hh, .bool false, .int .i64 rk, .int .i64 rv, .slice pb n pc] 39))) := Below.refl _ _
  clear hth hrk hrv hin hL
  have hne' : (L == []) = false := by simpa using hne
  clear hne
  go_enter Tryz.func12, Tryz.ntmps12
  go_wp2_with (first | (go_at_call 7; have q := B0; refine (rPrintOp_any ⟨6, ky, vl, hh⟩ HIN.out _).mono ?_; rintro e z1 ⟨rfl, hb1⟩; rw [HOL.out]; have B1 : Hid (Below (w.alloc (.cells #[.int .i64 th, .bool true, .int .i64 6, .int .i64 ky, .int .i64 vl, .int .i64 hh, .bool false, .int .i64 rk, .int .i64 rv, .slice pb n pc] 39)).heap.size (w.alloc (.cells #[.int .i64 th, .bool true, .int .i64 6, .int .i64 ky, .int .i64 vl, .int .i64 hh, .bool false, .int .i64 rk, .int .i64 rv, .slice pb n pc] 39)) z1) := B0.out.trans (hb1.mono B0.out.size); obtain ⟨c0, c1, c2, c3, c4, c5, c6, c7, c8, c9⟩ := box10 B1.out; clear hb1; clear q B0) | (go_at_call 18; have q := B1; refine (number_any _ HTH.out _).mono ?_; rintro e z3 ⟨rfl, hb3⟩; have B3 : Hid (Below (w.alloc (.cells #[.int .i64 th, .bool true, .int .i64 6, .int .i64 ky, .int .i64 vl, .int .i64 hh, .bool false, .int .i64 rk, .int .i64 rv, .slice pb n pc] 39)).heap.size (w.alloc (.cells #[.int .i64 th, .bool true, .int .i64 6, .int .i64 ky, .int .i64 vl, .int .i64 hh, .bool false, .int .i64 rk, .int .i64 rv, .slice pb n pc] 39)) z3) := B1.out.trans (hb3.mono B1.out.size); obtain ⟨c0, c1, c2, c3, c4, c5, c6, c7, c8, c9⟩ := box10 B3.out; clear hb3; clear q B1) | (go_at_call 26; have q := B3; refine (rpair_any _ _ HRK.out HRV.out _).mono ?_; rintro e z4 ⟨rfl, hb4⟩; have B4 : Hid (Below (w.alloc (.cells #[.int .i64 th, .bool true, .int .i64 6, .int .i64 ky, .int .i64 vl, .int .i64 hh, .bool false, .int .i64 rk, .int .i64 rv, .slice pb n pc] 39)).heap.size (w.alloc (.cells #[.int .i64 th, .bool true, .int .i64 6, .int .i64 ky, .int .i64 vl, .int .i64 hh, .bool false, .int .i64 rk, .int .i64 rv, .slice pb n pc] 39)) z4) := B3.out.trans (hb4.mono B3.out.size); obtain ⟨c0, c1, c2, c3, c4, c5, c6, c7, c8, c9⟩ := box10 B4.out; clear hb4; clear q B3))
  go_ret
  refine ⟨ret_str ?_, (below_alloc _ _).trans (B4.out.mono (by simp))⟩
  simp only [ba_app]
  simp
set_option maxRecDepth 100000 in
set_option maxHeartbeats 4000000 in
theorem rTell_7t (th ky vl hh rk rv : Int) (pb : Option Addr) (pc n : Nat) (w : World) (hth : In64 th) (hrk : In64 rk) (hrv : In64 rv) (hin : OpIn ⟨7, ky, vl, hh⟩) (L : List UInt8) (hL : opL ⟨7, ky, vl, hh⟩ = L) (hLl : L.length ≤ 60) (hne : L ≠ []) :
    Calls Tryz.prog 12 #[.agg #[.int .i64 th, .bool true, .int .i64 7, .int .i64 ky, .int .i64 vl, .int .i64 hh, .bool true, .int .i64 rk, .int .i64 rv, .slice pb n pc]] w fun e w' => e = .returned (.string ⟨((116 :: Lib.itoa th ++ 32 :: L) ++ [32, 45, 62, 32, 121, 101, 115] ++ 32 :: pairT (rk, rv)).toArray⟩) ∧ Below w.heap.size w w' := by
  have HIN : Hid (OpIn ⟨7, ky, vl, hh⟩) := hin
  have HTH : Hid (In64 th) := hth
  have HRK : Hid (In64 rk) := hrk
  have HRV : Hid (In64 rv) := hrv
  have HOL : Hid (opL ⟨7, ky, vl, hh⟩ = L) := hL
  have l1 := itoa_le hth
  have l2 := itoa_le hrv
  have l3 := itoa_le hin.1
  have l4 := pairT_len (p := (rk, rv)) hrk hrv
  have B0 : Hid (Below (w.alloc (.cells #[.int .i64 th, .bool true, .int .i64 7, .int .i64 ky, .int .i64 vl, .int .i64 hh, .bool true, .int .i64 rk, .int .i64 rv, .slice pb n pc] 39)).heap.size (w.alloc (.cells #[.int .i64 th, .bool true, .int .i64 7, .int .i64 ky, .int .i64 vl, .int .i64 hh, .bool true, .int .i64 rk, .int .i64 rv, .slice pb n pc] 39)) (w.alloc (.cells #[.int .i64 th, .bool true, .int .i64 7, .int .i64 ky, .int .i64 vl, .int .i64 hh, .bool true, .int .i64 rk, .int .i64 rv, .slice pb n pc] 39))) := Below.refl _ _
  clear hth hrk hrv hin hL
  have hne' : (L == []) = false := by simpa using hne
  clear hne
  go_enter Tryz.func12, Tryz.ntmps12
  go_wp2_with (first | (go_at_call 7; have q := B0; refine (rPrintOp_any ⟨7, ky, vl, hh⟩ HIN.out _).mono ?_; rintro e z1 ⟨rfl, hb1⟩; rw [HOL.out]; have B1 : Hid (Below (w.alloc (.cells #[.int .i64 th, .bool true, .int .i64 7, .int .i64 ky, .int .i64 vl, .int .i64 hh, .bool true, .int .i64 rk, .int .i64 rv, .slice pb n pc] 39)).heap.size (w.alloc (.cells #[.int .i64 th, .bool true, .int .i64 7, .int .i64 ky, .int .i64 vl, .int .i64 hh, .bool true, .int .i64 rk, .int .i64 rv, .slice pb n pc] 39)) z1) := B0.out.trans (hb1.mono B0.out.size); obtain ⟨c0, c1, c2, c3, c4, c5, c6, c7, c8, c9⟩ := box10 B1.out; clear hb1; clear q B0) | (go_at_call 18; have q := B1; refine (number_any _ HTH.out _).mono ?_; rintro e z3 ⟨rfl, hb3⟩; have B3 : Hid (Below (w.alloc (.cells #[.int .i64 th, .bool true, .int .i64 7, .int .i64 ky, .int .i64 vl, .int .i64 hh, .bool true, .int .i64 rk, .int .i64 rv, .slice pb n pc] 39)).heap.size (w.alloc (.cells #[.int .i64 th, .bool true, .int .i64 7, .int .i64 ky, .int .i64 vl, .int .i64 hh, .bool true, .int .i64 rk, .int .i64 rv, .slice pb n pc] 39)) z3) := B1.out.trans (hb3.mono B1.out.size); obtain ⟨c0, c1, c2, c3, c4, c5, c6, c7, c8, c9⟩ := box10 B3.out; clear hb3; clear q B1) | (go_at_call 26; have q := B3; refine (rpair_any _ _ HRK.out HRV.out _).mono ?_; rintro e z4 ⟨rfl, hb4⟩; have B4 : Hid (Below (w.alloc (.cells #[.int .i64 th, .bool true, .int .i64 7, .int .i64 ky, .int .i64 vl, .int .i64 hh, .bool true, .int .i64 rk, .int .i64 rv, .slice pb n pc] 39)).heap.size (w.alloc (.cells #[.int .i64 th, .bool true, .int .i64 7, .int .i64 ky, .int .i64 vl, .int .i64 hh, .bool true, .int .i64 rk, .int .i64 rv, .slice pb n pc] 39)) z4) := B3.out.trans (hb4.mono B3.out.size); obtain ⟨c0, c1, c2, c3, c4, c5, c6, c7, c8, c9⟩ := box10 B4.out; clear hb4; clear q B3))
  go_ret
  refine ⟨ret_str ?_, (below_alloc _ _).trans (B4.out.mono (by simp))⟩
  simp only [ba_app]
  simp
set_option maxRecDepth 100000 in
set_option maxHeartbeats 4000000 in
theorem rTell_7f (th ky vl hh rk rv : Int) (pb : Option Addr) (pc n : Nat) (w : World) (hth : In64 th) (hrk : In64 rk) (hrv : In64 rv) (hin : OpIn ⟨7, ky, vl, hh⟩) (L : List UInt8) (hL : opL ⟨7, ky, vl, hh⟩ = L) (hLl : L.length ≤ 60) (hne : L ≠ []) :
    Calls Tryz.prog 12 #[.agg #[.int .i64 th, .bool true, .int .i64 7, .int .i64 ky, .int .i64 vl, .int .i64 hh, .bool false, .int .i64 rk, .int .i64 rv, .slice pb n pc]] w fun e w' => e = .returned (.string ⟨((116 :: Lib.itoa th ++ 32 :: L) ++ [32, 45, 62, 32, 110, 111] ++ 32 :: pairT (rk, rv)).toArray⟩) ∧ Below w.heap.size w w' := by
  have HIN : Hid (OpIn ⟨7, ky, vl, hh⟩) := hin
  have HTH : Hid (In64 th) := hth
  have HRK : Hid (In64 rk) := hrk
  have HRV : Hid (In64 rv) := hrv
  have HOL : Hid (opL ⟨7, ky, vl, hh⟩ = L) := hL
  have l1 := itoa_le hth
  have l2 := itoa_le hrv
  have l3 := itoa_le hin.1
  have l4 := pairT_len (p := (rk, rv)) hrk hrv
  have B0 : Hid (Below (w.alloc (.cells #[.int .i64 th, .bool true, .int .i64 7, .int .i64 ky, .int .i64 vl, .int .i64 hh, .bool false, .int .i64 rk, .int .i64 rv, .slice pb n pc] 39)).heap.size (w.alloc (.cells #[.int .i64 th, .bool true, .int .i64 7, .int .i64 ky, .int .i64 vl, .int .i64 hh, .bool false, .int .i64 rk, .int .i64 rv, .slice pb n pc] 39)) (w.alloc (.cells #[.int .i64 th, .bool true, .int .i64 7, .int .i64 ky, .int .i64 vl, .int .i64 hh, .bool false, .int .i64 rk, .int .i64 rv, .slice pb n pc] 39))) := Below.refl _ _
  clear hth hrk hrv hin hL
  have hne' : (L == []) = false := by simpa using hne
  clear hne
  go_enter Tryz.func12, Tryz.ntmps12
  go_wp2_with (first | (go_at_call 7; have q := B0; refine (rPrintOp_any ⟨7, ky, vl, hh⟩ HIN.out _).mono ?_; rintro e z1 ⟨rfl, hb1⟩; rw [HOL.out]; have B1 : Hid (Below (w.alloc (.cells #[.int .i64 th, .bool true, .int .i64 7, .int .i64 ky, .int .i64 vl, .int .i64 hh, .bool false, .int .i64 rk, .int .i64 rv, .slice pb n pc] 39)).heap.size (w.alloc (.cells #[.int .i64 th, .bool true, .int .i64 7, .int .i64 ky, .int .i64 vl, .int .i64 hh, .bool false, .int .i64 rk, .int .i64 rv, .slice pb n pc] 39)) z1) := B0.out.trans (hb1.mono B0.out.size); obtain ⟨c0, c1, c2, c3, c4, c5, c6, c7, c8, c9⟩ := box10 B1.out; clear hb1; clear q B0) | (go_at_call 18; have q := B1; refine (number_any _ HTH.out _).mono ?_; rintro e z3 ⟨rfl, hb3⟩; have B3 : Hid (Below (w.alloc (.cells #[.int .i64 th, .bool true, .int .i64 7, .int .i64 ky, .int .i64 vl, .int .i64 hh, .bool false, .int .i64 rk, .int .i64 rv, .slice pb n pc] 39)).heap.size (w.alloc (.cells #[.int .i64 th, .bool true, .int .i64 7, .int .i64 ky, .int .i64 vl, .int .i64 hh, .bool false, .int .i64 rk, .int .i64 rv, .slice pb n pc] 39)) z3) := B1.out.trans (hb3.mono B1.out.size); obtain ⟨c0, c1, c2, c3, c4, c5, c6, c7, c8, c9⟩ := box10 B3.out; clear hb3; clear q B1) | (go_at_call 26; have q := B3; refine (rpair_any _ _ HRK.out HRV.out _).mono ?_; rintro e z4 ⟨rfl, hb4⟩; have B4 : Hid (Below (w.alloc (.cells #[.int .i64 th, .bool true, .int .i64 7, .int .i64 ky, .int .i64 vl, .int .i64 hh, .bool false, .int .i64 rk, .int .i64 rv, .slice pb n pc] 39)).heap.size (w.alloc (.cells #[.int .i64 th, .bool true, .int .i64 7, .int .i64 ky, .int .i64 vl, .int .i64 hh, .bool false, .int .i64 rk, .int .i64 rv, .slice pb n pc] 39)) z4) := B3.out.trans (hb4.mono B3.out.size); obtain ⟨c0, c1, c2, c3, c4, c5, c6, c7, c8, c9⟩ := box10 B4.out; clear hb4; clear q B3))
  go_ret
  refine ⟨ret_str ?_, (below_alloc _ _).trans (B4.out.mono (by simp))⟩
  simp only [ba_app]
  simp
set_option maxRecDepth 100000 in
set_option maxHeartbeats 4000000 in
theorem rTell_8t (th ky vl hh rk rv : Int) (pb : Option Addr) (pc n : Nat) (w : World) (hth : In64 th) (hrk : In64 rk) (hrv : In64 rv) (hin : OpIn ⟨8, ky, vl, hh⟩) (L : List UInt8) (hL : opL ⟨8, ky, vl, hh⟩ = L) (hLl : L.length ≤ 60) (hne : L ≠ []) :
    Calls Tryz.prog 12 #[.agg #[.int .i64 th, .bool true, .int .i64 8, .int .i64 ky, .int .i64 vl, .int .i64 hh, .bool true, .int .i64 rk, .int .i64 rv, .slice pb n pc]] w fun e w' => e = .returned (.string ⟨((116 :: Lib.itoa th ++ 32 :: L) ++ [32, 45, 62, 32, 121, 101, 115] ++ 32 :: pairT (rk, rv)).toArray⟩) ∧ Below w.heap.size w w' := by
  have HIN : Hid (OpIn ⟨8, ky, vl, hh⟩) := hin
  have HTH : Hid (In64 th) := hth
  have HRK : Hid (In64 rk) := hrk
  have HRV : Hid (In64 rv) := hrv
  have HOL : Hid (opL ⟨8, ky, vl, hh⟩ = L) := hL
  have l1 := itoa_le hth
  have l2 := itoa_le hrv
  have l3 := itoa_le hin.1
  have l4 := pairT_len (p := (rk, rv)) hrk hrv
  have B0 : Hid (Below (w.alloc (.cells #[.int .i64 th, .bool true, .int .i64 8, .int .i64 ky, .int .i64 vl, .int .i64 hh, .bool true, .int .i64 rk, .int .i64 rv, .slice pb n pc] 39)).heap.size (w.alloc (.cells #[.int .i64 th, .bool true, .int .i64 8, .int .i64 ky, .int .i64 vl, .int .i64 hh, .bool true, .int .i64 rk, .int .i64 rv, .slice pb n pc] 39)) (w.alloc (.cells #[.int .i64 th, .bool true, .int .i64 8, .int .i64 ky, .int .i64 vl, .int .i64 hh, .bool true, .int .i64 rk, .int .i64 rv, .slice pb n pc] 39))) := Below.refl _ _
  clear hth hrk hrv hin hL
  have hne' : (L == []) = false := by simpa using hne
  clear hne
  go_enter Tryz.func12, Tryz.ntmps12
  go_wp2_with (first | (go_at_call 7; have q := B0; refine (rPrintOp_any ⟨8, ky, vl, hh⟩ HIN.out _).mono ?_; rintro e z1 ⟨rfl, hb1⟩; rw [HOL.out]; have B1 : Hid (Below (w.alloc (.cells #[.int .i64 th, .bool true, .int .i64 8, .int .i64 ky, .int .i64 vl, .int .i64 hh, .bool true, .int .i64 rk, .int .i64 rv, .slice pb n pc] 39)).heap.size (w.alloc (.cells #[.int .i64 th, .bool true, .int .i64 8, .int .i64 ky, .int .i64 vl, .int .i64 hh, .bool true, .int .i64 rk, .int .i64 rv, .slice pb n pc] 39)) z1) := B0.out.trans (hb1.mono B0.out.size); obtain ⟨c0, c1, c2, c3, c4, c5, c6, c7, c8, c9⟩ := box10 B1.out; clear hb1; clear q B0) | (go_at_call 18; have q := B1; refine (number_any _ HTH.out _).mono ?_; rintro e z3 ⟨rfl, hb3⟩; have B3 : Hid (Below (w.alloc (.cells #[.int .i64 th, .bool true, .int .i64 8, .int .i64 ky, .int .i64 vl, .int .i64 hh, .bool true, .int .i64 rk, .int .i64 rv, .slice pb n pc] 39)).heap.size (w.alloc (.cells #[.int .i64 th, .bool true, .int .i64 8, .int .i64 ky, .int .i64 vl, .int .i64 hh, .bool true, .int .i64 rk, .int .i64 rv, .slice pb n pc] 39)) z3) := B1.out.trans (hb3.mono B1.out.size); obtain ⟨c0, c1, c2, c3, c4, c5, c6, c7, c8, c9⟩ := box10 B3.out; clear hb3; clear q B1) | (go_at_call 26; have q := B3; refine (rpair_any _ _ HRK.out HRV.out _).mono ?_; rintro e z4 ⟨rfl, hb4⟩; have B4 : Hid (Below (w.alloc (.cells #[.int .i64 th, .bool true, .int .i64 8, .int .i64 ky, .int .i64 vl, .int .i64 hh, .bool true, .int .i64 rk, .int .i64 rv, .slice pb n pc] 39)).heap.size (w.alloc (.cells #[.int .i64 th, .bool true, .int .i64 8, .int .i64 ky, .int .i64 vl, .int .i64 hh, .bool true, .int .i64 rk, .int .i64 rv, .slice pb n pc] 39)) z4) := B3.out.trans (hb4.mono B3.out.size); obtain ⟨c0, c1, c2, c3, c4, c5, c6, c7, c8, c9⟩ := box10 B4.out; clear hb4; clear q B3))
  go_ret
  refine ⟨ret_str ?_, (below_alloc _ _).trans (B4.out.mono (by simp))⟩
  simp only [ba_app]
  simp
set_option maxRecDepth 100000 in
set_option maxHeartbeats 4000000 in
theorem rTell_8f (th ky vl hh rk rv : Int) (pb : Option Addr) (pc n : Nat) (w : World) (hth : In64 th) (hrk : In64 rk) (hrv : In64 rv) (hin : OpIn ⟨8, ky, vl, hh⟩) (L : List UInt8) (hL : opL ⟨8, ky, vl, hh⟩ = L) (hLl : L.length ≤ 60) (hne : L ≠ []) :
    Calls Tryz.prog 12 #[.agg #[.int .i64 th, .bool true, .int .i64 8, .int .i64 ky, .int .i64 vl, .int .i64 hh, .bool false, .int .i64 rk, .int .i64 rv, .slice pb n pc]] w fun e w' => e = .returned (.string ⟨((116 :: Lib.itoa th ++ 32 :: L) ++ [32, 45, 62, 32, 110, 111] ++ 32 :: pairT (rk, rv)).toArray⟩) ∧ Below w.heap.size w w' := by
  have HIN : Hid (OpIn ⟨8, ky, vl, hh⟩) := hin
  have HTH : Hid (In64 th) := hth
  have HRK : Hid (In64 rk) := hrk
  have HRV : Hid (In64 rv) := hrv
  have HOL : Hid (opL ⟨8, ky, vl, hh⟩ = L) := hL
  have l1 := itoa_le hth
  have l2 := itoa_le hrv
  have l3 := itoa_le hin.1
  have l4 := pairT_len (p := (rk, rv)) hrk hrv
  have B0 : Hid (Below (w.alloc (.cells #[.int .i64 th, .bool true, .int .i64 8, .int .i64 ky, .int .i64 vl, .int .i64 hh, .bool false, .int .i64 rk, .int .i64 rv, .slice pb n pc] 39)).heap.size (w.alloc (.cells #[.int .i64 th, .bool true, .int .i64 8, .int .i64 ky, .int .i64 vl, .int .i64 hh, .bool false, .int .i64 rk, .int .i64 rv, .slice pb n pc] 39)) (w.alloc (.cells #[.int .i64 th, .bool true, .int .i64 8, .int .i64 ky, .int .i64 vl, .int .i64 hh, .bool false, .int .i64 rk, .int .i64 rv, .slice pb n pc] 39))) := Below.refl _ _
  clear hth hrk hrv hin hL
  have hne' : (L == []) = false := by simpa using hne
  clear hne
  go_enter Tryz.func12, Tryz.ntmps12
  go_wp2_with (first | (go_at_call 7; have q := B0; refine (rPrintOp_any ⟨8, ky, vl, hh⟩ HIN.out _).mono ?_; rintro e z1 ⟨rfl, hb1⟩; rw [HOL.out]; have B1 : Hid (Below (w.alloc (.cells #[.int .i64 th, .bool true, .int .i64 8, .int .i64 ky, .int .i64 vl, .int .i64 hh, .bool false, .int .i64 rk, .int .i64 rv, .slice pb n pc] 39)).heap.size (w.alloc (.cells #[.int .i64 th, .bool true, .int .i64 8, .int .i64 ky, .int .i64 vl, .int .i64 hh, .bool false, .int .i64 rk, .int .i64 rv, .slice pb n pc] 39)) z1) := B0.out.trans (hb1.mono B0.out.size); obtain ⟨c0, c1, c2, c3, c4, c5, c6, c7, c8, c9⟩ := box10 B1.out; clear hb1; clear q B0) | (go_at_call 18; have q := B1; refine (number_any _ HTH.out _).mono ?_; rintro e z3 ⟨rfl, hb3⟩; have B3 : Hid (Below (w.alloc (.cells #[.int .i64 th, .bool true, .int .i64 8, .int .i64 ky, .int .i64 vl, .int .i64 hh, .bool false, .int .i64 rk, .int .i64 rv, .slice pb n pc] 39)).heap.size (w.alloc (.cells #[.int .i64 th, .bool true, .int .i64 8, .int .i64 ky, .int .i64 vl, .int .i64 hh, .bool false, .int .i64 rk, .int .i64 rv, .slice pb n pc] 39)) z3) := B1.out.trans (hb3.mono B1.out.size); obtain ⟨c0, c1, c2, c3, c4, c5, c6, c7, c8, c9⟩ := box10 B3.out; clear hb3; clear q B1) | (go_at_call 26; have q := B3; refine (rpair_any _ _ HRK.out HRV.out _).mono ?_; rintro e z4 ⟨rfl, hb4⟩; have B4 : Hid (Below (w.alloc (.cells #[.int .i64 th, .bool true, .int .i64 8, .int .i64 ky, .int .i64 vl, .int .i64 hh, .bool false, .int .i64 rk, .int .i64 rv, .slice pb n pc] 39)).heap.size (w.alloc (.cells #[.int .i64 th, .bool true, .int .i64 8, .int .i64 ky, .int .i64 vl, .int .i64 hh, .bool false, .int .i64 rk, .int .i64 rv, .slice pb n pc] 39)) z4) := B3.out.trans (hb4.mono B3.out.size); obtain ⟨c0, c1, c2, c3, c4, c5, c6, c7, c8, c9⟩ := box10 B4.out; clear hb4; clear q B3))
  go_ret
  refine ⟨ret_str ?_, (below_alloc _ _).trans (B4.out.mono (by simp))⟩
  simp only [ba_app]
  simp
end Go.Proofs.YtgiblcieplnncaaGreatDoor
