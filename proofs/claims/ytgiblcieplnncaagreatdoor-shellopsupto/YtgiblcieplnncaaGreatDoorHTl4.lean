
/- Layer 28: the program's Tell. -/

import Derived.Test.YtgiblcieplnncaaGreatDoorHTl3

namespace Go.Proofs.YtgiblcieplnncaaGreatDoor

open Go.RowKit

attribute [local go_sem ↓] Go.wp_at_zero Go.wp_at_succ

theorem ret_str2 {a b : ByteArray} (h : a = b) : Ending.returned (.string a) = Ending.returned (.string b) := by rw [h]
theorem tbox10 {w z : World} {v0 v1 v2 v3 v4 v5 v6 v7 v8 v9 : Value} {t : TypeId} (h : Below (w.alloc (.cells #[v0, v1, v2, v3, v4, v5, v6, v7, v8, v9] t)).heap.size (w.alloc (.cells #[v0, v1, v2, v3, v4, v5, v6, v7, v8, v9] t)) z) : z.cell? ⟨w.heap.size, 0, none⟩ = some v0 ∧ z.cell? ⟨w.heap.size, 1, none⟩ = some v1 ∧ z.cell? ⟨w.heap.size, 2, none⟩ = some v2 ∧ z.cell? ⟨w.heap.size, 3, none⟩ = some v3 ∧ z.cell? ⟨w.heap.size, 4, none⟩ = some v4 ∧ z.cell? ⟨w.heap.size, 5, none⟩ = some v5 ∧ z.cell? ⟨w.heap.size, 6, none⟩ = some v6 ∧ z.cell? ⟨w.heap.size, 7, none⟩ = some v7 ∧ z.cell? ⟨w.heap.size, 8, none⟩ = some v8 ∧ z.cell? ⟨w.heap.size, 9, none⟩ = some v9 := by
  have hb := h.block w.heap.size (by simp)
  rw [heap_alloc_at _ _ _ rfl] at hb
  simp [World.cell?, hb]
set_option maxRecDepth 100000 in
set_option maxHeartbeats 4000000 in
theorem tell_false (th kd ky vl hh : Int) (ok : Bool) (hth : In64 th) (hin : OpIn ⟨kd, ky, vl, hh⟩) (rk rv : Int) (pb : Option Addr) (pc n : Nat) (w : World) (hl : HLB w.heap.size w) :
    Calls Tryz.prog 11 #[.agg #[.int .i64 th, .bool false, .int .i64 kd, .int .i64 ky, .int .i64 vl, .int .i64 hh, .bool ok, .int .i64 rk, .int .i64 rv, .slice pb n pc]] w fun e w' => e = .returned (.string ⟨(116 :: Lib.itoa th ++ 32 :: tellOpL ⟨kd, ky, vl, hh⟩).toArray⟩) ∧ Below w.heap.size w w' := by
  have HL : Hid (HLB _ _) := hl
  have HTH : Hid (In64 th) := hth
  have HIN : Hid (OpIn ⟨kd, ky, vl, hh⟩) := hin
  have l1 := itoa_le hth
  have l2 := tellOp_len hin
  have KA : Hid True := trivial
  have KB : Hid True := trivial
  clear hl hth hin
  have BA : Hid (Below w.heap.size w (w.alloc (.cells #[.int .i64 th, .bool false, .int .i64 kd, .int .i64 ky, .int .i64 vl, .int .i64 hh, .bool ok, .int .i64 rk, .int .i64 rv, .slice pb n pc] 39))) := below_alloc _ _
  have B0 : Hid (Below (w.alloc (.cells #[.int .i64 th, .bool false, .int .i64 kd, .int .i64 ky, .int .i64 vl, .int .i64 hh, .bool ok, .int .i64 rk, .int .i64 rv, .slice pb n pc] 39)).heap.size (w.alloc (.cells #[.int .i64 th, .bool false, .int .i64 kd, .int .i64 ky, .int .i64 vl, .int .i64 hh, .bool ok, .int .i64 rk, .int .i64 rv, .slice pb n pc] 39)) (w.alloc (.cells #[.int .i64 th, .bool false, .int .i64 kd, .int .i64 ky, .int .i64 vl, .int .i64 hh, .bool ok, .int .i64 rk, .int .i64 rv, .slice pb n pc] 39))) := Below.refl _ _
  obtain ⟨W, hW⟩ : ∃ W, tellOpL ⟨kd, ky, vl, hh⟩ = W := ⟨_, rfl⟩
  have TO : Hid (∀ V : World, HLB V.heap.size V → Calls Tryz.prog 24 #[.agg #[.int .i64 kd, .int .i64 ky, .int .i64 vl, .int .i64 hh]] V fun e w' => e = .returned (.string ⟨W.toArray⟩) ∧ Below V.heap.size V w') := fun V hV => by
    have h := tellOp_any ⟨kd, ky, vl, hh⟩ HIN.out V hV
    rw [hW] at h
    exact h
  rw [hW] at l2 ⊢
  clear hW
  have g1 : ¬ (9223372036854775807 < (116 :: Lib.itoa th).length + 1) := by simp; omega
  have g2 : ¬ (9223372036854775807 < (116 :: Lib.itoa th).length + 1 + W.length) := by simp; omega
  obtain ⟨TH, hTH⟩ : ∃ TH, TH = 116 :: Lib.itoa th := ⟨_, rfl⟩
  have TN : Hid (∀ V : World, HLB V.heap.size V → Calls Tryz.prog 23 #[.int .i64 th] V fun e w' => e = .returned (.string ⟨TH.toArray⟩) ∧ Below V.heap.size V w') := fun V hV => by
    have h := thread_any th HTH.out V hV
    rw [← hTH] at h
    exact h
  have lt : TH.length ≤ 30 := by rw [hTH]; simp; omega
  rw [← hTH] at g1 g2
  have HTT : Hid (116 :: Lib.itoa th = TH) := hTH.symm
  clear hTH l1
  go_enter Tryz.func11, Tryz.ntmps11
  go_wp2_with fail
  go_region_held3 (fun w' => w'.cell? ⟨w.heap.size, 0, none⟩ = some (.int .i64 th) ∧ w'.cell? ⟨w.heap.size, 2, none⟩ = some (.int .i64 kd) ∧ w'.cell? ⟨w.heap.size, 3, none⟩ = some (.int .i64 ky) ∧ w'.cell? ⟨w.heap.size, 4, none⟩ = some (.int .i64 vl) ∧ w'.cell? ⟨w.heap.size, 5, none⟩ = some (.int .i64 hh))
    (first | go_keep | (with_reducible exact X1.out) | (with_reducible exact X2.out) | (with_reducible exact X3.out))
    (first | (go_at_call 23; have q := KA; refine (TN.out _ (HL.out.on (by first | exact BA.out.trans (B0.out.mono (by simp)) | exact below_drewB (BA.out.trans (B0.out.mono (by simp)))))).mono ?_; rintro e z1 ⟨rfl, hb1⟩; have B1 : Hid (Below (w.alloc (.cells #[.int .i64 th, .bool false, .int .i64 kd, .int .i64 ky, .int .i64 vl, .int .i64 hh, .bool ok, .int .i64 rk, .int .i64 rv, .slice pb n pc] 39)).heap.size (w.alloc (.cells #[.int .i64 th, .bool false, .int .i64 kd, .int .i64 ky, .int .i64 vl, .int .i64 hh, .bool ok, .int .i64 rk, .int .i64 rv, .slice pb n pc] 39)) z1) := (by first | exact B0.out.trans (hb1.mono B0.out.size) | exact B0.out.trans (Below.mono ⟨hb1.os, hb1.tape, hb1.output, hb1.size, hb1.block⟩ B0.out.size)); have X1 : Hid (z1.cell? ⟨w.heap.size, 0, none⟩ = some (.int .i64 th) ∧ z1.cell? ⟨w.heap.size, 2, none⟩ = some (.int .i64 kd) ∧ z1.cell? ⟨w.heap.size, 3, none⟩ = some (.int .i64 ky) ∧ z1.cell? ⟨w.heap.size, 4, none⟩ = some (.int .i64 vl) ∧ z1.cell? ⟨w.heap.size, 5, none⟩ = some (.int .i64 hh)) := (by obtain ⟨c0, c1, c2, c3, c4, c5, c6, c7, c8, c9⟩ := tbox10 B1.out; exact ⟨c0, c2, c3, c4, c5⟩); clear q KA KB hb1) | (go_at_call 24; have q := KB; refine (TO.out _ (HL.out.on (by first | exact BA.out.trans (B0.out.mono (by simp)) | exact below_drewB (BA.out.trans (B0.out.mono (by simp)))))).mono ?_; rintro e z2 ⟨rfl, hb2⟩; have B2 : Hid (Below (w.alloc (.cells #[.int .i64 th, .bool false, .int .i64 kd, .int .i64 ky, .int .i64 vl, .int .i64 hh, .bool ok, .int .i64 rk, .int .i64 rv, .slice pb n pc] 39)).heap.size (w.alloc (.cells #[.int .i64 th, .bool false, .int .i64 kd, .int .i64 ky, .int .i64 vl, .int .i64 hh, .bool ok, .int .i64 rk, .int .i64 rv, .slice pb n pc] 39)) z2) := (by first | exact B0.out.trans (hb2.mono B0.out.size) | exact B0.out.trans (Below.mono ⟨hb2.os, hb2.tape, hb2.output, hb2.size, hb2.block⟩ B0.out.size)); have X2 : Hid (z2.cell? ⟨w.heap.size, 0, none⟩ = some (.int .i64 th) ∧ z2.cell? ⟨w.heap.size, 2, none⟩ = some (.int .i64 kd) ∧ z2.cell? ⟨w.heap.size, 3, none⟩ = some (.int .i64 ky) ∧ z2.cell? ⟨w.heap.size, 4, none⟩ = some (.int .i64 vl) ∧ z2.cell? ⟨w.heap.size, 5, none⟩ = some (.int .i64 hh)) := (by obtain ⟨c0, c1, c2, c3, c4, c5, c6, c7, c8, c9⟩ := tbox10 B2.out; exact ⟨c0, c2, c3, c4, c5⟩); clear q KA KB hb2) | (go_at_call 24; have q := B1; refine (TO.out _ (HL.out.on (by first | exact BA.out.trans (B1.out.mono (by simp)) | exact below_drewB (BA.out.trans (B1.out.mono (by simp)))))).mono ?_; rintro e z3 ⟨rfl, hb3⟩; have B3 : Hid (Below (w.alloc (.cells #[.int .i64 th, .bool false, .int .i64 kd, .int .i64 ky, .int .i64 vl, .int .i64 hh, .bool ok, .int .i64 rk, .int .i64 rv, .slice pb n pc] 39)).heap.size (w.alloc (.cells #[.int .i64 th, .bool false, .int .i64 kd, .int .i64 ky, .int .i64 vl, .int .i64 hh, .bool ok, .int .i64 rk, .int .i64 rv, .slice pb n pc] 39)) z3) := (by first | exact B1.out.trans (hb3.mono B1.out.size) | exact B1.out.trans (Below.mono ⟨hb3.os, hb3.tape, hb3.output, hb3.size, hb3.block⟩ B1.out.size)); have X3 : Hid (z3.cell? ⟨w.heap.size, 0, none⟩ = some (.int .i64 th) ∧ z3.cell? ⟨w.heap.size, 2, none⟩ = some (.int .i64 kd) ∧ z3.cell? ⟨w.heap.size, 3, none⟩ = some (.int .i64 ky) ∧ z3.cell? ⟨w.heap.size, 4, none⟩ = some (.int .i64 vl) ∧ z3.cell? ⟨w.heap.size, 5, none⟩ = some (.int .i64 hh)) := (by obtain ⟨c0, c1, c2, c3, c4, c5, c6, c7, c8, c9⟩ := tbox10 B3.out; exact ⟨c0, c2, c3, c4, c5⟩); clear q B1 hb3) | (go_at_call 23; have q := B2; refine (TN.out _ (HL.out.on (by first | exact BA.out.trans (B2.out.mono (by simp)) | exact below_drewB (BA.out.trans (B2.out.mono (by simp)))))).mono ?_; rintro e z3 ⟨rfl, hb3⟩; have B3 : Hid (Below (w.alloc (.cells #[.int .i64 th, .bool false, .int .i64 kd, .int .i64 ky, .int .i64 vl, .int .i64 hh, .bool ok, .int .i64 rk, .int .i64 rv, .slice pb n pc] 39)).heap.size (w.alloc (.cells #[.int .i64 th, .bool false, .int .i64 kd, .int .i64 ky, .int .i64 vl, .int .i64 hh, .bool ok, .int .i64 rk, .int .i64 rv, .slice pb n pc] 39)) z3) := (by first | exact B2.out.trans (hb3.mono B2.out.size) | exact B2.out.trans (Below.mono ⟨hb3.os, hb3.tape, hb3.output, hb3.size, hb3.block⟩ B2.out.size)); have X3 : Hid (z3.cell? ⟨w.heap.size, 0, none⟩ = some (.int .i64 th) ∧ z3.cell? ⟨w.heap.size, 2, none⟩ = some (.int .i64 kd) ∧ z3.cell? ⟨w.heap.size, 3, none⟩ = some (.int .i64 ky) ∧ z3.cell? ⟨w.heap.size, 4, none⟩ = some (.int .i64 vl) ∧ z3.cell? ⟨w.heap.size, 5, none⟩ = some (.int .i64 hh)) := (by obtain ⟨c0, c1, c2, c3, c4, c5, c6, c7, c8, c9⟩ := tbox10 B3.out; exact ⟨c0, c2, c3, c4, c5⟩); clear q B2 hb3))
  all_goals
    obtain ⟨c0, c1, c2, c3, c4, c5, c6, c7, c8, c9⟩ := tbox10 B3.out
    have BE : Hid (Below w.heap.size w z3) := BA.out.trans (B3.out.mono (by simp))
    go_wp2_with (fail)
    go_ret
    refine ⟨ret_str2 ?_, (by first | exact BE.out | exact BE.out.drew)⟩
    simp only [ba_app]
    rw [← HTT.out]
    simp
set_option maxRecDepth 100000 in
set_option maxHeartbeats 4000000 in
theorem tell_true (th kd ky vl hh : Int) (ok : Bool) (hth : In64 th) (hin : OpIn ⟨kd, ky, vl, hh⟩) (rk rv : Int) (pb : Option Addr) (pc n : Nat) (w : World) (hl : HLB w.heap.size w) (R : List UInt8) (hR : R.length ≤ 50000000) (hret : ∀ W : World, Below w.heap.size w W → Calls Tryz.prog 25 #[.int .i64 kd, .agg #[.bool ok, .int .i64 rk, .int .i64 rv, .slice pb n pc]] W fun e w' => e = .returned (.string ⟨R.toArray⟩) ∧ Below W.heap.size W w') :
    Calls Tryz.prog 11 #[.agg #[.int .i64 th, .bool true, .int .i64 kd, .int .i64 ky, .int .i64 vl, .int .i64 hh, .bool ok, .int .i64 rk, .int .i64 rv, .slice pb n pc]] w fun e w' => e = .returned (.string ⟨(116 :: Lib.itoa th ++ 32 :: tellOpL ⟨kd, ky, vl, hh⟩ ++ ([32, 45, 62, 32] ++ R)).toArray⟩) ∧ Below w.heap.size w w' := by
  have HL : Hid (HLB _ _) := hl
  have HTH : Hid (In64 th) := hth
  have HIN : Hid (OpIn ⟨kd, ky, vl, hh⟩) := hin
  have l1 := itoa_le hth
  have l2 := tellOp_len hin
  have KA : Hid True := trivial
  have KB : Hid True := trivial
  have HRT : Hid (∀ W : World, Below w.heap.size w W → Calls Tryz.prog 25 #[.int .i64 kd, .agg #[.bool ok, .int .i64 rk, .int .i64 rv, .slice pb n pc]] W fun e w' => e = .returned (.string ⟨R.toArray⟩) ∧ Below W.heap.size W w') := hret
  clear hret
  clear hl hth hin
  have BA : Hid (Below w.heap.size w (w.alloc (.cells #[.int .i64 th, .bool true, .int .i64 kd, .int .i64 ky, .int .i64 vl, .int .i64 hh, .bool ok, .int .i64 rk, .int .i64 rv, .slice pb n pc] 39))) := below_alloc _ _
  have B0 : Hid (Below (w.alloc (.cells #[.int .i64 th, .bool true, .int .i64 kd, .int .i64 ky, .int .i64 vl, .int .i64 hh, .bool ok, .int .i64 rk, .int .i64 rv, .slice pb n pc] 39)).heap.size (w.alloc (.cells #[.int .i64 th, .bool true, .int .i64 kd, .int .i64 ky, .int .i64 vl, .int .i64 hh, .bool ok, .int .i64 rk, .int .i64 rv, .slice pb n pc] 39)) (w.alloc (.cells #[.int .i64 th, .bool true, .int .i64 kd, .int .i64 ky, .int .i64 vl, .int .i64 hh, .bool ok, .int .i64 rk, .int .i64 rv, .slice pb n pc] 39))) := Below.refl _ _
  obtain ⟨W, hW⟩ : ∃ W, tellOpL ⟨kd, ky, vl, hh⟩ = W := ⟨_, rfl⟩
  have TO : Hid (∀ V : World, HLB V.heap.size V → Calls Tryz.prog 24 #[.agg #[.int .i64 kd, .int .i64 ky, .int .i64 vl, .int .i64 hh]] V fun e w' => e = .returned (.string ⟨W.toArray⟩) ∧ Below V.heap.size V w') := fun V hV => by
    have h := tellOp_any ⟨kd, ky, vl, hh⟩ HIN.out V hV
    rw [hW] at h
    exact h
  rw [hW] at l2 ⊢
  clear hW
  have g1 : ¬ (9223372036854775807 < (116 :: Lib.itoa th).length + 1) := by simp; omega
  have g2 : ¬ (9223372036854775807 < (116 :: Lib.itoa th).length + 1 + W.length) := by simp; omega
  obtain ⟨TH, hTH⟩ : ∃ TH, TH = 116 :: Lib.itoa th := ⟨_, rfl⟩
  have TN : Hid (∀ V : World, HLB V.heap.size V → Calls Tryz.prog 23 #[.int .i64 th] V fun e w' => e = .returned (.string ⟨TH.toArray⟩) ∧ Below V.heap.size V w') := fun V hV => by
    have h := thread_any th HTH.out V hV
    rw [← hTH] at h
    exact h
  have lt : TH.length ≤ 30 := by rw [hTH]; simp; omega
  rw [← hTH] at g1 g2
  have HTT : Hid (116 :: Lib.itoa th = TH) := hTH.symm
  clear hTH l1
  go_enter Tryz.func11, Tryz.ntmps11
  go_wp2_with fail
  go_region_held3 (fun w' => w'.cell? ⟨w.heap.size, 0, none⟩ = some (.int .i64 th) ∧ w'.cell? ⟨w.heap.size, 2, none⟩ = some (.int .i64 kd) ∧ w'.cell? ⟨w.heap.size, 3, none⟩ = some (.int .i64 ky) ∧ w'.cell? ⟨w.heap.size, 4, none⟩ = some (.int .i64 vl) ∧ w'.cell? ⟨w.heap.size, 5, none⟩ = some (.int .i64 hh))
    (first | go_keep | (with_reducible exact X1.out) | (with_reducible exact X2.out) | (with_reducible exact X3.out))
    (first | (go_at_call 23; have q := KA; refine (TN.out _ (HL.out.on (by first | exact BA.out.trans (B0.out.mono (by simp)) | exact below_drewB (BA.out.trans (B0.out.mono (by simp)))))).mono ?_; rintro e z1 ⟨rfl, hb1⟩; have B1 : Hid (Below (w.alloc (.cells #[.int .i64 th, .bool true, .int .i64 kd, .int .i64 ky, .int .i64 vl, .int .i64 hh, .bool ok, .int .i64 rk, .int .i64 rv, .slice pb n pc] 39)).heap.size (w.alloc (.cells #[.int .i64 th, .bool true, .int .i64 kd, .int .i64 ky, .int .i64 vl, .int .i64 hh, .bool ok, .int .i64 rk, .int .i64 rv, .slice pb n pc] 39)) z1) := (by first | exact B0.out.trans (hb1.mono B0.out.size) | exact B0.out.trans (Below.mono ⟨hb1.os, hb1.tape, hb1.output, hb1.size, hb1.block⟩ B0.out.size)); have X1 : Hid (z1.cell? ⟨w.heap.size, 0, none⟩ = some (.int .i64 th) ∧ z1.cell? ⟨w.heap.size, 2, none⟩ = some (.int .i64 kd) ∧ z1.cell? ⟨w.heap.size, 3, none⟩ = some (.int .i64 ky) ∧ z1.cell? ⟨w.heap.size, 4, none⟩ = some (.int .i64 vl) ∧ z1.cell? ⟨w.heap.size, 5, none⟩ = some (.int .i64 hh)) := (by obtain ⟨c0, c1, c2, c3, c4, c5, c6, c7, c8, c9⟩ := tbox10 B1.out; exact ⟨c0, c2, c3, c4, c5⟩); clear q KA KB hb1) | (go_at_call 24; have q := KB; refine (TO.out _ (HL.out.on (by first | exact BA.out.trans (B0.out.mono (by simp)) | exact below_drewB (BA.out.trans (B0.out.mono (by simp)))))).mono ?_; rintro e z2 ⟨rfl, hb2⟩; have B2 : Hid (Below (w.alloc (.cells #[.int .i64 th, .bool true, .int .i64 kd, .int .i64 ky, .int .i64 vl, .int .i64 hh, .bool ok, .int .i64 rk, .int .i64 rv, .slice pb n pc] 39)).heap.size (w.alloc (.cells #[.int .i64 th, .bool true, .int .i64 kd, .int .i64 ky, .int .i64 vl, .int .i64 hh, .bool ok, .int .i64 rk, .int .i64 rv, .slice pb n pc] 39)) z2) := (by first | exact B0.out.trans (hb2.mono B0.out.size) | exact B0.out.trans (Below.mono ⟨hb2.os, hb2.tape, hb2.output, hb2.size, hb2.block⟩ B0.out.size)); have X2 : Hid (z2.cell? ⟨w.heap.size, 0, none⟩ = some (.int .i64 th) ∧ z2.cell? ⟨w.heap.size, 2, none⟩ = some (.int .i64 kd) ∧ z2.cell? ⟨w.heap.size, 3, none⟩ = some (.int .i64 ky) ∧ z2.cell? ⟨w.heap.size, 4, none⟩ = some (.int .i64 vl) ∧ z2.cell? ⟨w.heap.size, 5, none⟩ = some (.int .i64 hh)) := (by obtain ⟨c0, c1, c2, c3, c4, c5, c6, c7, c8, c9⟩ := tbox10 B2.out; exact ⟨c0, c2, c3, c4, c5⟩); clear q KA KB hb2) | (go_at_call 24; have q := B1; refine (TO.out _ (HL.out.on (by first | exact BA.out.trans (B1.out.mono (by simp)) | exact below_drewB (BA.out.trans (B1.out.mono (by simp)))))).mono ?_; rintro e z3 ⟨rfl, hb3⟩; have B3 : Hid (Below (w.alloc (.cells #[.int .i64 th, .bool true, .int .i64 kd, .int .i64 ky, .int .i64 vl, .int .i64 hh, .bool ok, .int .i64 rk, .int .i64 rv, .slice pb n pc] 39)).heap.size (w.alloc (.cells #[.int .i64 th, .bool true, .int .i64 kd, .int .i64 ky, .int .i64 vl, .int .i64 hh, .bool ok, .int .i64 rk, .int .i64 rv, .slice pb n pc] 39)) z3) := (by first | exact B1.out.trans (hb3.mono B1.out.size) | exact B1.out.trans (Below.mono ⟨hb3.os, hb3.tape, hb3.output, hb3.size, hb3.block⟩ B1.out.size)); have X3 : Hid (z3.cell? ⟨w.heap.size, 0, none⟩ = some (.int .i64 th) ∧ z3.cell? ⟨w.heap.size, 2, none⟩ = some (.int .i64 kd) ∧ z3.cell? ⟨w.heap.size, 3, none⟩ = some (.int .i64 ky) ∧ z3.cell? ⟨w.heap.size, 4, none⟩ = some (.int .i64 vl) ∧ z3.cell? ⟨w.heap.size, 5, none⟩ = some (.int .i64 hh)) := (by obtain ⟨c0, c1, c2, c3, c4, c5, c6, c7, c8, c9⟩ := tbox10 B3.out; exact ⟨c0, c2, c3, c4, c5⟩); clear q B1 hb3) | (go_at_call 23; have q := B2; refine (TN.out _ (HL.out.on (by first | exact BA.out.trans (B2.out.mono (by simp)) | exact below_drewB (BA.out.trans (B2.out.mono (by simp)))))).mono ?_; rintro e z3 ⟨rfl, hb3⟩; have B3 : Hid (Below (w.alloc (.cells #[.int .i64 th, .bool true, .int .i64 kd, .int .i64 ky, .int .i64 vl, .int .i64 hh, .bool ok, .int .i64 rk, .int .i64 rv, .slice pb n pc] 39)).heap.size (w.alloc (.cells #[.int .i64 th, .bool true, .int .i64 kd, .int .i64 ky, .int .i64 vl, .int .i64 hh, .bool ok, .int .i64 rk, .int .i64 rv, .slice pb n pc] 39)) z3) := (by first | exact B2.out.trans (hb3.mono B2.out.size) | exact B2.out.trans (Below.mono ⟨hb3.os, hb3.tape, hb3.output, hb3.size, hb3.block⟩ B2.out.size)); have X3 : Hid (z3.cell? ⟨w.heap.size, 0, none⟩ = some (.int .i64 th) ∧ z3.cell? ⟨w.heap.size, 2, none⟩ = some (.int .i64 kd) ∧ z3.cell? ⟨w.heap.size, 3, none⟩ = some (.int .i64 ky) ∧ z3.cell? ⟨w.heap.size, 4, none⟩ = some (.int .i64 vl) ∧ z3.cell? ⟨w.heap.size, 5, none⟩ = some (.int .i64 hh)) := (by obtain ⟨c0, c1, c2, c3, c4, c5, c6, c7, c8, c9⟩ := tbox10 B3.out; exact ⟨c0, c2, c3, c4, c5⟩); clear q B2 hb3))
  all_goals
    obtain ⟨c0, c1, c2, c3, c4, c5, c6, c7, c8, c9⟩ := tbox10 B3.out
    have BE : Hid (Below w.heap.size w z3) := BA.out.trans (B3.out.mono (by simp))
    go_wp2_with ((go_at_call 25; refine (HRT.out _ (by first | exact BE.out | exact BE.out.drew)).mono ?_; rintro e z5 ⟨rfl, hb5⟩; have B5 : Hid (Below w.heap.size w z5) := (by first | exact BE.out.trans (hb5.mono BE.out.size) | exact BE.out.trans (Below.mono ⟨hb5.os, hb5.tape, hb5.output, hb5.size, hb5.block⟩ BE.out.size)); clear hb5))
    go_ret
    refine ⟨ret_str2 ?_, (by first | exact B5.out | exact B5.out.drew)⟩
    simp only [ba_app]
    rw [← HTT.out]
    simp
end Go.Proofs.YtgiblcieplnncaaGreatDoor
