/- Layer 28: the closed facts of the row of ShellParses, each by itself (all together they pass the memory lid). Layer 28: the program's Tell. Layer 28: the document's Tell. Layer 28: the document's Tell of a Range, and of every other kind. Layer 28: Tell, the program's and the document's; the fixed lines. Layer 28: the law ShellTells. Layer 28: the law's samePairs and same, of one game in rows of two owners. Layer 28: the law ShellParses. Layer 28: an event that is read as data: its numbers fit, its pairs are at most so many as the bound says; the variables, as the rows list them. Layer 28: a row that says 'leaving' out of one that says 'alone'; a tied card that goes; an array of strings that reads as laid; the variables' numbers. -/
import Derived.Test.YtknlapipkglnjaaGreatDoorHTl3
import Derived.Test.YtknlapipkglnjaaGreatDoorHRf1
import Derived.Test.YtknlapipkglnjaaGreatDoorHQp
import Derived.BigQuiet
import Derived.Test.YtknlapipkglnjaaGreatDoorTie
import Derived.Test.YtknlapipkglnjaaGreatDoorCards
import Derived.ProofKit
import Derived.OpenShut
import Derived.Deep.Slices
import Derived.Deep.Strs
import Derived.Lib.SmallJoins
import Derived.LaidMore
import Derived.Lay
import Derived.SevenTiedAt
import Derived.Stop.Joined
import Derived.Stop.LaidErr
import Derived.Lib.LaidTab
import Derived.MakeChecks
import Derived.Deep.DeepHandedRow
import Derived.Conc.Holds
import Derived.JoinedCond
import Derived.KernelRfl

namespace Go.Proofs.YtknlapipkglnjaaGreatDoor

open Go.RowKit

attribute [local go_sem ↓] Go.wp_at_zero Go.wp_at_succ

theorem ret_str2 {a b : ByteArray} (h : a = b) : Ending.returned (.string a) = Ending.returned (.string b) := by rw [h]
theorem tbox10 {w z : World} {v0 v1 v2 v3 v4 v5 v6 v7 v8 v9 : Value} {t : TypeId} (h : Below (w.alloc (.cells #[v0, v1, v2, v3, v4, v5, v6, v7, v8, v9] t)).heap.size (w.alloc (.cells #[v0, v1, v2, v3, v4, v5, v6, v7, v8, v9] t)) z) : z.cell? ⟨w.heap.size, 0, none⟩ = some v0 ∧ z.cell? ⟨w.heap.size, 1, none⟩ = some v1 ∧ z.cell? ⟨w.heap.size, 2, none⟩ = some v2 ∧ z.cell? ⟨w.heap.size, 3, none⟩ = some v3 ∧ z.cell? ⟨w.heap.size, 4, none⟩ = some v4 ∧ z.cell? ⟨w.heap.size, 5, none⟩ = some v5 ∧ z.cell? ⟨w.heap.size, 6, none⟩ = some v6 ∧ z.cell? ⟨w.heap.size, 7, none⟩ = some v7 ∧ z.cell? ⟨w.heap.size, 8, none⟩ = some v8 ∧ z.cell? ⟨w.heap.size, 9, none⟩ = some v9 := by
  have hb := h.block w.heap.size (by simp)
  rw [heap_alloc_at _ _ _ rfl] at hb
  simp [World.cell?, hb]
set_option maxRecDepth 100000 in
set_option maxHeartbeats 4000000 in
theorem tell_false (th kd ky vl hh : Int) (ok : Bool) (hth : In64 th) (hin : OpIn ⟨kd, ky, vl, hh⟩) (rk rv : Int) (pb : Option Addr) (pc n : Nat) (w : World) (hl : HLB w.heap.size w) :
    Calls Tryz.prog 15 #[.agg #[.int .i64 th, .bool false, .int .i64 kd, .int .i64 ky, .int .i64 vl, .int .i64 hh, .bool ok, .int .i64 rk, .int .i64 rv, .slice pb n pc]] w fun e w' => e = .returned (.string ⟨(116 :: Lib.itoa th ++ 32 :: tellOpL ⟨kd, ky, vl, hh⟩).toArray⟩) ∧ Below w.heap.size w w' := by
  have HL : Hid (HLB _ _) := hl
  have HTH : Hid (In64 th) := hth
  have HIN : Hid (OpIn ⟨kd, ky, vl, hh⟩) := hin
  have l1 := itoa_le hth
  have l2 := tellOp_len hin
  have KA : Hid True := trivial
  have KB : Hid True := trivial
  clear hl hth hin
  have BA : Hid (Below w.heap.size w (w.alloc (.cells #[.int .i64 th, .bool false, .int .i64 kd, .int .i64 ky, .int .i64 vl, .int .i64 hh, .bool ok, .int .i64 rk, .int .i64 rv, .slice pb n pc] 53))) := below_alloc _ _
  have B0 : Hid (Below (w.alloc (.cells #[.int .i64 th, .bool false, .int .i64 kd, .int .i64 ky, .int .i64 vl, .int .i64 hh, .bool ok, .int .i64 rk, .int .i64 rv, .slice pb n pc] 53)).heap.size (w.alloc (.cells #[.int .i64 th, .bool false, .int .i64 kd, .int .i64 ky, .int .i64 vl, .int .i64 hh, .bool ok, .int .i64 rk, .int .i64 rv, .slice pb n pc] 53)) (w.alloc (.cells #[.int .i64 th, .bool false, .int .i64 kd, .int .i64 ky, .int .i64 vl, .int .i64 hh, .bool ok, .int .i64 rk, .int .i64 rv, .slice pb n pc] 53))) := Below.refl _ _
  obtain ⟨W, hW⟩ : ∃ W, tellOpL ⟨kd, ky, vl, hh⟩ = W := ⟨_, rfl⟩
  have TO : Hid (∀ V : World, HLB V.heap.size V → Calls Tryz.prog 40 #[.agg #[.int .i64 kd, .int .i64 ky, .int .i64 vl, .int .i64 hh]] V fun e w' => e = .returned (.string ⟨W.toArray⟩) ∧ Below V.heap.size V w') := fun V hV => by
    have h := tellOp_any ⟨kd, ky, vl, hh⟩ HIN.out V hV
    rw [hW] at h
    exact h
  rw [hW] at l2 ⊢
  clear hW
  have g1 : ¬ (9223372036854775807 < (116 :: Lib.itoa th).length + 1) := by simp; omega
  have g2 : ¬ (9223372036854775807 < (116 :: Lib.itoa th).length + 1 + W.length) := by simp; omega
  obtain ⟨TH, hTH⟩ : ∃ TH, TH = 116 :: Lib.itoa th := ⟨_, rfl⟩
  have TN : Hid (∀ V : World, HLB V.heap.size V → Calls Tryz.prog 36 #[.int .i64 th] V fun e w' => e = .returned (.string ⟨TH.toArray⟩) ∧ Below V.heap.size V w') := fun V hV => by
    have h := thread_any th HTH.out V hV
    rw [← hTH] at h
    exact h
  have lt : TH.length ≤ 30 := by rw [hTH]; simp; omega
  rw [← hTH] at g1 g2
  have HTT : Hid (116 :: Lib.itoa th = TH) := hTH.symm
  clear hTH l1
  go_enter Tryz.func15, Tryz.ntmps15
  go_wp2_with fail
  go_region_held3 (fun w' => w'.cell? ⟨w.heap.size, 0, none⟩ = some (.int .i64 th) ∧ w'.cell? ⟨w.heap.size, 2, none⟩ = some (.int .i64 kd) ∧ w'.cell? ⟨w.heap.size, 3, none⟩ = some (.int .i64 ky) ∧ w'.cell? ⟨w.heap.size, 4, none⟩ = some (.int .i64 vl) ∧ w'.cell? ⟨w.heap.size, 5, none⟩ = some (.int .i64 hh))
    (first | go_keep | (with_reducible exact X1.out) | (with_reducible exact X2.out) | (with_reducible exact X3.out))
    (first | (go_at_call 36; have q := KA; refine (TN.out _ (HL.out.on (by first | exact BA.out.trans (B0.out.mono (by simp)) | exact below_drewB (BA.out.trans (B0.out.mono (by simp)))))).mono ?_; rintro e z1 ⟨rfl, hb1⟩; have B1 : Hid (Below (w.alloc (.cells #[.int .i64 th, .bool false, .int .i64 kd, .int .i64 ky, .int .i64 vl, .int .i64 hh, .bool ok, .int .i64 rk, .int .i64 rv, .slice pb n pc] 53)).heap.size (w.alloc (.cells #[.int .i64 th, .bool false, .int .i64 kd, .int .i64 ky, .int .i64 vl, .int .i64 hh, .bool ok, .int .i64 rk, .int .i64 rv, .slice pb n pc] 53)) z1) := (by first | exact B0.out.trans (hb1.mono B0.out.size) | exact B0.out.trans (Below.mono ⟨hb1.os, hb1.tape, hb1.output, hb1.size, hb1.block⟩ B0.out.size)); have X1 : Hid (z1.cell? ⟨w.heap.size, 0, none⟩ = some (.int .i64 th) ∧ z1.cell? ⟨w.heap.size, 2, none⟩ = some (.int .i64 kd) ∧ z1.cell? ⟨w.heap.size, 3, none⟩ = some (.int .i64 ky) ∧ z1.cell? ⟨w.heap.size, 4, none⟩ = some (.int .i64 vl) ∧ z1.cell? ⟨w.heap.size, 5, none⟩ = some (.int .i64 hh)) := (by obtain ⟨c0, c1, c2, c3, c4, c5, c6, c7, c8, c9⟩ := tbox10 B1.out; exact ⟨c0, c2, c3, c4, c5⟩); clear q KA KB hb1) | (go_at_call 40; have q := KB; refine (TO.out _ (HL.out.on (by first | exact BA.out.trans (B0.out.mono (by simp)) | exact below_drewB (BA.out.trans (B0.out.mono (by simp)))))).mono ?_; rintro e z2 ⟨rfl, hb2⟩; have B2 : Hid (Below (w.alloc (.cells #[.int .i64 th, .bool false, .int .i64 kd, .int .i64 ky, .int .i64 vl, .int .i64 hh, .bool ok, .int .i64 rk, .int .i64 rv, .slice pb n pc] 53)).heap.size (w.alloc (.cells #[.int .i64 th, .bool false, .int .i64 kd, .int .i64 ky, .int .i64 vl, .int .i64 hh, .bool ok, .int .i64 rk, .int .i64 rv, .slice pb n pc] 53)) z2) := (by first | exact B0.out.trans (hb2.mono B0.out.size) | exact B0.out.trans (Below.mono ⟨hb2.os, hb2.tape, hb2.output, hb2.size, hb2.block⟩ B0.out.size)); have X2 : Hid (z2.cell? ⟨w.heap.size, 0, none⟩ = some (.int .i64 th) ∧ z2.cell? ⟨w.heap.size, 2, none⟩ = some (.int .i64 kd) ∧ z2.cell? ⟨w.heap.size, 3, none⟩ = some (.int .i64 ky) ∧ z2.cell? ⟨w.heap.size, 4, none⟩ = some (.int .i64 vl) ∧ z2.cell? ⟨w.heap.size, 5, none⟩ = some (.int .i64 hh)) := (by obtain ⟨c0, c1, c2, c3, c4, c5, c6, c7, c8, c9⟩ := tbox10 B2.out; exact ⟨c0, c2, c3, c4, c5⟩); clear q KA KB hb2) | (go_at_call 40; have q := B1; refine (TO.out _ (HL.out.on (by first | exact BA.out.trans (B1.out.mono (by simp)) | exact below_drewB (BA.out.trans (B1.out.mono (by simp)))))).mono ?_; rintro e z3 ⟨rfl, hb3⟩; have B3 : Hid (Below (w.alloc (.cells #[.int .i64 th, .bool false, .int .i64 kd, .int .i64 ky, .int .i64 vl, .int .i64 hh, .bool ok, .int .i64 rk, .int .i64 rv, .slice pb n pc] 53)).heap.size (w.alloc (.cells #[.int .i64 th, .bool false, .int .i64 kd, .int .i64 ky, .int .i64 vl, .int .i64 hh, .bool ok, .int .i64 rk, .int .i64 rv, .slice pb n pc] 53)) z3) := (by first | exact B1.out.trans (hb3.mono B1.out.size) | exact B1.out.trans (Below.mono ⟨hb3.os, hb3.tape, hb3.output, hb3.size, hb3.block⟩ B1.out.size)); have X3 : Hid (z3.cell? ⟨w.heap.size, 0, none⟩ = some (.int .i64 th) ∧ z3.cell? ⟨w.heap.size, 2, none⟩ = some (.int .i64 kd) ∧ z3.cell? ⟨w.heap.size, 3, none⟩ = some (.int .i64 ky) ∧ z3.cell? ⟨w.heap.size, 4, none⟩ = some (.int .i64 vl) ∧ z3.cell? ⟨w.heap.size, 5, none⟩ = some (.int .i64 hh)) := (by obtain ⟨c0, c1, c2, c3, c4, c5, c6, c7, c8, c9⟩ := tbox10 B3.out; exact ⟨c0, c2, c3, c4, c5⟩); clear q B1 hb3) | (go_at_call 36; have q := B2; refine (TN.out _ (HL.out.on (by first | exact BA.out.trans (B2.out.mono (by simp)) | exact below_drewB (BA.out.trans (B2.out.mono (by simp)))))).mono ?_; rintro e z3 ⟨rfl, hb3⟩; have B3 : Hid (Below (w.alloc (.cells #[.int .i64 th, .bool false, .int .i64 kd, .int .i64 ky, .int .i64 vl, .int .i64 hh, .bool ok, .int .i64 rk, .int .i64 rv, .slice pb n pc] 53)).heap.size (w.alloc (.cells #[.int .i64 th, .bool false, .int .i64 kd, .int .i64 ky, .int .i64 vl, .int .i64 hh, .bool ok, .int .i64 rk, .int .i64 rv, .slice pb n pc] 53)) z3) := (by first | exact B2.out.trans (hb3.mono B2.out.size) | exact B2.out.trans (Below.mono ⟨hb3.os, hb3.tape, hb3.output, hb3.size, hb3.block⟩ B2.out.size)); have X3 : Hid (z3.cell? ⟨w.heap.size, 0, none⟩ = some (.int .i64 th) ∧ z3.cell? ⟨w.heap.size, 2, none⟩ = some (.int .i64 kd) ∧ z3.cell? ⟨w.heap.size, 3, none⟩ = some (.int .i64 ky) ∧ z3.cell? ⟨w.heap.size, 4, none⟩ = some (.int .i64 vl) ∧ z3.cell? ⟨w.heap.size, 5, none⟩ = some (.int .i64 hh)) := (by obtain ⟨c0, c1, c2, c3, c4, c5, c6, c7, c8, c9⟩ := tbox10 B3.out; exact ⟨c0, c2, c3, c4, c5⟩); clear q B2 hb3))
  all_goals
    obtain ⟨c0, c1, c2, c3, c4, c5, c6, c7, c8, c9⟩ := tbox10 B3.out
    have BE : Hid (Below w.heap.size w z3) := BA.out.trans (B3.out.mono (by simp))
    go_wp2_with (fail)
    go_ret
    refine ⟨ret_str2 ?_, (by first | exact BE.out | exact BE.out.drew)⟩
    simp only [ba_app]
    rw [← HTT.out]
    simp
set_option maxRecDepth 100000 in
set_option maxHeartbeats 4000000 in
theorem tell_true (th kd ky vl hh : Int) (ok : Bool) (hth : In64 th) (hin : OpIn ⟨kd, ky, vl, hh⟩) (rk rv : Int) (pb : Option Addr) (pc n : Nat) (w : World) (hl : HLB w.heap.size w) (R : List UInt8) (hR : R.length ≤ 50000000) (hret : ∀ W : World, Below w.heap.size w W → Calls Tryz.prog 41 #[.int .i64 kd, .agg #[.bool ok, .int .i64 rk, .int .i64 rv, .slice pb n pc]] W fun e w' => e = .returned (.string ⟨R.toArray⟩) ∧ Below W.heap.size W w') :
    Calls Tryz.prog 15 #[.agg #[.int .i64 th, .bool true, .int .i64 kd, .int .i64 ky, .int .i64 vl, .int .i64 hh, .bool ok, .int .i64 rk, .int .i64 rv, .slice pb n pc]] w fun e w' => e = .returned (.string ⟨(116 :: Lib.itoa th ++ 32 :: tellOpL ⟨kd, ky, vl, hh⟩ ++ ([32, 45, 62, 32] ++ R)).toArray⟩) ∧ Below w.heap.size w w' := by
  have HL : Hid (HLB _ _) := hl
  have HTH : Hid (In64 th) := hth
  have HIN : Hid (OpIn ⟨kd, ky, vl, hh⟩) := hin
  have l1 := itoa_le hth
  have l2 := tellOp_len hin
  have KA : Hid True := trivial
  have KB : Hid True := trivial
  have HRT : Hid (∀ W : World, Below w.heap.size w W → Calls Tryz.prog 41 #[.int .i64 kd, .agg #[.bool ok, .int .i64 rk, .int .i64 rv, .slice pb n pc]] W fun e w' => e = .returned (.string ⟨R.toArray⟩) ∧ Below W.heap.size W w') := hret
  clear hret
  clear hl hth hin
  have BA : Hid (Below w.heap.size w (w.alloc (.cells #[.int .i64 th, .bool true, .int .i64 kd, .int .i64 ky, .int .i64 vl, .int .i64 hh, .bool ok, .int .i64 rk, .int .i64 rv, .slice pb n pc] 53))) := below_alloc _ _
  have B0 : Hid (Below (w.alloc (.cells #[.int .i64 th, .bool true, .int .i64 kd, .int .i64 ky, .int .i64 vl, .int .i64 hh, .bool ok, .int .i64 rk, .int .i64 rv, .slice pb n pc] 53)).heap.size (w.alloc (.cells #[.int .i64 th, .bool true, .int .i64 kd, .int .i64 ky, .int .i64 vl, .int .i64 hh, .bool ok, .int .i64 rk, .int .i64 rv, .slice pb n pc] 53)) (w.alloc (.cells #[.int .i64 th, .bool true, .int .i64 kd, .int .i64 ky, .int .i64 vl, .int .i64 hh, .bool ok, .int .i64 rk, .int .i64 rv, .slice pb n pc] 53))) := Below.refl _ _
  obtain ⟨W, hW⟩ : ∃ W, tellOpL ⟨kd, ky, vl, hh⟩ = W := ⟨_, rfl⟩
  have TO : Hid (∀ V : World, HLB V.heap.size V → Calls Tryz.prog 40 #[.agg #[.int .i64 kd, .int .i64 ky, .int .i64 vl, .int .i64 hh]] V fun e w' => e = .returned (.string ⟨W.toArray⟩) ∧ Below V.heap.size V w') := fun V hV => by
    have h := tellOp_any ⟨kd, ky, vl, hh⟩ HIN.out V hV
    rw [hW] at h
    exact h
  rw [hW] at l2 ⊢
  clear hW
  have g1 : ¬ (9223372036854775807 < (116 :: Lib.itoa th).length + 1) := by simp; omega
  have g2 : ¬ (9223372036854775807 < (116 :: Lib.itoa th).length + 1 + W.length) := by simp; omega
  obtain ⟨TH, hTH⟩ : ∃ TH, TH = 116 :: Lib.itoa th := ⟨_, rfl⟩
  have TN : Hid (∀ V : World, HLB V.heap.size V → Calls Tryz.prog 36 #[.int .i64 th] V fun e w' => e = .returned (.string ⟨TH.toArray⟩) ∧ Below V.heap.size V w') := fun V hV => by
    have h := thread_any th HTH.out V hV
    rw [← hTH] at h
    exact h
  have lt : TH.length ≤ 30 := by rw [hTH]; simp; omega
  rw [← hTH] at g1 g2
  have HTT : Hid (116 :: Lib.itoa th = TH) := hTH.symm
  clear hTH l1
  go_enter Tryz.func15, Tryz.ntmps15
  go_wp2_with fail
  go_region_held3 (fun w' => w'.cell? ⟨w.heap.size, 0, none⟩ = some (.int .i64 th) ∧ w'.cell? ⟨w.heap.size, 2, none⟩ = some (.int .i64 kd) ∧ w'.cell? ⟨w.heap.size, 3, none⟩ = some (.int .i64 ky) ∧ w'.cell? ⟨w.heap.size, 4, none⟩ = some (.int .i64 vl) ∧ w'.cell? ⟨w.heap.size, 5, none⟩ = some (.int .i64 hh))
    (first | go_keep | (with_reducible exact X1.out) | (with_reducible exact X2.out) | (with_reducible exact X3.out))
    (first | (go_at_call 36; have q := KA; refine (TN.out _ (HL.out.on (by first | exact BA.out.trans (B0.out.mono (by simp)) | exact below_drewB (BA.out.trans (B0.out.mono (by simp)))))).mono ?_; rintro e z1 ⟨rfl, hb1⟩; have B1 : Hid (Below (w.alloc (.cells #[.int .i64 th, .bool true, .int .i64 kd, .int .i64 ky, .int .i64 vl, .int .i64 hh, .bool ok, .int .i64 rk, .int .i64 rv, .slice pb n pc] 53)).heap.size (w.alloc (.cells #[.int .i64 th, .bool true, .int .i64 kd, .int .i64 ky, .int .i64 vl, .int .i64 hh, .bool ok, .int .i64 rk, .int .i64 rv, .slice pb n pc] 53)) z1) := (by first | exact B0.out.trans (hb1.mono B0.out.size) | exact B0.out.trans (Below.mono ⟨hb1.os, hb1.tape, hb1.output, hb1.size, hb1.block⟩ B0.out.size)); have X1 : Hid (z1.cell? ⟨w.heap.size, 0, none⟩ = some (.int .i64 th) ∧ z1.cell? ⟨w.heap.size, 2, none⟩ = some (.int .i64 kd) ∧ z1.cell? ⟨w.heap.size, 3, none⟩ = some (.int .i64 ky) ∧ z1.cell? ⟨w.heap.size, 4, none⟩ = some (.int .i64 vl) ∧ z1.cell? ⟨w.heap.size, 5, none⟩ = some (.int .i64 hh)) := (by obtain ⟨c0, c1, c2, c3, c4, c5, c6, c7, c8, c9⟩ := tbox10 B1.out; exact ⟨c0, c2, c3, c4, c5⟩); clear q KA KB hb1) | (go_at_call 40; have q := KB; refine (TO.out _ (HL.out.on (by first | exact BA.out.trans (B0.out.mono (by simp)) | exact below_drewB (BA.out.trans (B0.out.mono (by simp)))))).mono ?_; rintro e z2 ⟨rfl, hb2⟩; have B2 : Hid (Below (w.alloc (.cells #[.int .i64 th, .bool true, .int .i64 kd, .int .i64 ky, .int .i64 vl, .int .i64 hh, .bool ok, .int .i64 rk, .int .i64 rv, .slice pb n pc] 53)).heap.size (w.alloc (.cells #[.int .i64 th, .bool true, .int .i64 kd, .int .i64 ky, .int .i64 vl, .int .i64 hh, .bool ok, .int .i64 rk, .int .i64 rv, .slice pb n pc] 53)) z2) := (by first | exact B0.out.trans (hb2.mono B0.out.size) | exact B0.out.trans (Below.mono ⟨hb2.os, hb2.tape, hb2.output, hb2.size, hb2.block⟩ B0.out.size)); have X2 : Hid (z2.cell? ⟨w.heap.size, 0, none⟩ = some (.int .i64 th) ∧ z2.cell? ⟨w.heap.size, 2, none⟩ = some (.int .i64 kd) ∧ z2.cell? ⟨w.heap.size, 3, none⟩ = some (.int .i64 ky) ∧ z2.cell? ⟨w.heap.size, 4, none⟩ = some (.int .i64 vl) ∧ z2.cell? ⟨w.heap.size, 5, none⟩ = some (.int .i64 hh)) := (by obtain ⟨c0, c1, c2, c3, c4, c5, c6, c7, c8, c9⟩ := tbox10 B2.out; exact ⟨c0, c2, c3, c4, c5⟩); clear q KA KB hb2) | (go_at_call 40; have q := B1; refine (TO.out _ (HL.out.on (by first | exact BA.out.trans (B1.out.mono (by simp)) | exact below_drewB (BA.out.trans (B1.out.mono (by simp)))))).mono ?_; rintro e z3 ⟨rfl, hb3⟩; have B3 : Hid (Below (w.alloc (.cells #[.int .i64 th, .bool true, .int .i64 kd, .int .i64 ky, .int .i64 vl, .int .i64 hh, .bool ok, .int .i64 rk, .int .i64 rv, .slice pb n pc] 53)).heap.size (w.alloc (.cells #[.int .i64 th, .bool true, .int .i64 kd, .int .i64 ky, .int .i64 vl, .int .i64 hh, .bool ok, .int .i64 rk, .int .i64 rv, .slice pb n pc] 53)) z3) := (by first | exact B1.out.trans (hb3.mono B1.out.size) | exact B1.out.trans (Below.mono ⟨hb3.os, hb3.tape, hb3.output, hb3.size, hb3.block⟩ B1.out.size)); have X3 : Hid (z3.cell? ⟨w.heap.size, 0, none⟩ = some (.int .i64 th) ∧ z3.cell? ⟨w.heap.size, 2, none⟩ = some (.int .i64 kd) ∧ z3.cell? ⟨w.heap.size, 3, none⟩ = some (.int .i64 ky) ∧ z3.cell? ⟨w.heap.size, 4, none⟩ = some (.int .i64 vl) ∧ z3.cell? ⟨w.heap.size, 5, none⟩ = some (.int .i64 hh)) := (by obtain ⟨c0, c1, c2, c3, c4, c5, c6, c7, c8, c9⟩ := tbox10 B3.out; exact ⟨c0, c2, c3, c4, c5⟩); clear q B1 hb3) | (go_at_call 36; have q := B2; refine (TN.out _ (HL.out.on (by first | exact BA.out.trans (B2.out.mono (by simp)) | exact below_drewB (BA.out.trans (B2.out.mono (by simp)))))).mono ?_; rintro e z3 ⟨rfl, hb3⟩; have B3 : Hid (Below (w.alloc (.cells #[.int .i64 th, .bool true, .int .i64 kd, .int .i64 ky, .int .i64 vl, .int .i64 hh, .bool ok, .int .i64 rk, .int .i64 rv, .slice pb n pc] 53)).heap.size (w.alloc (.cells #[.int .i64 th, .bool true, .int .i64 kd, .int .i64 ky, .int .i64 vl, .int .i64 hh, .bool ok, .int .i64 rk, .int .i64 rv, .slice pb n pc] 53)) z3) := (by first | exact B2.out.trans (hb3.mono B2.out.size) | exact B2.out.trans (Below.mono ⟨hb3.os, hb3.tape, hb3.output, hb3.size, hb3.block⟩ B2.out.size)); have X3 : Hid (z3.cell? ⟨w.heap.size, 0, none⟩ = some (.int .i64 th) ∧ z3.cell? ⟨w.heap.size, 2, none⟩ = some (.int .i64 kd) ∧ z3.cell? ⟨w.heap.size, 3, none⟩ = some (.int .i64 ky) ∧ z3.cell? ⟨w.heap.size, 4, none⟩ = some (.int .i64 vl) ∧ z3.cell? ⟨w.heap.size, 5, none⟩ = some (.int .i64 hh)) := (by obtain ⟨c0, c1, c2, c3, c4, c5, c6, c7, c8, c9⟩ := tbox10 B3.out; exact ⟨c0, c2, c3, c4, c5⟩); clear q B2 hb3))
  all_goals
    obtain ⟨c0, c1, c2, c3, c4, c5, c6, c7, c8, c9⟩ := tbox10 B3.out
    have BE : Hid (Below w.heap.size w z3) := BA.out.trans (B3.out.mono (by simp))
    go_wp2_with ((go_at_call 41; refine (HRT.out _ (by first | exact BE.out | exact BE.out.drew)).mono ?_; rintro e z5 ⟨rfl, hb5⟩; have B5 : Hid (Below w.heap.size w z5) := (by first | exact BE.out.trans (hb5.mono BE.out.size) | exact BE.out.trans (Below.mono ⟨hb5.os, hb5.tape, hb5.output, hb5.size, hb5.block⟩ BE.out.size)); clear hb5))
    go_ret
    refine ⟨ret_str2 ?_, (by first | exact B5.out | exact B5.out.drew)⟩
    simp only [ba_app]
    rw [← HTT.out]
    simp
end Go.Proofs.YtknlapipkglnjaaGreatDoor

namespace Go.Proofs.YtknlapipkglnjaaGreatDoor

open Go.RowKit

attribute [local go_sem ↓] Go.wp_at_zero Go.wp_at_succ

theorem box10 {w z : World} {v0 v1 v2 v3 v4 v5 v6 v7 v8 v9 : Value} {t : TypeId} (h : Below (w.alloc (.cells #[v0, v1, v2, v3, v4, v5, v6, v7, v8, v9] t)).heap.size (w.alloc (.cells #[v0, v1, v2, v3, v4, v5, v6, v7, v8, v9] t)) z) : z.cell? ⟨w.heap.size, 0, none⟩ = some v0 ∧ z.cell? ⟨w.heap.size, 1, none⟩ = some v1 ∧ z.cell? ⟨w.heap.size, 2, none⟩ = some v2 ∧ z.cell? ⟨w.heap.size, 3, none⟩ = some v3 ∧ z.cell? ⟨w.heap.size, 4, none⟩ = some v4 ∧ z.cell? ⟨w.heap.size, 5, none⟩ = some v5 ∧ z.cell? ⟨w.heap.size, 6, none⟩ = some v6 ∧ z.cell? ⟨w.heap.size, 7, none⟩ = some v7 ∧ z.cell? ⟨w.heap.size, 8, none⟩ = some v8 ∧ z.cell? ⟨w.heap.size, 9, none⟩ = some v9 := by
  have hb := h.block w.heap.size (by simp)
  rw [heap_alloc_at _ _ _ rfl] at hb
  simp [World.cell?, hb]
end Go.Proofs.YtknlapipkglnjaaGreatDoor

namespace Go.Proofs.YtknlapipkglnjaaGreatDoor

open Go.RowKit

attribute [local go_sem ↓] Go.wp_at_zero Go.wp_at_succ
end Go.Proofs.YtknlapipkglnjaaGreatDoor



namespace Go.Proofs.YtknlapipkglnjaaGreatDoor

open Go.RowKit

attribute [local go_sem ↓] Go.wp_at_zero Go.wp_at_succ

def RetIn (r : RetD) : Prop := In64 r.key ∧ In64 r.val ∧ ∀ i, i < r.pairs.length → In64 (keyAt r.pairs i) ∧ In64 (valAt r.pairs i)
theorem pairs_len {ps : PL} (h : ∀ i, i < ps.length → In64 (keyAt ps i) ∧ In64 (valAt ps i)) : (blkL (ps.map pairT)).length ≤ 44 * ps.length := by
  have h1 := blkL_len (ps.map pairT) (fun x hx => by
    obtain ⟨p, hp, rfl⟩ := List.mem_map.1 hx
    obtain ⟨i, hi, rfl⟩ := List.mem_iff_getElem.1 hp
    have := h i hi
    simp only [keyAt, valAt, List.getD_eq_getElem?_getD, List.getElem?_eq_getElem hi, Option.getD_some] at this
    exact pairT_len this.1 this.2)
  simpa using h1
theorem retL_len {k : Int} {r : RetD} (h : RetIn r) (hn : r.pairs.length ≤ 1048576) : (yesL r.ok ++ blkL (retL k r)).length ≤ 50000000 := by
  have h1 := yes_len r.ok
  have h2 := itoa_le h.2.1
  have h3 := pairT_len (p := (r.key, r.val)) h.1 h.2.1
  have h4 := pairs_len h.2.2
  unfold retL
  split
  · simp [blkL]; omega
  · split
    · simp [blkL]; omega
    · rw [List.length_append]; omega
theorem tell_any (th : Int) (ret : Bool) (o : OpD) (r : RetD) (pb : Option Addr) (pc pg po : Nat) (w : World) (hth : In64 th) (hin : OpIn o) (hr : RetIn r) (hp : PairsAt w pb pg po r.pairs) (hnl : r.pairs.length ≤ 1048576) (hl : HLB w.heap.size w) :
    Calls Tryz.prog 15 #[.agg #[.int .i64 th, .bool ret, .int .i64 o.kind, .int .i64 o.key, .int .i64 o.val, .int .i64 o.hi, .bool r.ok, .int .i64 r.key, .int .i64 r.val, .slice pb r.pairs.length pc]] w fun e w' => e = .returned (.string ⟨(tellL th ret o r).toArray⟩) ∧ Below w.heap.size w w' := by
  have hR := retL_len (k := o.kind) hr hnl
  obtain ⟨kd, ky, vl, hh⟩ := o
  obtain ⟨ok, rk, rv, ps⟩ := r
  obtain ⟨h1, h2, h3⟩ := hr
  cases ret
  · have e : tellL th false ⟨kd, ky, vl, hh⟩ ⟨ok, rk, rv, ps⟩ = 116 :: Lib.itoa th ++ 32 :: tellOpL ⟨kd, ky, vl, hh⟩ := by simp [tellL]
    rw [e]
    exact tell_false th kd ky vl hh ok hth hin rk rv pb pc ps.length w hl
  · have e : tellL th true ⟨kd, ky, vl, hh⟩ ⟨ok, rk, rv, ps⟩ = 116 :: Lib.itoa th ++ 32 :: tellOpL ⟨kd, ky, vl, hh⟩ ++ ([32, 45, 62, 32] ++ (yesL ok ++ blkL (retL kd ⟨ok, rk, rv, ps⟩))) := by simp [tellL]
    rw [e]
    refine tell_true th kd ky vl hh ok hth hin rk rv pb pc ps.length w hl _ hR (fun W hW => ?_)
    have hlW : HLB W.heap.size W := hl.on hW
    by_cases hk : 1 ≤ kd ∧ kd ≤ 8
    · rcases (by omega : kd = 1 ∨ kd = 2 ∨ kd = 3 ∨ kd = 4 ∨ kd = 5 ∨ kd = 6 ∨ kd = 7 ∨ kd = 8) with rfl | rfl | rfl | rfl | rfl | rfl | rfl | rfl
      · exact tellRet_1 ok rk rv pb pc ps.length W h1 h2 hlW
      · exact tellRet_2 ok rk rv pb pc ps.length W h1 h2 hlW
      · exact tellRet_3 ok rk rv pb pc ps.length W h1 h2 hlW
      · exact tellRet_4 ok rk rv pb pc ps.length W h1 h2 hlW
      · exact tellRet_5 ok rk rv pb pc ps.length W h1 h2 hlW
      · exact tellRet_6 ok rk rv pb pc ps.length W h1 h2 hlW
      · exact tellRet_7 ok rk rv pb pc ps.length W h1 h2 hlW
      · exact tellRet_8 ok rk rv pb pc ps.length W h1 h2 hlW
    · have e2 : retL kd ⟨ok, rk, rv, ps⟩ = ps.map pairT := by
        unfold retL
        rw [if_neg (by omega), if_neg (by omega)]
      rw [e2]
      exact tellRet_c kd ok rk rv pb pc ps.length W h1 h2 hlW pg po ps (hp.below hW) rfl h3 hnl (by omega)
end Go.Proofs.YtknlapipkglnjaaGreatDoor

namespace Go.Proofs.YtknlapipkglnjaaGreatDoor

open Go.RowKit

attribute [local go_sem ↓] Go.wp_at_zero Go.wp_at_succ

theorem pairs_lit (w : World) : PairsAt (w.alloc (.cells #[.int .i64 1, .int .i64 2, .int .i64 3, .int .i64 4] 49)) (some ⟨w.heap.size, 0, none⟩) w.heap.size 0 [(1, 2), (3, 4)] := by
  have hb : (w.alloc (.cells #[.int .i64 1, .int .i64 2, .int .i64 3, .int .i64 4] 49)).heap[w.heap.size]? = some (.cells #[.int .i64 1, .int .i64 2, .int .i64 3, .int .i64 4] 49) := heap_alloc_at _ _ _ rfl
  refine ⟨fun _ => rfl, fun _ => by simp, fun i hi => ?_, by simp [maxLen]⟩
  rcases (by simp at hi; omega : i = 0 ∨ i = 1) with rfl | rfl
  · simp only [World.cell?, hb]
    exact ⟨rfl, rfl⟩
  · simp only [World.cell?, hb]
    exact ⟨rfl, rfl⟩
theorem samp : tellL 0 true ⟨9, 0, 0, 9⟩ ⟨true, 0, 0, [(1, 2), (3, 4)]⟩ = [116, 48, 32, 114, 97, 110, 103, 101, 32, 48, 32, 57, 32, 45, 62, 32, 121, 101, 115, 32, 49, 58, 50, 32, 51, 58, 52] := by kernel_rfl
theorem small {a : Int} (h : 0 ≤ a ∧ a ≤ 100) : In64 a := by unfold In64; omega
set_option maxRecDepth 100000 in
set_option maxHeartbeats 2000000 in
theorem awake_any (w : World) (hl : HLB w.heap.size w) : Calls Tryz.prog 5 #[] w fun e w' => e = .returned (.bool true) ∧ Below w.heap.size w w' := by
  have HL : Hid (HLB _ _) := hl
  clear hl
  have TL : Hid (∀ W : World, Below w.heap.size w W → Calls Tryz.prog 15 #[.agg #[.int .i64 0, .bool true, .int .i64 9, .int .i64 0, .int .i64 0, .int .i64 9, .bool true, .int .i64 0, .int .i64 0, .slice (some ⟨W.heap.size, 0, none⟩) 2 2]] (W.alloc (.cells #[.int .i64 1, .int .i64 2, .int .i64 3, .int .i64 4] 49)) fun e w' => e = .returned (.string ⟨#[116, 48, 32, 114, 97, 110, 103, 101, 32, 48, 32, 57, 32, 45, 62, 32, 121, 101, 115, 32, 49, 58, 50, 32, 51, 58, 52]⟩) ∧ Below w.heap.size w w') := by
    intro W hW
    have hB := hW.alloc hW.size (.cells #[.int .i64 1, .int .i64 2, .int .i64 3, .int .i64 4] 49)
    have h := tell_any 0 true ⟨9, 0, 0, 9⟩ ⟨true, 0, 0, [(1, 2), (3, 4)]⟩ (some ⟨W.heap.size, 0, none⟩) 2 W.heap.size 0 (W.alloc (.cells #[.int .i64 1, .int .i64 2, .int .i64 3, .int .i64 4] 49)) (small (by decide)) ⟨small (by decide), small (by decide), small (by decide), small (by decide)⟩ ⟨small (by decide), small (by decide), fun i hi => by
      rcases (by simp at hi; omega : i = 0 ∨ i = 1) with rfl | rfl
      · exact ⟨small (by decide), small (by decide)⟩
      · exact ⟨small (by decide), small (by decide)⟩⟩ (pairs_lit W) (by simp) (HL.out.on hB)
    rw [samp] at h
    refine h.mono ?_
    rintro e w' ⟨rfl, hb⟩
    exact ⟨rfl, hB.trans (hb.mono hB.size)⟩
  go_enter Tryz.func5, Tryz.ntmps5
  go_wp2_with (first | (go_at_call 14; refine (run_nil _ HL.out).mono ?_; rintro e w1 ⟨rfl, hb1⟩; have B1 : Hid (Below _ _ w1) := hb1; clear hb1) | (go_at_call 15; refine (TL.out _ B1.out).mono ?_; rintro e w2 ⟨rfl, hb2⟩; have B2 : Hid (Below w.heap.size w w2) := hb2; clear hb2))
  go_ret
  exact ⟨rfl, B2.out⟩
end Go.Proofs.YtknlapipkglnjaaGreatDoor


namespace Go.Proofs.YtknlapipkglnjaaGreatDoor

open Go.RowKit

attribute [local go_sem ↓] Go.wp_at_zero Go.wp_at_succ

theorem below_dN {B n : Nat} {w w' : World} (h : Below B w w') : Below B w (w'.drewN n) := ⟨h.os, h.tape, h.output, h.size, h.block⟩
/-- A row's cells as they lie. -/
theorem row_lies {B sz n : Nat} {e : TypeId} {z : World} {v : Value} {xs : List Value} (h : z.ownsRow B e sz v n xs) : ∃ a c g, v = .slice a n c ∧ (0 < n → a = some ⟨g, 0, none⟩ ∧ g < z.heap.size) ∧ ∀ j, j < n * sz → z.cell? ⟨g, j, none⟩ = xs[j]? := by
  by_cases hn : 0 < n
  · obtain ⟨g, c, rfl, -, hg, -, -, hc, -⟩ := owns_some h hn
    exact ⟨_, c, g, rfl, fun _ => ⟨rfl, (owns_lt h g rfl).2⟩, hc⟩
  · obtain ⟨a, c, rfl, -⟩ := ownForm h
    exact ⟨a, c, 0, rfl, fun q => absurd q hn, fun j hj => by
      obtain rfl : n = 0 := by omega
      omega⟩
theorem pc_at (L : PL) : ∀ i, i < L.length → ∃ k v, (pairCells L)[i * 2]? = some (.int .i64 k) ∧ (pairCells L)[i * 2 + 1]? = some (.int .i64 v) := by
  induction L with
  | nil => intro i h; simp at h
  | cons p t ih =>
    intro i h
    cases i with
    | zero => exact ⟨p.1, p.2, rfl, rfl⟩
    | succ i =>
      obtain ⟨k, v, h1, h2⟩ := ih i (by simpa using h)
      refine ⟨k, v, ?_, ?_⟩
      · rw [show (i + 1) * 2 = i * 2 + 1 + 1 by omega]; exact h1
      · rw [show (i + 1) * 2 + 1 = i * 2 + 1 + 1 + 1 by omega]; exact h2
theorem oc_at (L : List OpD) : ∀ i, i < L.length → ∃ a b c d, (opsC L)[i * 4]? = some (.int .i64 a) ∧ (opsC L)[i * 4 + 1]? = some (.int .i64 b) ∧ (opsC L)[i * 4 + 2]? = some (.int .i64 c) ∧ (opsC L)[i * 4 + 3]? = some (.int .i64 d) := by
  induction L with
  | nil => intro i h; simp at h
  | cons p t ih =>
    intro i h
    cases i with
    | zero => exact ⟨p.kind, p.key, p.val, p.hi, rfl, rfl, rfl, rfl⟩
    | succ i =>
      obtain ⟨a, b, c, d, h1, h2, h3, h4⟩ := ih i (by simpa using h)
      have e : ∀ k, (opsC (p :: t))[(i + 1) * 4 + k]? = (opsC t)[i * 4 + k]? := fun k => by
        rw [show (i + 1) * 4 + k = i * 4 + k + 1 + 1 + 1 + 1 by omega]
        rfl
      exact ⟨a, b, c, d, by have := e 0; simp only [Nat.add_zero] at this; rw [this]; exact h1, by rw [e 1]; exact h2, by rw [e 2]; exact h3, by rw [e 3]; exact h4⟩
theorem ic_at (L : List Int) (i : Nat) (h : i < L.length) : ∃ x, (inC L)[i]? = some (.int .i64 x) := ⟨L[i], by simp [inC, List.getElem?_eq_getElem h]⟩
set_option maxRecDepth 100000 in
set_option maxHeartbeats 2000000 in
theorem samePairs_any (va vb : Value) (L : PL) (A B : Nat) (w : World) (ha : w.ownsRow A 49 2 va L.length (pairCells L)) (hb : w.ownsRow B 49 2 vb L.length (pairCells L)) (hl : L.length ≤ 4000000) :
    Calls Tryz.prog 29 #[va, vb] w fun e w' => e = .returned (.bool true) ∧ Below w.heap.size w w' := by
  obtain ⟨aa, ca, ga, rfl, la, hca⟩ := row_lies ha
  obtain ⟨ab, cb, gb, rfl, lb, hcb⟩ := row_lies hb
  have LA : Hid (0 < L.length → aa = some ⟨ga, 0, none⟩ ∧ ga < w.heap.size) := la
  have LB : Hid (0 < L.length → ab = some ⟨gb, 0, none⟩ ∧ gb < w.heap.size) := lb
  have CA : Hid (∀ j, j < L.length * 2 → w.cell? ⟨ga, j, none⟩ = (pairCells L)[j]?) := hca
  have CB : Hid (∀ j, j < L.length * 2 → w.cell? ⟨gb, j, none⟩ = (pairCells L)[j]?) := hcb
  have n0 : (L.length : Int) ≤ 4000000 := by omega
  clear ha hb la lb hca hcb
  go_enter Tryz.func29, Tryz.ntmps29
  go_wp2_with fail
  go_loopw [13] (fun i wr => ∃ j : Nat, j ≤ L.length ∧ i = .int .i64 j ∧ Below w.heap.size w wr) (fun i _ => L.length - (intOf i).toNat)
  case atStart => exact ⟨0, Nat.zero_le _, rfl, Below.refl _ _⟩
  case round =>
    obtain ⟨j, hj, rfl, hbw⟩ := hrel
    rename World => wr
    have HB : Hid (Below w.heap.size w wr) := hbw
    clear hbw
    by_cases hlt : j < L.length
    · obtain ⟨rfl, ga1⟩ := LA.out (by omega)
      obtain ⟨rfl, gb1⟩ := LB.out (by omega)
      obtain ⟨k, v, e1, e2⟩ := pc_at L j hlt
      have c0 : wr.cell? ⟨ga, j * 2, none⟩ = some (.int .i64 k) := (HB.out.cell (p := ⟨ga, j * 2, none⟩) ga1).trans ((CA.out _ (by omega)).trans e1)
      have c1 : wr.cell? ⟨ga, j * 2 + 1, none⟩ = some (.int .i64 v) := (HB.out.cell (p := ⟨ga, j * 2 + 1, none⟩) ga1).trans ((CA.out _ (by omega)).trans e2)
      have c2 : wr.cell? ⟨gb, j * 2, none⟩ = some (.int .i64 k) := (HB.out.cell (p := ⟨gb, j * 2, none⟩) gb1).trans ((CB.out _ (by omega)).trans e1)
      have c3 : wr.cell? ⟨gb, j * 2 + 1, none⟩ = some (.int .i64 v) := (HB.out.cell (p := ⟨gb, j * 2 + 1, none⟩) gb1).trans ((CB.out _ (by omega)).trans e2)
      have j0 : (0 : Int) ≤ (j : Int) := Int.natCast_nonneg _
      have j1 : (j : Int) < (L.length : Int) := by omega
      clear e1 e2
      go_wp2_with fail
      go_quiet (fail)
      go_wp2_with fail
      exact ⟨⟨j + 1, by omega, by go_num, below_dN HB.out⟩, by simp [intOf]; omega⟩
    · obtain rfl : j = L.length := by omega
      clear hlt
      go_wp2_with fail
      go_ret
      exact ⟨rfl, HB.out⟩
/-- The boxes of the two games. -/
structure BxG (w z : World) (S C P S' C' P' : Value) : Prop where
  b0 : z.heap[w.heap.size]? = some (.cells #[S, C, P] 26)
  b1 : z.heap[w.heap.size + 1]? = some (.cells #[S', C', P'] 33)
  bel : Below w.heap.size w z
theorem BxG.drewN {w z : World} {S C P S' C' P' : Value} (h : BxG w z S C P S' C' P') (n : Nat) : BxG w (z.drewN n) S C P S' C' P' := ⟨h.b0, h.b1, below_dN h.bel⟩
theorem BxG.start (w : World) (S C P S' C' P' : Value) : BxG w ((w.alloc (.cells #[S, C, P] 26)).alloc (.cells #[S', C', P'] 33)) S C P S' C' P' :=
  ⟨(heap_alloc_old _ _ (by simp)).trans (heap_alloc_at _ _ _ rfl), heap_alloc_at _ _ _ (by simp), (below_alloc w _).alloc (by simp) _⟩
theorem BxG.on {w z y : World} {S C P S' C' P' : Value} (h : BxG w z S C P S' C' P') (hb : Below z.heap.size z y) : BxG w y S C P S' C' P' :=
  ⟨(hb.block _ (Array.getElem?_eq_some_iff.1 h.b0).1).trans h.b0, (hb.block _ (Array.getElem?_eq_some_iff.1 h.b1).1).trans h.b1, h.bel.trans (hb.mono h.bel.size)⟩
theorem rng_at (n : Nat) (vs : Nat → Value) {i : Nat} (h : i < n) : ((List.range n).map vs)[i]? = some (vs i) := by rw [List.getElem?_map, List.getElem?_range h]; rfl
set_option maxRecDepth 100000 in
set_option maxHeartbeats 4000000 in
theorem same_any (vS vC vP uS uC uP : Value) (vs us : Nat → Value) (g : GD) (A B : Nat) (w : World) (ha : GAt A w vS vC vP vs g) (hb : GAt B w uS uC uP us g) (ls : g.start.length ≤ 4000000) (lp : g.picks.length ≤ 4000000) (lc : g.scripts.length ≤ 4000000) (lr : ∀ i, (g.scripts.getD i []).length ≤ 4000000) :
    Calls Tryz.prog 12 #[.agg #[vS, vC, vP], .agg #[uS, uC, uP]] w fun e w' => e = .returned (.bool true) ∧ Below w.heap.size w w' := by
  obtain ⟨a1, c1, -, h1, -, -⟩ := row_lies ha.st
  obtain ⟨a2, c2, g2, h2, l2, k2⟩ := row_lies ha.top
  obtain ⟨a3, c3, g3, h3, l3, k3⟩ := row_lies ha.pk
  obtain ⟨b1, d1, -, h4, -, -⟩ := row_lies hb.st
  obtain ⟨b2, d2, f2, h5, l5, k5⟩ := row_lies hb.top
  obtain ⟨b3, d3, f3, h6, l6, k6⟩ := row_lies hb.pk
  subst h1 h2 h3 h4 h5 h6
  have HA : Hid (GAt A w _ _ _ vs g) := ha
  have HB : Hid (GAt B w _ _ _ us g) := hb
  have L2 : Hid (0 < g.scripts.length → a2 = some ⟨g2, 0, none⟩ ∧ g2 < w.heap.size) := l2
  have L3 : Hid (0 < g.picks.length → a3 = some ⟨g3, 0, none⟩ ∧ g3 < w.heap.size) := l3
  have L5 : Hid (0 < g.scripts.length → b2 = some ⟨f2, 0, none⟩ ∧ f2 < w.heap.size) := l5
  have L6 : Hid (0 < g.picks.length → b3 = some ⟨f3, 0, none⟩ ∧ f3 < w.heap.size) := l6
  have K2 : Hid (∀ j, j < g.scripts.length * 1 → w.cell? ⟨g2, j, none⟩ = ((List.range g.scripts.length).map vs)[j]?) := k2
  have K3 : Hid (∀ j, j < g.picks.length * 1 → w.cell? ⟨g3, j, none⟩ = (inC g.picks)[j]?) := k3
  have K5 : Hid (∀ j, j < g.scripts.length * 1 → w.cell? ⟨f2, j, none⟩ = ((List.range g.scripts.length).map us)[j]?) := k5
  have K6 : Hid (∀ j, j < g.picks.length * 1 → w.cell? ⟨f3, j, none⟩ = (inC g.picks)[j]?) := k6
  have LR : Hid (∀ i, (g.scripts.getD i []).length ≤ 4000000) := lr
  have B0 : Hid (BxG w ((w.alloc (.cells #[.slice a1 g.start.length c1, .slice a2 g.scripts.length c2, .slice a3 g.picks.length c3] 26)).alloc (.cells #[.slice b1 g.start.length d1, .slice b2 g.scripts.length d2, .slice b3 g.picks.length d3] 33)) (.slice a1 g.start.length c1) (.slice a2 g.scripts.length c2) (.slice a3 g.picks.length c3) (.slice b1 g.start.length d1) (.slice b2 g.scripts.length d2) (.slice b3 g.picks.length d3)) := BxG.start w _ _ _ _ _ _
  have SP : Hid (∀ W, BxG w W (.slice a1 g.start.length c1) (.slice a2 g.scripts.length c2) (.slice a3 g.picks.length c3) (.slice b1 g.start.length d1) (.slice b2 g.scripts.length d2) (.slice b3 g.picks.length d3) → Calls Tryz.prog 29 #[.slice a1 g.start.length c1, .slice b1 g.start.length d1] W fun e w' => e = .returned (.bool true) ∧ BxG w w' (.slice a1 g.start.length c1) (.slice a2 g.scripts.length c2) (.slice a3 g.picks.length c3) (.slice b1 g.start.length d1) (.slice b2 g.scripts.length d2) (.slice b3 g.picks.length d3)) := fun W hW => (samePairs_any _ _ g.start A B W (owns_below HA.out.st hW.bel) (owns_below HB.out.st hW.bel) ls).mono (by rintro e w' ⟨rfl, hb⟩; exact ⟨rfl, hW.on hb⟩)
  obtain ⟨n1, hn1⟩ : ∃ n1, n1 = g.start.length := ⟨_, rfl⟩
  obtain ⟨n2, hn2⟩ : ∃ n2, n2 = g.scripts.length := ⟨_, rfl⟩
  obtain ⟨n3, hn3⟩ : ∃ n3, n3 = g.picks.length := ⟨_, rfl⟩
  have N2 : Hid (n2 = g.scripts.length) := hn2
  have N3 : Hid (n3 = g.picks.length) := hn3
  rw [← hn1] at SP ls B0
  rw [← hn2] at lc L2 L5 K2 K5 B0 SP
  rw [← hn3] at lp L3 L6 K3 K6 B0 SP
  rw [← hn1, ← hn2, ← hn3]
  have z2 : (n2 : Int) ≤ 4000000 := by omega
  have z3 : (n3 : Int) ≤ 4000000 := by omega
  clear ha hb l2 l3 l5 l6 k2 k3 k5 k6 lr hn1 hn2 hn3
  go_enter Tryz.func12, Tryz.ntmps12
  go_wp2_with (first | (go_at_call 29; refine (SP.out _ B0.out).mono ?_; rintro e w1 ⟨rfl, hb1⟩; have B1 : Hid (BxG w w1 (.slice a1 n1 c1) (.slice a2 n2 c2) (.slice a3 n3 c3) (.slice b1 n1 d1) (.slice b2 n2 d2) (.slice b3 n3 d3)) := hb1; have q0 := tri3 hb1.b0; have q1 := tri3 hb1.b1; obtain ⟨⟨x0, -⟩, ⟨x1, -⟩, ⟨x2, -⟩⟩ := q0; obtain ⟨⟨y0, -⟩, ⟨y1, -⟩, ⟨y2, -⟩⟩ := q1; clear hb1))
  clear x0 x1 x2 y0 y1 y2
  go_loopw [35] (fun i wr => ∃ j : Nat, j ≤ n3 ∧ i = .int .i64 j ∧ BxG w wr (.slice a1 n1 c1) (.slice a2 n2 c2) (.slice a3 n3 c3) (.slice b1 n1 d1) (.slice b2 n2 d2) (.slice b3 n3 d3)) (fun i _ => n3 - (intOf i).toNat)
  case atStart => exact ⟨0, Nat.zero_le _, rfl, B1.out⟩
  case round =>
    obtain ⟨j, hj, rfl, hbw⟩ := hrel
    rename World => wr
    have BW : Hid (BxG w wr (.slice a1 n1 c1) (.slice a2 n2 c2) (.slice a3 n3 c3) (.slice b1 n1 d1) (.slice b2 n2 d2) (.slice b3 n3 d3)) := hbw
    clear hbw
    have q0 := tri3 BW.out.b0
    have q1 := tri3 BW.out.b1
    obtain ⟨⟨x0, -⟩, ⟨x1, -⟩, ⟨x2, -⟩⟩ := q0
    obtain ⟨⟨y0, -⟩, ⟨y1, -⟩, ⟨y2, -⟩⟩ := q1
    have j0 : (0 : Int) ≤ (j : Int) := Int.natCast_nonneg _
    by_cases hlt : j < n3
    · obtain ⟨rfl, g3l⟩ := L3.out (by omega)
      obtain ⟨rfl, f3l⟩ := L6.out (by omega)
      obtain ⟨x, ex⟩ := ic_at g.picks j (by have := N3.out; omega)
      have m0 : wr.cell? ⟨g3, j, none⟩ = some (.int .i64 x) := (BW.out.bel.cell (p := ⟨g3, j, none⟩) g3l).trans ((K3.out j (by omega)).trans ex)
      have m1 : wr.cell? ⟨f3, j, none⟩ = some (.int .i64 x) := (BW.out.bel.cell (p := ⟨f3, j, none⟩) f3l).trans ((K6.out j (by omega)).trans ex)
      have j1 : (j : Int) < (n3 : Int) := by omega
      clear ex
      go_wp2_with fail
      go_quiet (fail)
      go_wp2_with fail
      exact ⟨⟨j + 1, by omega, by go_num, BW.out.drewN _⟩, by simp [intOf]; omega⟩
    · obtain rfl : n3 = j := by omega
      clear hlt hj
      go_wp2_with fail
      clear x0 x1 x2 y0 y1 y2
      go_loopw [53] (fun i wr => ∃ j : Nat, j ≤ n2 ∧ i = .int .i64 j ∧ BxG w wr (.slice a1 n1 c1) (.slice a2 n2 c2) (.slice a3 n3 c3) (.slice b1 n1 d1) (.slice b2 n2 d2) (.slice b3 n3 d3)) (fun i _ => n2 - (intOf i).toNat)
      case atStart => exact ⟨0, Nat.zero_le _, rfl, BW.out⟩
      case round =>
        obtain ⟨i, hi, rfl, hbv⟩ := hrel
        rename World => wv
        have BV : Hid (BxG w wv (.slice a1 n1 c1) (.slice a2 n2 c2) (.slice a3 n3 c3) (.slice b1 n1 d1) (.slice b2 n2 d2) (.slice b3 n3 d3)) := hbv
        clear hbv
        have q0 := tri3 BV.out.b0
        have q1 := tri3 BV.out.b1
        obtain ⟨⟨x0, -⟩, ⟨x1, -⟩, ⟨x2, -⟩⟩ := q0
        obtain ⟨⟨y0, -⟩, ⟨y1, -⟩, ⟨y2, -⟩⟩ := q1
        have i0 : (0 : Int) ≤ (i : Int) := Int.natCast_nonneg _
        by_cases hlt : i < n2
        · obtain ⟨rfl, g2l⟩ := L2.out (by omega)
          obtain ⟨rfl, f2l⟩ := L5.out (by omega)
          have m0 : w.cell? ⟨g2, i, none⟩ = some (vs i) := (K2.out i (by omega)).trans (rng_at n2 vs hlt)
          have m1 : w.cell? ⟨f2, i, none⟩ = some (us i) := (K5.out i (by omega)).trans (rng_at n2 us hlt)
          obtain ⟨va, vc, vg, hv, lv, kv⟩ := row_lies (HA.out.row i (by have := N2.out; omega))
          obtain ⟨ua, uc, ug, hu, lu, ku⟩ := row_lies (HB.out.row i (by have := N2.out; omega))
          rw [hv] at m0
          rw [hu] at m1
          obtain ⟨l, hl⟩ : ∃ l, l = (g.scripts.getD i []).length := ⟨_, rfl⟩
          have l4 := LR.out i
          have HL : Hid (l = (g.scripts.getD i []).length) := hl
          have LV : Hid (0 < (g.scripts.getD i []).length → va = some ⟨vg, 0, none⟩ ∧ vg < w.heap.size) := lv
          have LU : Hid (0 < (g.scripts.getD i []).length → ua = some ⟨ug, 0, none⟩ ∧ ug < w.heap.size) := lu
          have KV : Hid (∀ j, j < (g.scripts.getD i []).length * 4 → w.cell? ⟨vg, j, none⟩ = (opsC (g.scripts.getD i []))[j]?) := kv
          have KU : Hid (∀ j, j < (g.scripts.getD i []).length * 4 → w.cell? ⟨ug, j, none⟩ = (opsC (g.scripts.getD i []))[j]?) := ku
          rw [← hl] at m0 m1 l4 LV LU KV KU
          have M0 : Hid (w.cell? ⟨g2, i, none⟩ = some (.slice va l vc)) := m0
          have M1 : Hid (w.cell? ⟨f2, i, none⟩ = some (.slice ua l uc)) := m1
          have m0 : wv.cell? ⟨g2, i, none⟩ = some (.slice va l vc) := (BV.out.bel.cell (p := ⟨g2, i, none⟩) g2l).trans M0.out
          have m1 : wv.cell? ⟨f2, i, none⟩ = some (.slice ua l uc) := (BV.out.bel.cell (p := ⟨f2, i, none⟩) f2l).trans M1.out
          have j1 : (i : Int) < (n2 : Int) := by omega
          have l4i : (l : Int) ≤ 4000000 := by omega
          clear hv hu hl lv lu kv ku
          go_wp2_with fail
          go_quiet (fail)
          go_wp2_with fail
          go_loopw [75] (fun k wr => ∃ j : Nat, j ≤ l ∧ k = .int .i64 j ∧ BxG w wr (.slice a1 n1 c1) (.slice (some ⟨g2, 0, none⟩) n2 c2) (.slice a3 n3 c3) (.slice b1 n1 d1) (.slice (some ⟨f2, 0, none⟩) n2 d2) (.slice b3 n3 d3)) (fun k _ => l - (intOf k).toNat)
          case atStart => exact ⟨0, Nat.zero_le _, rfl, BV.out.drewN _⟩
          case round =>
            obtain ⟨k, hk, rfl, hbu⟩ := hrel
            rename World => wu
            have BU : Hid (BxG w wu (.slice a1 n1 c1) (.slice (some ⟨g2, 0, none⟩) n2 c2) (.slice a3 n3 c3) (.slice b1 n1 d1) (.slice (some ⟨f2, 0, none⟩) n2 d2) (.slice b3 n3 d3)) := hbu
            have m2 : wu.cell? ⟨g2, i, none⟩ = some (.slice va l vc) := (BU.out.bel.cell (p := ⟨g2, i, none⟩) g2l).trans M0.out
            have m3 : wu.cell? ⟨f2, i, none⟩ = some (.slice ua l uc) := (BU.out.bel.cell (p := ⟨f2, i, none⟩) f2l).trans M1.out
            clear hbu
            have q0 := tri3 BU.out.b0
            have q1 := tri3 BU.out.b1
            obtain ⟨⟨x0, -⟩, ⟨x1, -⟩, ⟨x2, -⟩⟩ := q0
            obtain ⟨⟨y0, -⟩, ⟨y1, -⟩, ⟨y2, -⟩⟩ := q1
            have k0 : (0 : Int) ≤ (k : Int) := Int.natCast_nonneg _
            by_cases hlt : k < l
            · obtain ⟨rfl, vgl⟩ := LV.out (by omega)
              obtain ⟨rfl, ugl⟩ := LU.out (by omega)
              obtain ⟨oa, ob, oc, od, e0, e1, e2, e3⟩ := oc_at (g.scripts.getD i []) k (by have := HL.out; omega)
              have p0 : wu.cell? ⟨vg, k * 4, none⟩ = some (.int .i64 oa) := (BU.out.bel.cell (p := ⟨vg, k * 4, none⟩) vgl).trans ((KV.out _ (by omega)).trans e0)
              have p1 : wu.cell? ⟨vg, k * 4 + 1, none⟩ = some (.int .i64 ob) := (BU.out.bel.cell (p := ⟨vg, k * 4 + 1, none⟩) vgl).trans ((KV.out _ (by omega)).trans e1)
              have p2 : wu.cell? ⟨vg, k * 4 + 2, none⟩ = some (.int .i64 oc) := (BU.out.bel.cell (p := ⟨vg, k * 4 + 2, none⟩) vgl).trans ((KV.out _ (by omega)).trans e2)
              have p3 : wu.cell? ⟨vg, k * 4 + 3, none⟩ = some (.int .i64 od) := (BU.out.bel.cell (p := ⟨vg, k * 4 + 3, none⟩) vgl).trans ((KV.out _ (by omega)).trans e3)
              have p4 : wu.cell? ⟨ug, k * 4, none⟩ = some (.int .i64 oa) := (BU.out.bel.cell (p := ⟨ug, k * 4, none⟩) ugl).trans ((KU.out _ (by omega)).trans e0)
              have p5 : wu.cell? ⟨ug, k * 4 + 1, none⟩ = some (.int .i64 ob) := (BU.out.bel.cell (p := ⟨ug, k * 4 + 1, none⟩) ugl).trans ((KU.out _ (by omega)).trans e1)
              have p6 : wu.cell? ⟨ug, k * 4 + 2, none⟩ = some (.int .i64 oc) := (BU.out.bel.cell (p := ⟨ug, k * 4 + 2, none⟩) ugl).trans ((KU.out _ (by omega)).trans e2)
              have p7 : wu.cell? ⟨ug, k * 4 + 3, none⟩ = some (.int .i64 od) := (BU.out.bel.cell (p := ⟨ug, k * 4 + 3, none⟩) ugl).trans ((KU.out _ (by omega)).trans e3)
              have k1 : (k : Int) < (l : Int) := by omega
              clear e0 e1 e2 e3 m0 m1
              go_wp2_with fail
              go_quiet (fail)
              go_wp2_with fail
              exact ⟨⟨k + 1, by omega, by go_num, BU.out.drewN _⟩, by simp [intOf]; omega⟩
            · obtain rfl : l = k := by omega
              clear hlt hk
              go_wp2_with fail
              exact ⟨⟨i + 1, by omega, by go_num, BU.out⟩, by simp [intOf]; omega⟩
        · obtain rfl : n2 = i := by omega
          clear hlt hi
          go_wp2_with fail
          go_ret
          exact ⟨rfl, BV.out.bel⟩
end Go.Proofs.YtknlapipkglnjaaGreatDoor


namespace Go.Proofs.YtknlapipkglnjaaGreatDoor

open Go.RowKit

attribute [local go_sem ↓] Go.wp_at_zero Go.wp_at_succ

theorem parG_sz : ∀ (L : List (List UInt8)) (i : Nat) (g0 g : GD), parG L i g0 = .inl g → SzG g0 i → GOk g0 → SzG g (i + L.length) ∧ GOk g
  | [], i, g0, g, h, hs, ho => by
    unfold parG at h
    injection h with h
    subst h
    exact ⟨hs, ho⟩
  | l :: r, i, g0, g, h, hs, ho => by
    cases q : stepG g0 (wordsL l) with
    | none => rw [parG_bad q] at h; cases h
    | some g1 =>
      rw [parG_step q] at h
      have := parG_sz r (i + 1) g1 g h (stepG_sz hs q) (stepG_ok ho q)
      rw [show i + (l :: r).length = i + 1 + r.length by simp; omega]
      exact this
theorem parse_sz {t : List UInt8} {g : GD} (h : parseG t = .inl g) (ht : t.length ≤ 2000000) : g.start.length ≤ 4000000 ∧ g.picks.length ≤ 4000000 ∧ g.scripts.length ≤ 4000000 ∧ ∀ i, (g.scripts.getD i []).length ≤ 4000000 := by
  obtain ⟨h1, h2⟩ := parG_sz (linesL t) 0 gd0 g h sz0 gok0
  have hl := (lines_le t.length t (Nat.le_refl _)).1
  have := h1.st
  have := h1.sc
  have := h2.picks
  exact ⟨by omega, by omega, by omega, fun i => by have := h1.ro i; omega⟩
theorem parG_pos : ∀ (L : List (List UInt8)) (i : Nat) (g0 : GD) (j : Nat), parG L i g0 = .inr j → i < j
  | [], i, g0, j, h => by unfold parG at h; cases h
  | l :: r, i, g0, j, h => by
    cases q : stepG g0 (wordsL l) with
    | none =>
      rw [parG_bad q] at h
      injection h with h
      omega
    | some g1 =>
      rw [parG_step q] at h
      have := parG_pos r (i + 1) g1 j h
      omega
theorem box3 {z : World} {S C P : Value} (t : TypeId) {y : World} (hb : Below (z.alloc (.cells #[S, C, P] t)).heap.size (z.alloc (.cells #[S, C, P] t)) y) : y.heap[z.heap.size]? = some (.cells #[S, C, P] t) :=
  (hb.block _ (by simp)).trans (heap_alloc_at _ _ _ rfl)
set_option maxRecDepth 100000 in
set_option maxHeartbeats 8000000 in
theorem parses_law (t : List UInt8) (ht : t.length ≤ 1048576) (w : World) (hl : HEB w.heap.size w) (rp : ∀ W : World, Calls Tryz.prog 13 #[.string ⟨t.toArray⟩] W fun e w' => RpOut W w' t e) :
    Calls Tryz.prog 4 #[.string ⟨t.toArray⟩] w fun e w' => e = .returned (.bool true) ∧ Below w.heap.size w w' := by
  have HL : Hid (HEB w.heap.size w) := hl
  have HT : Hid (t.length ≤ 2000000) := by show _ ≤ _; omega
  have AW : Hid (Calls Tryz.prog 5 #[] w fun e w' => e = .returned (.bool true) ∧ Below w.heap.size w w') := awake_any w hl.1
  have PA : Hid (∀ W, Below w.heap.size w W → Calls Tryz.prog 10 #[.string ⟨t.toArray⟩] W fun e w' => ParOut W w' t e) := fun W hW => parse_any t HT.out W (HL.out.on hW)
  have RP : Hid (∀ W, Calls Tryz.prog 13 #[.string ⟨t.toArray⟩] W fun e w' => RpOut W w' t e) := rp
  clear hl ht rp
  cases hp : parseG t with
  | inl g =>
    have PA2 : Hid (∀ W, Below w.heap.size w W → Calls Tryz.prog 10 #[.string ⟨t.toArray⟩] W fun e w' => ∃ a1 c1 a2 c2 a3 c3 vs B, e = .returned (.tuple #[.agg #[.slice a1 g.start.length c1, .slice a2 g.scripts.length c2, .slice a3 g.picks.length c3], .int .i64 0, .int .i64 0]) ∧ GAt B w' (.slice a1 g.start.length c1) (.slice a2 g.scripts.length c2) (.slice a3 g.picks.length c3) vs g ∧ Below w.heap.size w w') := fun W hW => (PA.out W hW).mono (by
      rintro e w' ⟨⟨g', vS, vC, vP, vs, q, rfl, hg⟩ | ⟨i, q, -⟩, hb⟩
      · rw [hp] at q
        injection q with q
        subst q
        obtain ⟨a1, c1, rfl, -⟩ := ownForm hg.st
        obtain ⟨a2, c2, rfl, -⟩ := ownForm hg.top
        obtain ⟨a3, c3, rfl, -⟩ := ownForm hg.pk
        exact ⟨a1, c1, a2, c2, a3, c3, vs, _, rfl, hg, hW.trans (hb.mono hW.size)⟩
      · rw [hp] at q; cases q)
    have RP2 : Hid (∀ W, Below w.heap.size w W → Calls Tryz.prog 13 #[.string ⟨t.toArray⟩] W fun e w' => ∃ a1 c1 a2 c2 a3 c3 vs B, e = .returned (.tuple #[.agg #[.slice a1 g.start.length c1, .slice a2 g.scripts.length c2, .slice a3 g.picks.length c3], .int .i64 0]) ∧ GAt B w' (.slice a1 g.start.length c1) (.slice a2 g.scripts.length c2) (.slice a3 g.picks.length c3) vs g ∧ Below W.heap.size W w') := fun W _ => (RP.out W).mono (by
      rintro e w' ⟨⟨g', vS, vC, vP, vs, q, rfl, hg⟩ | ⟨i, q, -⟩, hb⟩
      · rw [hp] at q
        injection q with q
        subst q
        obtain ⟨a1, c1, rfl, -⟩ := ownForm hg.st
        obtain ⟨a2, c2, rfl, -⟩ := ownForm hg.top
        obtain ⟨a3, c3, rfl, -⟩ := ownForm hg.pk
        exact ⟨a1, c1, a2, c2, a3, c3, vs, _, rfl, hg, hb⟩
      · rw [hp] at q; cases q)
    obtain ⟨s1, s2, s3, s4⟩ := parse_sz hp HT.out
    have SM : Hid (∀ (W : World) (vS vC vP uS uC uP : Value) (vs us : Nat → Value) (A B : Nat), GAt A W vS vC vP vs g → GAt B W uS uC uP us g → Calls Tryz.prog 12 #[.agg #[vS, vC, vP], .agg #[uS, uC, uP]] W fun e w' => e = .returned (.bool true) ∧ Below W.heap.size W w') := fun W vS vC vP uS uC uP vs us A B h1 h2 => same_any vS vC vP uS uC uP vs us g A B W h1 h2 s1 s2 s3 s4
    obtain ⟨n1, hn1⟩ : ∃ n1, n1 = g.start.length := ⟨_, rfl⟩
    obtain ⟨n2, hn2⟩ : ∃ n2, n2 = g.scripts.length := ⟨_, rfl⟩
    obtain ⟨n3, hn3⟩ : ∃ n3, n3 = g.picks.length := ⟨_, rfl⟩
    rw [← hn1, ← hn2, ← hn3] at PA2 RP2
    clear hp PA RP s1 s2 s3 s4 hn1 hn2 hn3
    go_enter Tryz.func4, Tryz.ntmps4
    go_wp2_with (first | (go_at_call 5; refine Calls.mono AW.out ?_; rintro e z1 ⟨rfl, hb1⟩; have B1 : Hid (Below w.heap.size w z1) := hb1; clear hb1) | (go_at_call 10; refine (PA2.out _ B1.out).mono ?_; rintro e z2 ⟨a1, c1, a2, c2, a3, c3, vs, A, rfl, hg2, hb2⟩; have B2 : Hid (Below w.heap.size w z2) := hb2; have G2 : Hid (GAt A z2 _ _ _ vs g) := hg2; have B3 : Hid (Below w.heap.size w (z2.alloc (.cells #[.slice a1 n1 c1, .slice a2 n2 c2, .slice a3 n3 c3] 26))) := hb2.alloc hb2.size _; have G3 : Hid (GAt A (z2.alloc (.cells #[.slice a1 n1 c1, .slice a2 n2 c2, .slice a3 n3 c3] 26)) _ _ _ vs g) := hg2.quiet (below_alloc z2 _); clear hb2 hg2) | (go_at_call 13; refine (RP2.out _ B3.out).mono ?_; rintro e z4 ⟨d1, e1, d2, e2, d3, e3, us, B, rfl, hg4, hb4⟩; have B4 : Hid (Below w.heap.size w z4) := B3.out.trans (hb4.mono B3.out.size); have k4 := tri3 (box3 _ hb4); obtain ⟨⟨x0, y0⟩, ⟨x1, y1⟩, ⟨x2, y2⟩⟩ := k4; have hz4 : z2.heap.size < z4.heap.size := (by have := hb4.size; simp at this; omega); have H4 : Hid (GAt B z4 _ _ _ us g) := hg4; have G4 : Hid (GAt A z4 _ _ _ vs g) := G3.out.quiet hb4; have G5 : Hid (GAt A (z4.alloc (.cells #[.slice d1 n1 e1, .slice d2 n2 e2, .slice d3 n3 e3] 33)) _ _ _ vs g) := G4.out.quiet (below_alloc z4 _); have H5 : Hid (GAt B (z4.alloc (.cells #[.slice d1 n1 e1, .slice d2 n2 e2, .slice d3 n3 e3] 33)) _ _ _ us g) := hg4.quiet (below_alloc z4 _); have B5 : Hid (Below w.heap.size w (z4.alloc (.cells #[.slice d1 n1 e1, .slice d2 n2 e2, .slice d3 n3 e3] 33))) := B4.out.alloc B4.out.size _; clear hb4 hg4) | (go_at_call 12; refine (SM.out _ _ _ _ _ _ _ _ _ _ _ G5.out H5.out).mono ?_; rintro e z6 ⟨rfl, hb6⟩; have B6 : Hid (Below w.heap.size w z6) := B5.out.trans (hb6.mono B5.out.size); clear hb6))
    go_ret
    exact ⟨rfl, B6.out⟩
  | inr i =>
    have PA2 : Hid (∀ W, Below w.heap.size w W → Calls Tryz.prog 10 #[.string ⟨t.toArray⟩] W fun e w' => e = .returned (.tuple #[.agg #[.slice none 0 0, .slice none 0 0, .slice none 0 0], .int .i64 (i : Int), .int .i64 7]) ∧ Below w.heap.size w w') := fun W hW => (PA.out W hW).mono (by
      rintro e w' ⟨⟨g', vS, vC, vP, vs, q, -⟩ | ⟨j, q, rfl⟩, hb⟩
      · rw [hp] at q; cases q
      · rw [hp] at q
        injection q with q
        subst q
        exact ⟨rfl, hW.trans (hb.mono hW.size)⟩)
    have RP2 : Hid (∀ W, Below w.heap.size w W → Calls Tryz.prog 13 #[.string ⟨t.toArray⟩] W fun e w' => e = .returned (.tuple #[.agg #[.slice none 0 0, .slice none 0 0, .slice none 0 0], .int .i64 (i : Int)]) ∧ Below W.heap.size W w') := fun W _ => (RP.out W).mono (by
      rintro e w' ⟨⟨g', vS, vC, vP, vs, q, -⟩ | ⟨j, q, rfl⟩, hb⟩
      · rw [hp] at q; cases q
      · rw [hp] at q
        injection q with q
        subst q
        exact ⟨rfl, hb⟩)
    have hi0 : ((i : Int) == 0) = false := beq_eq_false_iff_ne.2 (by
      have := parG_pos (linesL t) 0 gd0 i hp
      omega)
    have SM : Hid (∀ (W : World), Calls Tryz.prog 12 #[.agg #[.slice none 0 0, .slice none 0 0, .slice none 0 0], .agg #[.slice none 0 0, .slice none 0 0, .slice none 0 0]] W fun e w' => e = .returned (.bool true) ∧ Below W.heap.size W w') := fun W => same_any _ _ _ _ _ _ (fun _ => .slice none 0 0) (fun _ => .slice none 0 0) gd0 0 0 W (gat0 _ _ _) (gat0 _ _ _) (by simp [gd0]) (by simp [gd0]) (by simp [gd0]) (fun i => by simp [gd0])
    clear hp PA RP
    go_enter Tryz.func4, Tryz.ntmps4
    go_wp2_with (first | (go_at_call 5; refine Calls.mono AW.out ?_; rintro e z1 ⟨rfl, hb1⟩; have B1 : Hid (Below w.heap.size w z1) := hb1; clear hb1) | (go_at_call 10; refine (PA2.out _ B1.out).mono ?_; rintro e z2 ⟨rfl, hb2⟩; have B2 : Hid (Below w.heap.size w z2) := hb2; have B3 : Hid (Below w.heap.size w (z2.alloc (.cells #[.slice none 0 0, .slice none 0 0, .slice none 0 0] 26))) := hb2.alloc hb2.size _; clear hb2) | (go_at_call 13; refine (RP2.out _ B3.out).mono ?_; rintro e z4 ⟨rfl, hb4⟩; have B4 : Hid (Below w.heap.size w z4) := B3.out.trans (hb4.mono B3.out.size); have k4 := tri3 (box3 _ hb4); obtain ⟨⟨x0, y0⟩, ⟨x1, y1⟩, ⟨x2, y2⟩⟩ := k4; have hz4 : z2.heap.size < z4.heap.size := (by have := hb4.size; simp at this; omega); have B5 : Hid (Below w.heap.size w (z4.alloc (.cells #[.slice none 0 0, .slice none 0 0, .slice none 0 0] 33))) := B4.out.alloc B4.out.size _; clear hb4) | (go_at_call 12; refine (SM.out _).mono ?_; rintro e z6 ⟨rfl, hb6⟩; have B6 : Hid (Below w.heap.size w z6) := B5.out.trans (hb6.mono B5.out.size); clear hb6))
    go_ret
    exact ⟨rfl, B6.out⟩
end Go.Proofs.YtknlapipkglnjaaGreatDoor















namespace Go.Proofs.YtknlapipkglnjaaGreatDoor

open Go.ChangeShapes Go.WideShapes Go.ChangeAt Go.RowKit Go.Deep

theorem own : ownKnob Tryz.prog.godebug = none := by kernel_rfl
theorem laidOut : laidOutB Tryz.prog = true := by kernel_rfl
theorem i64_wf {a : Int} (h : (Lit.int .i64 a).wf = true) : In64 a := by
  simp [Lit.wf, IntKind.min, IntKind.max, IntKind.bits, IntKind.signed] at h
  unfold In64
  omega
theorem ci : Tryz.prog.cellsOf 3 = 1 := by kernel_rfl
theorem cb : Tryz.prog.cellsOf 4 = 1 := by kernel_rfl
theorem cps : Tryz.prog.cellsOf 22 = 1 := by kernel_rfl
theorem cp : Tryz.prog.cellsOf 49 = 2 := by kernel_rfl
theorem cop : Tryz.prog.cellsOf 39 = 4 := by kernel_rfl
theorem crt : Tryz.prog.cellsOf 51 = 4 := by kernel_rfl
theorem cev : Tryz.prog.cellsOf 53 = 10 := by kernel_rfl
theorem bulk_one {H : Type} (d : DataW H) : 1 ≤ Rows.uptoBulk d := by
  cases d with
  | lit l => cases l <;> simp [Rows.uptoBulk]
  | nil => simp [Rows.uptoBulk]
  | ptr d => simp [Rows.uptoBulk]
  | slice elems spare => simp [Rows.uptoBulk]
  | agg parts => simp [Rows.uptoBulk]
  | iface t d => simp [Rows.uptoBulk]
  | map entries => simp [Rows.uptoBulk]
  | held h => simp [Rows.uptoBulk]
theorem bulk_len {H : Type} : ∀ l : List (DataW H), l.length ≤ Rows.uptoBulkAll l
  | [] => by simp
  | x :: r => by
    have := bulk_one x
    have := bulk_len r
    simp only [Rows.uptoBulkAll, List.length_cons]
    omega
section

variable {H : Type} {enc : TypeId × Value → H} {w : World}

theorem open_pair {n : Nat} {cs : List Value} {x : DataW H × List MemPlace} (h : DataW.trod enc Tryz.prog w 0 (fun _ => true) true n 49 cs = some x) :
    ∃ p : Int × Int, cs = [.int .i64 p.1, .int .i64 p.2] ∧ In64 p.1 ∧ In64 p.2 := by
  obtain ⟨y0, y1, m, _, hl, g0, g1⟩ := trod_struct2 Tryz.underlying49 h
  rw [cp] at hl
  simp only [ci] at g0 g1
  match cs, hl with
  | [v0, v1], _ =>
    simp at g0 g1
    obtain ⟨a, e0, _, w0⟩ := DataW.trod_int Tryz.underlying3 g0
    obtain ⟨b, e1, _, w1⟩ := DataW.trod_int Tryz.underlying3 g1
    simp at e0 e1
    exact ⟨(a, b), by rw [e0, e1], i64_wf w0, i64_wf w1⟩
theorem open_pairs {n : Nat} {cs : List Value} {x : DataW H × List MemPlace} (h : DataW.trod enc Tryz.prog w 0 (fun _ => true) true n 22 cs = some x) :
    ∃ (base : Option Addr) (cap g o : Nat) (ps : PL), cs = [.slice base ps.length cap] ∧ PairsAt w base g o ps ∧ (∀ i, i < ps.length → In64 (keyAt ps i) ∧ In64 (valAt ps i)) ∧ ps.length ≤ Rows.uptoBulk x.1 := by
  rcases open_slice Tryz.underlying22 h with ⟨hcs, hx⟩ | ⟨a, len, cap, m, n, D, Pl, hcs, _, hl, hm, hme, hx, hel⟩
  · exact ⟨none, 0, 0, 0, [], by simpa using hcs, ⟨fun h => absurd rfl h, fun h => absurd rfl h, fun i hi => by simp at hi, by simp⟩, fun i hi => by simp at hi, Nat.zero_le _⟩
  · simp at hme
    subst hme
    have hbk : len ≤ Rows.uptoBulk x.1 := by
      rw [hx]
      have := bulk_len ((List.range len).map D)
      simp only [Rows.uptoBulk, List.length_map, List.length_range] at this ⊢
      omega
    by_cases hlen : len = 0
    · subst hlen
      exact ⟨some a, m, 0, 0, [], hcs, ⟨fun h => absurd rfl h, fun h => absurd rfl h, fun i hi => by simp at hi, by simp⟩, fun i hi => by simp at hi, Nat.zero_le _⟩
    · have key : ∀ i, i < m → ∃ y : Int × Int, (w.cell? (a.add (i * 2)) = some (.int .i64 y.1) ∧ w.cell? (a.add (i * 2 + 1)) = some (.int .i64 y.2)) ∧ In64 y.1 ∧ In64 y.2 := by
        intro i hi
        obtain ⟨cs, h1, h2⟩ := hel i hi
        obtain ⟨p, rfl, hp1, hp2⟩ := open_pair h2
        rw [cp] at h1
        obtain ⟨_, _, hcell⟩ := World.cells?_some h1
        have e0 := hcell 0 (by omega)
        have e1 := hcell 1 (by omega)
        rw [Deep.add_add] at e0 e1
        exact ⟨p, ⟨by simpa using e0, by simpa using e1⟩, hp1, hp2⟩
      obtain ⟨f, hf⟩ := choose_lt key
      obtain ⟨b, o, s⟩ := a
      have hs : s = none := by
        have := (hf 0 (by omega)).1.1
        simpa [Addr.add] using World.cell?_spot this
      subst hs
      simp only [addr_add'] at hf
      have hll : ((List.range len).map f).length = len := by simp
      have hgd : ∀ i, i < len → ((List.range len).map f).getD i (0, 0) = f i := fun i hi => by rw [List.getD_eq_getElem?_getD, List.getElem?_map, List.getElem?_range hi]; rfl
      refine ⟨some ⟨b, o, none⟩, m, b, o, (List.range len).map f, by rw [hll]; exact hcs, ⟨fun _ => rfl, fun _ => World.block_lt_of_cell? w _ (hf 0 (by omega)).1.1, fun i hi => ?_, by rw [hll]; omega⟩, fun i hi => ?_, by rw [hll]; exact hbk⟩
      · rw [hll] at hi
        have q := hf i (by omega)
        unfold keyAt valAt
        rw [hgd i hi]
        exact ⟨q.1.1, by simpa [Nat.add_assoc] using q.1.2⟩
      · rw [hll] at hi
        unfold keyAt valAt
        rw [hgd i hi]
        exact (hf i (by omega)).2
theorem open_op {n : Nat} {cs : List Value} {x : DataW H × List MemPlace} (h : DataW.trod enc Tryz.prog w 0 (fun _ => true) true n 39 cs = some x) :
    ∃ o : OpD, cs = [.int .i64 o.kind, .int .i64 o.key, .int .i64 o.val, .int .i64 o.hi] ∧ OpIn o := by
  obtain ⟨y0, y1, y2, y3, m, _, hl, g0, g1, g2, g3⟩ := Go.Joins.trod_struct4 Tryz.underlying39 h
  rw [cop] at hl
  simp only [ci] at g0 g1 g2 g3
  match cs, hl with
  | [v0, v1, v2, v3], _ =>
    simp at g0 g1 g2 g3
    obtain ⟨a, e0, _, w0⟩ := DataW.trod_int Tryz.underlying3 g0
    obtain ⟨b, e1, _, w1⟩ := DataW.trod_int Tryz.underlying3 g1
    obtain ⟨c, e2, _, w2⟩ := DataW.trod_int Tryz.underlying3 g2
    obtain ⟨d, e3, _, w3⟩ := DataW.trod_int Tryz.underlying3 g3
    simp at e0 e1 e2 e3
    exact ⟨⟨a, b, c, d⟩, by rw [e0, e1, e2, e3], i64_wf w0, i64_wf w1, i64_wf w2, i64_wf w3⟩
theorem open_ret {n : Nat} {cs : List Value} {x : DataW H × List MemPlace} (h : DataW.trod enc Tryz.prog w 0 (fun _ => true) true n 51 cs = some x) :
    ∃ (r : RetD) (base : Option Addr) (cap g o : Nat), cs = [.bool r.ok, .int .i64 r.key, .int .i64 r.val, .slice base r.pairs.length cap] ∧ PairsAt w base g o r.pairs ∧ RetIn r ∧ r.pairs.length ≤ Rows.uptoBulk x.1 := by
  obtain ⟨y0, y1, y2, y3, m, hx, hl, g0, g1, g2, g3⟩ := Go.Joins.trod_struct4 Tryz.underlying51 h
  rw [crt] at hl
  simp only [ci, cb, cps] at g0 g1 g2 g3
  match cs, hl with
  | [v0, v1, v2, v3], _ =>
    simp at g0 g1 g2 g3
    obtain ⟨a, e0, _⟩ := DataW.trod_bool Tryz.underlying4 g0
    obtain ⟨b, e1, _, w1⟩ := DataW.trod_int Tryz.underlying3 g1
    obtain ⟨c, e2, _, w2⟩ := DataW.trod_int Tryz.underlying3 g2
    obtain ⟨base, cap, g, o, ps, e3, hp, hi, hk⟩ := open_pairs g3
    simp at e0 e1 e2 e3
    refine ⟨⟨a, b, c, ps⟩, base, cap, g, o, by rw [e0, e1, e2, e3], hp, ⟨i64_wf w1, i64_wf w2, hi⟩, ?_⟩
    rw [hx]
    simp only [Rows.uptoBulk, Rows.uptoBulkAll]
    omega
theorem open_ev {n : Nat} {cs : List Value} {x : DataW H × List MemPlace} (h : DataW.trod enc Tryz.prog w 0 (fun _ => true) true n 53 cs = some x) :
    ∃ (th : Int) (ret : Bool) (o : OpD) (r : RetD) (base : Option Addr) (cap g p : Nat), cs = [.int .i64 th, .bool ret, .int .i64 o.kind, .int .i64 o.key, .int .i64 o.val, .int .i64 o.hi, .bool r.ok, .int .i64 r.key, .int .i64 r.val, .slice base r.pairs.length cap] ∧ In64 th ∧ OpIn o ∧ PairsAt w base g p r.pairs ∧ RetIn r ∧ r.pairs.length ≤ Rows.uptoBulk x.1 := by
  obtain ⟨y0, y1, y2, y3, m, hx, hl, g0, g1, g2, g3⟩ := Go.Joins.trod_struct4 Tryz.underlying53 h
  rw [cev] at hl
  simp only [ci, cb, cop, crt] at g0 g1 g2 g3
  match cs, hl with
  | [v0, v1, v2, v3, v4, v5, v6, v7, v8, v9], _ =>
    simp at g0 g1 g2 g3
    obtain ⟨a, e0, _, w0⟩ := DataW.trod_int Tryz.underlying3 g0
    obtain ⟨b, e1, _⟩ := DataW.trod_bool Tryz.underlying4 g1
    obtain ⟨c, e2, hc⟩ := open_op g2
    obtain ⟨r, base, cap, g, o, e3, hp, hr, hk⟩ := open_ret g3
    simp at e0 e1 e2 e3
    obtain ⟨e4, e5, e6, e7⟩ := e2
    obtain ⟨e8, e9, e10, e11⟩ := e3
    refine ⟨a, b, c, r, base, cap, g, o, by rw [e0, e1, e4, e5, e6, e7, e8, e9, e10, e11], i64_wf w0, hc, hp, hr, ?_⟩
    rw [hx]
    simp only [Rows.uptoBulk, Rows.uptoBulkAll]
    omega
end

end Go.Proofs.YtknlapipkglnjaaGreatDoor




namespace Go.Proofs.YtknlapipkglnjaaGreatDoor

open Go.ChangeShapes Go.WideShapes Go.ChangeAt Go.RowKit Go.Deep

theorem alone_leaving {P : Program} {last : Machine} {w : World} {t : Trace} (h : aloneAtReturn P last w t) : leavingAtReturn P last w t := by
  obtain ⟨⟨hd, ht⟩, ho, he⟩ := h
  refine ⟨ho, ⟨fun g hg => ⟨0, ?_⟩, ht⟩, he⟩
  unfold Machine.othersDone at hd
  rw [List.all_eq_true] at hd
  have h1 := hd g hg
  show g.status = .finished
  cases hs : g.status <;> rw [hs] at h1 <;> first | rfl | cases h1
/-- A row that says 'alone' says 'leaving': for a call that can come to a go statement by its text and never does. -/
theorem holds_leaving {p : Pinned} {s : OpenSpec} {c : OpenClaim} (h : OpenClaim.holds p s { c with leaving := false }) (hl : c.leaving = true) (hwf : c.wf s = true) (hst : c.start = .entering) (hsp : c.stops = []) : c.holds p s := by
  obtain ⟨-, a1, a2, a3, a4, a5, a6, a7, f, fn, b1, b2, b3, b4, b5, b6, b7, b8, b9, b10, b11, b12, b13, b14, b15, b16, b17, b18, b19, b20, b21, L, hL, hall⟩ := h
  refine ⟨hwf, a1, a2, a3, a4, a5, a6, a7, f, fn, b1, b2, b3, b4, b5, b6, b7, b8, b9, b10, b11, b12, b13, b14, b15, b16, b17, b18, b19, b20, b21, L, hL, fun os w q H enc inj => ?_⟩
  have h1 := hall os w q H enc inj
  unfold OpenClaim.form at h1 ⊢
  simp only [hst, hsp] at h1 ⊢
  intro F
  obtain ⟨e1, e2, e3, e4, e5⟩ := h1 F
  refine ⟨e1, e2, e3, e4, fun w tape i hf => ?_⟩
  obtain ⟨n, v, w', g1, g2, g3, g4, ⟨j, last, k1, k2, k3⟩, g6⟩ := e5 w tape i hf
  refine ⟨n, v, w', g1, g2, g3, g4, ⟨j, last, k1, k2, ?_⟩, g6⟩
  unfold OpenClaim.atReturn at k3 ⊢
  rw [hl]
  exact alone_leaving k3
/-- A tied card of a call that can come to a go statement. -/
theorem tied_goes (Lk : Looks) {p : Pinned} {s : OpenSpec} {c : OpenClaim} (kinds : List LaidKind) (tests : Bool) (har : Bool × String) (lk : Bool)
    (hc : c.holds p s) (hw : c.wfByText s = true) (htie : c.laidByTextAt Lk p kinds tests) (hst : c.start = .entering) (hnb : c.noBlocks = false ∧ c.again = false) (hm : p.checked.prog.mainIs = some (har.1, har.2.toList)) (hn : (!har.1 && har.2.isEmpty && !lk) = false)
    (hl : ∀ f fn, p.checked.prog.funcNamed c.func = some f → p.checked.prog.funcs[f]? = some fn → lk = p.checked.prog.looks [] ∧ ∀ (j : Nat) t, fn.params[j]? = some t → p.checked.prog.wantsStandIn t = false)
    (hg : true = c.goesBy p.checked.prog) :
    Claim7.holds p (.plain s) { stood := { row := c, standIns := [], harness := har, looks := lk }, kinds := [], alts := [], goes := true, laidByText := true, laidKinds := kinds, laidTests := tests, laidLooks := Lk } := by
  have h6 : Claim7.isSixth { stood := { row := c, standIns := [], harness := har, looks := lk }, kinds := [] } = false := by simpa [Claim7.isSixth] using hn
  exact ⟨Claim7.tied_new_at Lk kinds tests (Claim7.new_of_sixth hc har lk hst hnb hm h6 hl) hw, (fun D hD => by cases hD), htie, (fun h => by cases h), hg⟩
/-- An array of strings that reads as these texts holds them, cell for cell. -/
theorem cells_of_texts {H : Type} {enc : TypeId × Value → H} {P : Program} {w : World} {base : Nat} {sp : Nat → Bool} {held : Bool} {fuel : Nat} {t e : TypeId} {n : Nat} {cs : List Value} {zs : List (List UInt8)} {p : List MemPlace}
    (ht : P.underlying t = some (.array n e)) (he : P.underlying e = some .string) (hce : P.cellsOf e = 1) (hct : P.cellsOf t = n)
    (h : DataW.trod enc P w base sp held fuel t cs = some (.agg (zs.map fun z => .lit (.string z)), p)) : cs = zs.map fun z => Value.string ⟨z.toArray⟩ := by
  cases fuel with
  | zero => simp [DataW.trod] at h
  | succ fuel =>
    simp only [DataW.trod, ht, hce, hct, Nat.mul_one] at h
    split at h
    · rename_i hl
      obtain ⟨xs, hm, hx⟩ := Option.map_eq_some_iff.1 h
      have hxs : xs.map (·.1) = zs.map fun z => (DataW.lit (.string z) : DataW H) := by
        have := congrArg Prod.fst hx
        simpa using this
      have hxl : xs.length = n := by simpa using Lib.mapM_length hm
      have hzl : zs.length = n := by
        have := congrArg List.length hxs
        simp at this
        omega
      apply List.ext_getElem?
      intro i
      by_cases hi : i < n
      · obtain ⟨b, hb, hf⟩ := Lib.mapM_at hm i i (by simp [hi])
        obtain ⟨z, hc, rfl, _⟩ := DataW.trod_string he hf
        have h1 : cs[i]? = some (.string z) := by
          have := congrArg (·[0]?) hc
          simpa [List.getElem?_take, List.getElem?_drop] using this
        have h2 : (xs.map (·.1))[i]? = some (DataW.lit (.string z.data.toList) : DataW H) := by simp [hb]
        rw [hxs] at h2
        simp only [List.getElem?_map, Option.map_eq_some_iff, DataW.lit.injEq, Lit.string.injEq] at h2
        obtain ⟨z', hz', e'⟩ := h2
        subst e'
        simp [h1, hz']
      · rw [List.getElem?_eq_none (by omega), List.getElem?_eq_none (by simp; omega)]
    · cases h
theorem g_pow : Tryz.prog.globalNamed "internal/strconv.uint64pow10" = some 2 := by kernel_rfl
theorem g_powT : (Tryz.prog.globals[ 2 ]?).map (·.type) = some 170 := by kernel_rfl
theorem g_nm : Tryz.prog.globalNamed "larch/shell.names" = some 0 := by kernel_rfl
theorem g_nmT : (Tryz.prog.globals[ 0 ]?).map (·.type) = some 103 := by kernel_rfl
def nmT : List (List UInt8) := (List.range 10).map fun k : Nat => wordL (k : Int)
theorem laid_nmT : (Rows.laid_larch_shell_names : DataW Unit) = .agg (nmT.map fun z => .lit (.string z)) := rfl
end Go.Proofs.YtknlapipkglnjaaGreatDoor



namespace Go.Proofs.YtknlapipkglnjaaGreatDoor

set_option maxRecDepth 100000 in
set_option maxHeartbeats 80000000 in
theorem parses_facts : joinedFacts Tryz.prog 4 Tryz.f4 (Rows.OpenSpec.upto Rows.shellParsesSpec).bare { Rows.shellParsesUptoRow with leaving := false } = true := by
  unfold joinedFacts
  simp only [Bool.and_eq_true]
  repeat' apply And.intro
  all_goals (as_aux_lemma => kernel_rfl)
theorem parses_goes : true = Rows.shellParsesUptoRow.goesBy Tryz.prog := by kernel_rfl
theorem parses_wf : Rows.shellParsesUptoRow.wf (Rows.OpenSpec.upto Rows.shellParsesSpec) = true := by kernel_rfl
theorem parses_text : Rows.shellParsesUptoRow.wfByText (Rows.OpenSpec.upto Rows.shellParsesSpec) = true := by kernel_rfl
end Go.Proofs.YtknlapipkglnjaaGreatDoor
