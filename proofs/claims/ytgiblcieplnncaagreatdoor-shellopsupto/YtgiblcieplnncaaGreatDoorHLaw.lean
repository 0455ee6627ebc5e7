
/- Layer 28: the law ShellTells. -/

import Derived.Test.YtgiblcieplnncaaGreatDoorHTell

namespace Go.Proofs.YtgiblcieplnncaaGreatDoor

open Go.RowKit

attribute [local go_sem ↓] Go.wp_at_zero Go.wp_at_succ

theorem pairs_lit (w : World) : PairsAt (w.alloc (.cells #[.int .i64 1, .int .i64 2, .int .i64 3, .int .i64 4] 44)) (some ⟨w.heap.size, 0, none⟩) w.heap.size 0 [(1, 2), (3, 4)] := by
  have hb : (w.alloc (.cells #[.int .i64 1, .int .i64 2, .int .i64 3, .int .i64 4] 44)).heap[w.heap.size]? = some (.cells #[.int .i64 1, .int .i64 2, .int .i64 3, .int .i64 4] 44) := heap_alloc_at _ _ _ rfl
  refine ⟨fun _ => rfl, fun _ => by simp, fun i hi => ?_, by simp [maxLen]⟩
  rcases (by simp at hi; omega : i = 0 ∨ i = 1) with rfl | rfl
  · simp only [World.cell?, hb]
    exact ⟨rfl, rfl⟩
  · simp only [World.cell?, hb]
    exact ⟨rfl, rfl⟩
theorem samp : tellL 0 true ⟨9, 0, 0, 9⟩ ⟨true, 0, 0, [(1, 2), (3, 4)]⟩ = [116, 48, 32, 114, 97, 110, 103, 101, 32, 48, 32, 57, 32, 45, 62, 32, 121, 101, 115, 32, 49, 58, 50, 32, 51, 58, 52] := by kernel_rfl
theorem small {a : Int} (h : 0 ≤ a ∧ a ≤ 100) : In64 a := by unfold In64; omega
set_option maxRecDepth 100000 in
set_option maxHeartbeats 2000000 in
theorem awake_any (w : World) (hl : HLB w.heap.size w) : Calls Tryz.prog 5 #[] w fun e w' => e = .returned (.bool true) ∧ Below w.heap.size w w' := by
  have HL : Hid (HLB _ _) := hl
  clear hl
  have TL : Hid (∀ W : World, Below w.heap.size w W → Calls Tryz.prog 11 #[.agg #[.int .i64 0, .bool true, .int .i64 9, .int .i64 0, .int .i64 0, .int .i64 9, .bool true, .int .i64 0, .int .i64 0, .slice (some ⟨W.heap.size, 0, none⟩) 2 2]] (W.alloc (.cells #[.int .i64 1, .int .i64 2, .int .i64 3, .int .i64 4] 44)) fun e w' => e = .returned (.string ⟨#[116, 48, 32, 114, 97, 110, 103, 101, 32, 48, 32, 57, 32, 45, 62, 32, 121, 101, 115, 32, 49, 58, 50, 32, 51, 58, 52]⟩) ∧ Below w.heap.size w w') := by
    intro W hW
    have hB := hW.alloc hW.size (.cells #[.int .i64 1, .int .i64 2, .int .i64 3, .int .i64 4] 44)
    have h := tell_any 0 true ⟨9, 0, 0, 9⟩ ⟨true, 0, 0, [(1, 2), (3, 4)]⟩ (some ⟨W.heap.size, 0, none⟩) 2 W.heap.size 0 (W.alloc (.cells #[.int .i64 1, .int .i64 2, .int .i64 3, .int .i64 4] 44)) (small (by decide)) ⟨small (by decide), small (by decide), small (by decide), small (by decide)⟩ ⟨small (by decide), small (by decide), fun i hi => by
      rcases (by simp at hi; omega : i = 0 ∨ i = 1) with rfl | rfl
      · exact ⟨small (by decide), small (by decide)⟩
      · exact ⟨small (by decide), small (by decide)⟩⟩ (pairs_lit W) (by simp) (HL.out.on hB)
    rw [samp] at h
    refine h.mono ?_
    rintro e w' ⟨rfl, hb⟩
    exact ⟨rfl, hB.trans (hb.mono hB.size)⟩
  go_enter Tryz.func5, Tryz.ntmps5
  go_wp2_with (first | (go_at_call 13; refine (run_nil _ HL.out).mono ?_; rintro e w1 ⟨rfl, hb1⟩; have B1 : Hid (Below _ _ w1) := hb1; clear hb1) | (go_at_call 11; refine (TL.out _ B1.out).mono ?_; rintro e w2 ⟨rfl, hb2⟩; have B2 : Hid (Below w.heap.size w w2) := hb2; clear hb2))
  go_ret
  exact ⟨rfl, B2.out⟩
set_option maxRecDepth 100000 in
set_option maxHeartbeats 4000000 in
theorem tells_law (th : Int) (ret : Bool) (kd ky vl hh : Int) (ok : Bool) (rk rv : Int) (pb : Option Addr) (n pc : Nat) (X : List UInt8) (w : World) (hl : HLB w.heap.size w)
    (tp : ∀ W, Below w.heap.size w W → Calls Tryz.prog 11 #[.agg #[.int .i64 th, .bool ret, .int .i64 kd, .int .i64 ky, .int .i64 vl, .int .i64 hh, .bool ok, .int .i64 rk, .int .i64 rv, .slice pb n pc]] W fun e w' => e = .returned (.string ⟨X.toArray⟩) ∧ Below W.heap.size W w')
    (tr : ∀ W, Below w.heap.size w W → Calls Tryz.prog 12 #[.agg #[.int .i64 th, .bool ret, .int .i64 kd, .int .i64 ky, .int .i64 vl, .int .i64 hh, .bool ok, .int .i64 rk, .int .i64 rv, .slice pb n pc]] W fun e w' => e = .returned (.string ⟨X.toArray⟩) ∧ Below W.heap.size W w') :
    Calls Tryz.prog 4 #[.agg #[.int .i64 th, .bool ret, .int .i64 kd, .int .i64 ky, .int .i64 vl, .int .i64 hh, .bool ok, .int .i64 rk, .int .i64 rv, .slice pb n pc]] w fun e w' => e = .returned (.bool true) ∧ Below w.heap.size w w' := by
  have HL : Hid (HLB _ _) := hl
  have TP : Hid (∀ W, Below w.heap.size w W → Calls Tryz.prog 11 #[.agg #[.int .i64 th, .bool ret, .int .i64 kd, .int .i64 ky, .int .i64 vl, .int .i64 hh, .bool ok, .int .i64 rk, .int .i64 rv, .slice pb n pc]] W fun e w' => e = .returned (.string ⟨X.toArray⟩) ∧ Below W.heap.size W w') := tp
  have TR : Hid (∀ W, Below w.heap.size w W → Calls Tryz.prog 12 #[.agg #[.int .i64 th, .bool ret, .int .i64 kd, .int .i64 ky, .int .i64 vl, .int .i64 hh, .bool ok, .int .i64 rk, .int .i64 rv, .slice pb n pc]] W fun e w' => e = .returned (.string ⟨X.toArray⟩) ∧ Below W.heap.size W w') := tr
  have K0 : Hid True := trivial
  have KT : Hid True := trivial
  have KR : Hid True := trivial
  clear hl tp tr
  have BA : Hid (Below w.heap.size w (w.alloc (.cells #[.int .i64 th, .bool ret, .int .i64 kd, .int .i64 ky, .int .i64 vl, .int .i64 hh, .bool ok, .int .i64 rk, .int .i64 rv, .slice pb n pc] 39))) := below_alloc _ _
  have B0 : Hid (Below (w.alloc (.cells #[.int .i64 th, .bool ret, .int .i64 kd, .int .i64 ky, .int .i64 vl, .int .i64 hh, .bool ok, .int .i64 rk, .int .i64 rv, .slice pb n pc] 39)).heap.size (w.alloc (.cells #[.int .i64 th, .bool ret, .int .i64 kd, .int .i64 ky, .int .i64 vl, .int .i64 hh, .bool ok, .int .i64 rk, .int .i64 rv, .slice pb n pc] 39)) (w.alloc (.cells #[.int .i64 th, .bool ret, .int .i64 kd, .int .i64 ky, .int .i64 vl, .int .i64 hh, .bool ok, .int .i64 rk, .int .i64 rv, .slice pb n pc] 39))) := Below.refl _ _
  go_enter Tryz.func4, Tryz.ntmps4
  go_wp2_with fail
  go_region_held3 (fun w' => w'.cell? ⟨w.heap.size, 0, none⟩ = some (.int .i64 th) ∧ w'.cell? ⟨w.heap.size, 1, none⟩ = some (.bool ret) ∧ w'.cell? ⟨w.heap.size, 2, none⟩ = some (.int .i64 kd) ∧ w'.cell? ⟨w.heap.size, 3, none⟩ = some (.int .i64 ky) ∧ w'.cell? ⟨w.heap.size, 4, none⟩ = some (.int .i64 vl) ∧ w'.cell? ⟨w.heap.size, 5, none⟩ = some (.int .i64 hh) ∧ w'.cell? ⟨w.heap.size, 6, none⟩ = some (.bool ok) ∧ w'.cell? ⟨w.heap.size, 7, none⟩ = some (.int .i64 rk) ∧ w'.cell? ⟨w.heap.size, 8, none⟩ = some (.int .i64 rv) ∧ w'.cell? ⟨w.heap.size, 9, none⟩ = some (.slice pb n pc))
    (first | go_keep | (with_reducible exact X1.out) | (with_reducible exact X2.out) | (with_reducible exact X3.out) | (with_reducible exact X4.out))
    (first | (go_at_call 5; have q := K0; refine (awake_any _ (HL.out.on (by first | exact BA.out.trans (B0.out.mono BA.out.size) | exact below_drewB (BA.out.trans (B0.out.mono BA.out.size))))).mono ?_; rintro e z1 ⟨rfl, hb1⟩; have B1 : Hid (Below (w.alloc (.cells #[.int .i64 th, .bool ret, .int .i64 kd, .int .i64 ky, .int .i64 vl, .int .i64 hh, .bool ok, .int .i64 rk, .int .i64 rv, .slice pb n pc] 39)).heap.size (w.alloc (.cells #[.int .i64 th, .bool ret, .int .i64 kd, .int .i64 ky, .int .i64 vl, .int .i64 hh, .bool ok, .int .i64 rk, .int .i64 rv, .slice pb n pc] 39)) z1) := (by first | exact B0.out.trans (hb1.mono B0.out.size) | exact B0.out.trans (Below.mono ⟨hb1.os, hb1.tape, hb1.output, hb1.size, hb1.block⟩ B0.out.size)); have X1 : Hid (z1.cell? ⟨w.heap.size, 0, none⟩ = some (.int .i64 th) ∧ z1.cell? ⟨w.heap.size, 1, none⟩ = some (.bool ret) ∧ z1.cell? ⟨w.heap.size, 2, none⟩ = some (.int .i64 kd) ∧ z1.cell? ⟨w.heap.size, 3, none⟩ = some (.int .i64 ky) ∧ z1.cell? ⟨w.heap.size, 4, none⟩ = some (.int .i64 vl) ∧ z1.cell? ⟨w.heap.size, 5, none⟩ = some (.int .i64 hh) ∧ z1.cell? ⟨w.heap.size, 6, none⟩ = some (.bool ok) ∧ z1.cell? ⟨w.heap.size, 7, none⟩ = some (.int .i64 rk) ∧ z1.cell? ⟨w.heap.size, 8, none⟩ = some (.int .i64 rv) ∧ z1.cell? ⟨w.heap.size, 9, none⟩ = some (.slice pb n pc)) := tbox10 B1.out; clear q hb1 K0) | (go_at_call 11; have q := KT; refine (TP.out _ (by first | exact BA.out.trans (B1.out.mono BA.out.size) | exact below_drewB (BA.out.trans (B1.out.mono BA.out.size)))).mono ?_; rintro e z2 ⟨rfl, hb2⟩; have B2 : Hid (Below (w.alloc (.cells #[.int .i64 th, .bool ret, .int .i64 kd, .int .i64 ky, .int .i64 vl, .int .i64 hh, .bool ok, .int .i64 rk, .int .i64 rv, .slice pb n pc] 39)).heap.size (w.alloc (.cells #[.int .i64 th, .bool ret, .int .i64 kd, .int .i64 ky, .int .i64 vl, .int .i64 hh, .bool ok, .int .i64 rk, .int .i64 rv, .slice pb n pc] 39)) z2) := (by first | exact B1.out.trans (hb2.mono B1.out.size) | exact B1.out.trans (Below.mono ⟨hb2.os, hb2.tape, hb2.output, hb2.size, hb2.block⟩ B1.out.size)); have X2 : Hid (z2.cell? ⟨w.heap.size, 0, none⟩ = some (.int .i64 th) ∧ z2.cell? ⟨w.heap.size, 1, none⟩ = some (.bool ret) ∧ z2.cell? ⟨w.heap.size, 2, none⟩ = some (.int .i64 kd) ∧ z2.cell? ⟨w.heap.size, 3, none⟩ = some (.int .i64 ky) ∧ z2.cell? ⟨w.heap.size, 4, none⟩ = some (.int .i64 vl) ∧ z2.cell? ⟨w.heap.size, 5, none⟩ = some (.int .i64 hh) ∧ z2.cell? ⟨w.heap.size, 6, none⟩ = some (.bool ok) ∧ z2.cell? ⟨w.heap.size, 7, none⟩ = some (.int .i64 rk) ∧ z2.cell? ⟨w.heap.size, 8, none⟩ = some (.int .i64 rv) ∧ z2.cell? ⟨w.heap.size, 9, none⟩ = some (.slice pb n pc)) := tbox10 B2.out; clear q hb2 KT KR) | (go_at_call 12; have q := KR; refine (TR.out _ (by first | exact BA.out.trans (B1.out.mono BA.out.size) | exact below_drewB (BA.out.trans (B1.out.mono BA.out.size)))).mono ?_; rintro e z3 ⟨rfl, hb3⟩; have B3 : Hid (Below (w.alloc (.cells #[.int .i64 th, .bool ret, .int .i64 kd, .int .i64 ky, .int .i64 vl, .int .i64 hh, .bool ok, .int .i64 rk, .int .i64 rv, .slice pb n pc] 39)).heap.size (w.alloc (.cells #[.int .i64 th, .bool ret, .int .i64 kd, .int .i64 ky, .int .i64 vl, .int .i64 hh, .bool ok, .int .i64 rk, .int .i64 rv, .slice pb n pc] 39)) z3) := (by first | exact B1.out.trans (hb3.mono B1.out.size) | exact B1.out.trans (Below.mono ⟨hb3.os, hb3.tape, hb3.output, hb3.size, hb3.block⟩ B1.out.size)); have X3 : Hid (z3.cell? ⟨w.heap.size, 0, none⟩ = some (.int .i64 th) ∧ z3.cell? ⟨w.heap.size, 1, none⟩ = some (.bool ret) ∧ z3.cell? ⟨w.heap.size, 2, none⟩ = some (.int .i64 kd) ∧ z3.cell? ⟨w.heap.size, 3, none⟩ = some (.int .i64 ky) ∧ z3.cell? ⟨w.heap.size, 4, none⟩ = some (.int .i64 vl) ∧ z3.cell? ⟨w.heap.size, 5, none⟩ = some (.int .i64 hh) ∧ z3.cell? ⟨w.heap.size, 6, none⟩ = some (.bool ok) ∧ z3.cell? ⟨w.heap.size, 7, none⟩ = some (.int .i64 rk) ∧ z3.cell? ⟨w.heap.size, 8, none⟩ = some (.int .i64 rv) ∧ z3.cell? ⟨w.heap.size, 9, none⟩ = some (.slice pb n pc)) := tbox10 B3.out; clear q hb3 KT KR) | (go_at_call 12; have q := B2; refine (TR.out _ (by first | exact BA.out.trans (B2.out.mono BA.out.size) | exact below_drewB (BA.out.trans (B2.out.mono BA.out.size)))).mono ?_; rintro e z4 ⟨rfl, hb4⟩; have B4 : Hid (Below (w.alloc (.cells #[.int .i64 th, .bool ret, .int .i64 kd, .int .i64 ky, .int .i64 vl, .int .i64 hh, .bool ok, .int .i64 rk, .int .i64 rv, .slice pb n pc] 39)).heap.size (w.alloc (.cells #[.int .i64 th, .bool ret, .int .i64 kd, .int .i64 ky, .int .i64 vl, .int .i64 hh, .bool ok, .int .i64 rk, .int .i64 rv, .slice pb n pc] 39)) z4) := (by first | exact B2.out.trans (hb4.mono B2.out.size) | exact B2.out.trans (Below.mono ⟨hb4.os, hb4.tape, hb4.output, hb4.size, hb4.block⟩ B2.out.size)); have X4 : Hid (z4.cell? ⟨w.heap.size, 0, none⟩ = some (.int .i64 th) ∧ z4.cell? ⟨w.heap.size, 1, none⟩ = some (.bool ret) ∧ z4.cell? ⟨w.heap.size, 2, none⟩ = some (.int .i64 kd) ∧ z4.cell? ⟨w.heap.size, 3, none⟩ = some (.int .i64 ky) ∧ z4.cell? ⟨w.heap.size, 4, none⟩ = some (.int .i64 vl) ∧ z4.cell? ⟨w.heap.size, 5, none⟩ = some (.int .i64 hh) ∧ z4.cell? ⟨w.heap.size, 6, none⟩ = some (.bool ok) ∧ z4.cell? ⟨w.heap.size, 7, none⟩ = some (.int .i64 rk) ∧ z4.cell? ⟨w.heap.size, 8, none⟩ = some (.int .i64 rv) ∧ z4.cell? ⟨w.heap.size, 9, none⟩ = some (.slice pb n pc)) := tbox10 B4.out; clear q hb4 ) | (go_at_call 11; have q := B3; refine (TP.out _ (by first | exact BA.out.trans (B3.out.mono BA.out.size) | exact below_drewB (BA.out.trans (B3.out.mono BA.out.size)))).mono ?_; rintro e z4 ⟨rfl, hb4⟩; have B4 : Hid (Below (w.alloc (.cells #[.int .i64 th, .bool ret, .int .i64 kd, .int .i64 ky, .int .i64 vl, .int .i64 hh, .bool ok, .int .i64 rk, .int .i64 rv, .slice pb n pc] 39)).heap.size (w.alloc (.cells #[.int .i64 th, .bool ret, .int .i64 kd, .int .i64 ky, .int .i64 vl, .int .i64 hh, .bool ok, .int .i64 rk, .int .i64 rv, .slice pb n pc] 39)) z4) := (by first | exact B3.out.trans (hb4.mono B3.out.size) | exact B3.out.trans (Below.mono ⟨hb4.os, hb4.tape, hb4.output, hb4.size, hb4.block⟩ B3.out.size)); have X4 : Hid (z4.cell? ⟨w.heap.size, 0, none⟩ = some (.int .i64 th) ∧ z4.cell? ⟨w.heap.size, 1, none⟩ = some (.bool ret) ∧ z4.cell? ⟨w.heap.size, 2, none⟩ = some (.int .i64 kd) ∧ z4.cell? ⟨w.heap.size, 3, none⟩ = some (.int .i64 ky) ∧ z4.cell? ⟨w.heap.size, 4, none⟩ = some (.int .i64 vl) ∧ z4.cell? ⟨w.heap.size, 5, none⟩ = some (.int .i64 hh) ∧ z4.cell? ⟨w.heap.size, 6, none⟩ = some (.bool ok) ∧ z4.cell? ⟨w.heap.size, 7, none⟩ = some (.int .i64 rk) ∧ z4.cell? ⟨w.heap.size, 8, none⟩ = some (.int .i64 rv) ∧ z4.cell? ⟨w.heap.size, 9, none⟩ = some (.slice pb n pc)) := tbox10 B4.out; clear q hb4 ))
  all_goals
    go_wp2_with fail
    go_ret
    exact ⟨rfl, (by first | exact BA.out.trans (B4.out.mono BA.out.size) | exact (BA.out.trans (B4.out.mono BA.out.size)).drew)⟩
end Go.Proofs.YtgiblcieplnncaaGreatDoor
