
/- Layer 28: the atomic stores on the way to an empty map: cells, numbers, a record's info. -/

import Derived.Test.YtknlapipkglnjaaGreatDoorHNum

import Derived.Test.YtknlapipkglnjaaGreatDoorAtom

import Derived.LaidEql

namespace Go.Proofs.YtknlapipkglnjaaGreatDoor

open Go.RowKit

attribute [local go_sem ↓] Go.wp_at_zero Go.wp_at_succ

theorem run_call_storeP {P : Program} {f : FuncId} {fn : Func} (hf : P.funcs[f]? = some fn) (hname : (fn.name == "runtime.NumGoroutine") = false) (hb : fn.body.isNone = true) (hn : Extern.findNext fn = none)
    (he : Extern.find fn = some Extern.Atomic.storeT) {a : Addr} {y : Option Addr} {u : Value} {w : World} (hc : w.cell? a = some u) (hz : w.frozen? a = false) :
    (callFunc f #[.pointer (some a), .pointer y]).run P w = .ok (.value (.tuple #[])) (w.setCell a (.pointer y)) := by
  rw [run_callFunc_extern hf hname hb hn he]
  change (Sem.run P (do
    store (← asAddr (.pointer (some a))) (.pointer y) .atomic
    pure Extern.Atomic.none_) w).andThen _ = _
  simp [asAddr, hc, hz, run_store P w a (.pointer y) .atomic rfl, Extern.Atomic.none_, Result.andThen]
/-- nil, or where something lies. -/
def LiesP (w : World) (p : Option Addr) : Prop := p = none ∨ ∃ b v, p = some ⟨b, 0, none⟩ ∧ w.cell? ⟨b, 0, none⟩ = some v
theorem to_unsafe {P : Program} {src dst T : TypeId} (hs : P.underlying src = some (.pointer T)) (hd : P.underlying dst = some .unsafePointer) (hsz : (P.info? T).map (fun i => decide (i.size = 0)) = some false)
    {p : Option Addr} {w : World} (h : LiesP w p) : (convert src dst (.pointer p)).run P w = .ok (.pointer p) w := by
  rcases h with rfl | ⟨b, v, rfl, hb⟩
  · simp [convert, Conv.unsafePointer, run_underlying hs, run_underlying hd, Result.andThen]
  · exact run_convert_to_unsafe hs hd hsz hb
theorem pass_nil (k : Int) (w : World) : Calls Tryz.prog 203 #[.nilIface, .int .i64 k] w fun e w' => e = .returned (.tuple #[]) ∧ w' = w := by
  go_enter Tryz.func203, Tryz.ntmps203
  go_wp2_with fail
  go_end0
  exact ⟨rfl, rfl⟩
set_option maxRecDepth 100000 in
set_option maxHeartbeats 400000 in
theorem storeRec (b i : Nat) (y : Option Addr) (u : Value) (w : World) (hc : w.cell? ⟨b, i, none⟩ = some u) (hz : w.frozen? ⟨b, i, none⟩ = false) (hy : LiesP w y) :
    Calls Tryz.prog 179 #[.pointer (some ⟨b, i, none⟩), .nilIface, .pointer y] w fun e w' => e = .returned (.tuple #[]) ∧ w' = w.setCell ⟨b, i, none⟩ (.pointer y) := by
  have hl := run_call_storeP (P := Tryz.prog) Tryz.func246 (by kernel_rfl) (by kernel_rfl) (by kernel_rfl) (by kernel_rfl) (y := y) hc hz
  have hv := to_unsafe (P := Tryz.prog) (src := 184) (dst := 138) Tryz.underlying184 Tryz.underlying138 (by kernel_rfl) hy
  clear hy
  have HS : Hid (Calls Tryz.prog 205 #[.pointer (some ⟨b, i, none⟩), .pointer y] w fun e w' => e = .returned (.tuple #[]) ∧ w' = w.setCell ⟨b, i, none⟩ (.pointer y)) := by
    show Calls _ _ _ _ _
    go_enter Tryz.func205, Tryz.ntmps205
    go_wp2_with fail
    go_end0
    exact ⟨rfl, rfl⟩
  have HW : Hid (Calls Tryz.prog 204 #[.pointer (some ⟨b, i, none⟩)] w fun e w' => e = .returned (.pointer (some ⟨b, i, none⟩)) ∧ w' = w) := by
    show Calls _ _ _ _ _
    go_enter Tryz.func204, Tryz.ntmps204
    go_wp2_with fail
    go_ret
    exact ⟨rfl, rfl⟩
  go_enter Tryz.func179, Tryz.ntmps179
  go_wp2_with (first | (go_at_call 203; refine (pass_nil _ _).mono ?_; rintro e w' ⟨rfl, rfl⟩) | (go_at_call 204; refine HW.out.mono ?_; rintro e w' ⟨rfl, rfl⟩) | (go_at_call 205; refine HS.out.mono ?_; rintro e w' ⟨rfl, rfl⟩))
  go_end0
  exact ⟨rfl, rfl⟩
set_option maxRecDepth 100000 in
set_option maxHeartbeats 400000 in
theorem storeScx (b i : Nat) (y : Option Addr) (u : Value) (w : World) (hc : w.cell? ⟨b, i, none⟩ = some u) (hz : w.frozen? ⟨b, i, none⟩ = false) (hy : LiesP w y) :
    Calls Tryz.prog 181 #[.pointer (some ⟨b, i, none⟩), .nilIface, .pointer y] w fun e w' => e = .returned (.tuple #[]) ∧ w' = w.setCell ⟨b, i, none⟩ (.pointer y) := by
  have hl := run_call_storeP (P := Tryz.prog) Tryz.func246 (by kernel_rfl) (by kernel_rfl) (by kernel_rfl) (by kernel_rfl) (y := y) hc hz
  have hv := to_unsafe (P := Tryz.prog) (src := 220) (dst := 138) Tryz.underlying220 Tryz.underlying138 (by kernel_rfl) hy
  clear hy
  have HS : Hid (Calls Tryz.prog 209 #[.pointer (some ⟨b, i, none⟩), .pointer y] w fun e w' => e = .returned (.tuple #[]) ∧ w' = w.setCell ⟨b, i, none⟩ (.pointer y)) := by
    show Calls _ _ _ _ _
    go_enter Tryz.func209, Tryz.ntmps209
    go_wp2_with fail
    go_end0
    exact ⟨rfl, rfl⟩
  have HW : Hid (Calls Tryz.prog 208 #[.pointer (some ⟨b, i, none⟩)] w fun e w' => e = .returned (.pointer (some ⟨b, i, none⟩)) ∧ w' = w) := by
    show Calls _ _ _ _ _
    go_enter Tryz.func208, Tryz.ntmps208
    go_wp2_with fail
    go_ret
    exact ⟨rfl, rfl⟩
  go_enter Tryz.func181, Tryz.ntmps181
  go_wp2_with (first | (go_at_call 203; refine (pass_nil _ _).mono ?_; rintro e w' ⟨rfl, rfl⟩) | (go_at_call 208; refine HW.out.mono ?_; rintro e w' ⟨rfl, rfl⟩) | (go_at_call 209; refine HS.out.mono ?_; rintro e w' ⟨rfl, rfl⟩))
  go_end0
  exact ⟨rfl, rfl⟩
set_option maxRecDepth 100000 in
set_option maxHeartbeats 400000 in
theorem abort_any (b : Nat) (x : Int) (w : World) (hc : w.cell? ⟨b, 7, none⟩ = some (.int .i64 x)) (hz : w.frozen? ⟨b, 7, none⟩ = false) :
    Calls Tryz.prog 180 #[.pointer (some ⟨b, 0, none⟩), .nilIface] w fun e w' => e = .returned (.tuple #[]) ∧ w' = w.setCell ⟨b, 7, none⟩ (.int .i64 2) := by
  have hl := run_call_store (P := Tryz.prog) Tryz.func273 (by kernel_rfl) (by kernel_rfl) (by kernel_rfl) (by kernel_rfl) (k := .i64) (y := 2) hc hz
  have HA : Hid (Calls Tryz.prog 248 #[.pointer (some ⟨b, 7, none⟩), .int .i64 2] w fun e w' => e = .returned (.tuple #[]) ∧ w' = w.setCell ⟨b, 7, none⟩ (.int .i64 2)) := by
    show Calls _ _ _ _ _
    go_enter Tryz.func248, Tryz.ntmps248
    go_wp2_with fail
    go_end0
    exact ⟨rfl, rfl⟩
  have HW : Hid (Calls Tryz.prog 247 #[.pointer (some ⟨b, 7, none⟩)] w fun e w' => e = .returned (.pointer (some ⟨b, 7, none⟩)) ∧ w' = w) := by
    show Calls _ _ _ _ _
    go_enter Tryz.func247, Tryz.ntmps247
    go_wp2_with fail
    go_ret
    exact ⟨rfl, rfl⟩
  have HN : Hid (Calls Tryz.prog 207 #[.pointer (some ⟨b, 7, none⟩), .nilIface, .int .i64 2] w fun e w' => e = .returned (.tuple #[]) ∧ w' = w.setCell ⟨b, 7, none⟩ (.int .i64 2)) := by
    show Calls _ _ _ _ _
    go_enter Tryz.func207, Tryz.ntmps207
    go_wp2_with (first | (go_at_call 203; refine (pass_nil _ _).mono ?_; rintro e w' ⟨rfl, rfl⟩) | (go_at_call 247; refine HW.out.mono ?_; rintro e w' ⟨rfl, rfl⟩) | (go_at_call 248; refine HA.out.mono ?_; rintro e w' ⟨rfl, rfl⟩))
    go_end0
    exact ⟨rfl, rfl⟩
  have HC : Hid (Calls Tryz.prog 206 #[.pointer (some ⟨b, 0, none⟩)] w fun e w' => e = .returned (.pointer (some ⟨b, 7, none⟩)) ∧ w' = w) := by
    show Calls _ _ _ _ _
    go_enter Tryz.func206, Tryz.ntmps206
    go_wp2_with fail
    go_ret
    exact ⟨rfl, rfl⟩
  go_enter Tryz.func180, Tryz.ntmps180
  go_wp2_with (first | (go_at_call 206; refine HC.out.mono ?_; rintro e w' ⟨rfl, rfl⟩) | (go_at_call 207; refine HN.out.mono ?_; rintro e w' ⟨rfl, rfl⟩))
  go_end0
  exact ⟨rfl, rfl⟩
end Go.Proofs.YtknlapipkglnjaaGreatDoor
