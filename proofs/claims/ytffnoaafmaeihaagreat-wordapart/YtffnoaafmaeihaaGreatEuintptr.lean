/- What word's zeroWord, newWord, load, Do and Steps do for a word of the kind uintptr, where no access is refused. -/
import Derived.Test.YtffnoaafmaeihaaGreatUuintptr
import Derived.Test.YtffnoaafmaeihaaGreatOuts
import Derived.Test.YtffnoaafmaeihaaGreatRowErr
namespace Go.Proofs.YtffnoaafmaeihaaGreat
open Go.RowKit

theorem mdo_6 (b : Nat) (w : World) : (method 274 98 (.agg #[.int .i64 6, .iface 92 (.pointer (some ⟨b, 0, none⟩))]) "larch/word.do").run Tryz.prog w = .ok (106, (.agg #[.int .i64 6, .iface 92 (.pointer (some ⟨b, 0, none⟩))])) w := by kernel_rfl

set_option maxHeartbeats 400000 in
theorem zeroWord_6 (w : World) : Calls Tryz.prog 23 #[.int .i64 6] w fun e w' => e = .returned (.iface 98 (.agg #[.int .i64 6, .iface 92 (.pointer (some ⟨w.heap.size, 0, none⟩))])) ∧ w' = w.alloc (.cells #[.int .u64 0] 94) := by
  go_enter Tryz.func23, Tryz.ntmps23
  go_wp2
  go_ret
  exact ⟨rfl, rfl⟩

theorem cell_new_6 (w : World) : (w.alloc (.cells #[.int .u64 0] 94)).cell? ⟨w.heap.size, 0, none⟩ = some (cv 6 0) := by simp [cv]; try rfl
theorem u64_zero_6 : U64 0 := by unfold U64; omega
theorem do1_6 (b : Nat) (v : Int) (w : World) (hv : Cn 6 v) (hc : w.cell? ⟨b, 0, none⟩ = some (cv 6 v)) (hz : w.frozen? ⟨b, 0, none⟩ = false) (hb : b < w.heap.size) : Calls Tryz.prog 106 #[(.agg #[.int .i64 6, .iface 92 (.pointer (some ⟨b, 0, none⟩))]), .agg #[.int .i64 1, .int .u64 0, .int .u64 0]] w fun e w' => e = .returned (.agg #[.int .u64 v, .bool true]) ∧ Held b (cv 6 v) w w' := by
  refine (doAny_6 b v 1 0 0 w hv u64_zero_6 u64_zero_6 (by decide) hc hz hb).mono ?_
  rintro e w' ⟨rfl, h⟩
  rw [show nx 6 v 1 0 0 = v from by simp [nx]] at h
  rw [show ov 6 v 1 0 = v from by simp [ov], show ok 6 v 1 0 = true from by simp [ok]]
  exact ⟨rfl, h⟩
theorem do2_6 (b : Nat) (v : Int) (w : World) (hv : Cn 6 v) (hc : w.cell? ⟨b, 0, none⟩ = some (cv 6 v)) (hz : w.frozen? ⟨b, 0, none⟩ = false) (hb : b < w.heap.size) (A : Int) (hA : U64 A) : Calls Tryz.prog 106 #[(.agg #[.int .i64 6, .iface 92 (.pointer (some ⟨b, 0, none⟩))]), .agg #[.int .i64 2, .int .u64 A, .int .u64 0]] w fun e w' => e = .returned (.agg #[.int .u64 0, .bool true]) ∧ Held b (cv 6 (cut 6 A)) w w' := by
  have _hA := hA
  refine (doAny_6 b v 2 A 0 w hv hA u64_zero_6 (by decide) hc hz hb).mono ?_
  rintro e w' ⟨rfl, h⟩
  rw [show nx 6 v 2 A 0 = cut 6 A from by simp [nx]] at h
  rw [show ov 6 v 2 A = 0 from by simp [ov], show ok 6 v 2 A = true from by simp [ok]]
  exact ⟨rfl, h⟩

set_option maxHeartbeats 400000 in
theorem newWord_6 (start : Int) (hs : U64 start) (w : World) : Calls Tryz.prog 17 #[.int .i64 6, .int .u64 start] w fun e w' => e = .returned (.iface 98 (.agg #[.int .i64 6, .iface 92 (.pointer (some ⟨w.heap.size, 0, none⟩))])) ∧ Below w.heap.size w w' ∧ w.heap.size < w'.heap.size ∧ w'.cell? ⟨w.heap.size, 0, none⟩ = some (cv 6 (cut 6 start)) ∧ w'.frozen? ⟨w.heap.size, 0, none⟩ = false := by
  have hm := mdo_6
  have hcn : Cn 6 0 := by unfold Cn; rfl
  go_enter Tryz.func17, Tryz.ntmps17
  go_wp2_with (first | (go_at_call 23; refine (zeroWord_6 _).mono ?_; rintro e w' ⟨rfl, rfl⟩) | (go_at_call 106; refine (do2_6 w.heap.size 0 _ hcn (cell_new_6 w) (by simp) (by simp) start hs).mono ?_; rintro e w' ⟨rfl, hh⟩))
  go_ret
  have hoff := (hh.off.below (B := w.heap.size) (Nat.le_refl _) (by simp))
  exact ⟨rfl, ((Below.refl _ _).alloc (Nat.le_refl _) _).trans hoff, by have := hh.off.size; simp at this; omega, hh.cell, hh.fro⟩

theorem fval_6 (v : Int) (o : Bool) (w : World) : (Instr.field 44 (.agg #[.int .u64 v, .bool o]) 0).run Tryz.prog w = .ok (.int .u64 v) w := by kernel_rfl
set_option maxHeartbeats 400000 in
theorem load_6 (b : Nat) (v : Int) (w : World) (hv : Cn 6 v) (hc : w.cell? ⟨b, 0, none⟩ = some (cv 6 v)) (hz : w.frozen? ⟨b, 0, none⟩ = false) (hb : b < w.heap.size) : Calls Tryz.prog 18 #[(.iface 98 (.agg #[.int .i64 6, .iface 92 (.pointer (some ⟨b, 0, none⟩))]))] w fun e w' => e = .returned (.int .u64 v) ∧ Held b (cv 6 v) w w' := by
  have hm := mdo_6
  have hf := fval_6
  go_enter Tryz.func18, Tryz.ntmps18
  go_wp2_with (first | (go_at_call 106; refine (do1_6 b v _ hv hc hz hb).mono ?_; rintro e w' ⟨rfl, hh⟩))
  go_ret
  exact ⟨rfl, hh⟩

end Go.Proofs.YtffnoaafmaeihaaGreat
