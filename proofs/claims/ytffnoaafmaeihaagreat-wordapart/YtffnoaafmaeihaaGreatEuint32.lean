/- What word's zeroWord, newWord, load, Do and Steps do for a word of the kind uint32, where no access is refused. -/
import Derived.Test.YtffnoaafmaeihaaGreatUuint32
import Derived.Test.YtffnoaafmaeihaaGreatOuts
import Derived.Test.YtffnoaafmaeihaaGreatRowErr
namespace Go.Proofs.YtffnoaafmaeihaaGreat
open Go.RowKit

theorem mdo_3 (b : Nat) (w : World) : (method 274 84 (.agg #[.int .i64 3, .iface 77 (.pointer (some ⟨b, 0, none⟩))]) "larch/word.do").run Tryz.prog w = .ok (74, (.agg #[.int .i64 3, .iface 77 (.pointer (some ⟨b, 0, none⟩))])) w := by kernel_rfl

set_option maxHeartbeats 400000 in
theorem zeroWord_3 (w : World) : Calls Tryz.prog 23 #[.int .i64 3] w fun e w' => e = .returned (.iface 84 (.agg #[.int .i64 3, .iface 77 (.pointer (some ⟨w.heap.size, 0, none⟩))])) ∧ w' = w.alloc (.cells #[.int .u32 0] 80) := by
  go_enter Tryz.func23, Tryz.ntmps23
  go_wp2
  go_ret
  exact ⟨rfl, rfl⟩

theorem cell_new_3 (w : World) : (w.alloc (.cells #[.int .u32 0] 80)).cell? ⟨w.heap.size, 0, none⟩ = some (cv 3 0) := by simp [cv]; try rfl
theorem u64_zero_3 : U64 0 := by unfold U64; omega
theorem do1_3 (b : Nat) (v : Int) (w : World) (hv : Cn 3 v) (hc : w.cell? ⟨b, 0, none⟩ = some (cv 3 v)) (hz : w.frozen? ⟨b, 0, none⟩ = false) (hb : b < w.heap.size) : Calls Tryz.prog 74 #[(.agg #[.int .i64 3, .iface 77 (.pointer (some ⟨b, 0, none⟩))]), .agg #[.int .i64 1, .int .u64 0, .int .u64 0]] w fun e w' => e = .returned (.agg #[.int .u64 v, .bool true]) ∧ Held b (cv 3 v) w w' := by
  refine (doAny_3 b v 1 0 0 w hv u64_zero_3 u64_zero_3 (by decide) hc hz hb).mono ?_
  rintro e w' ⟨rfl, h⟩
  rw [show nx 3 v 1 0 0 = v from by simp [nx]] at h
  rw [show ov 3 v 1 0 = v from by simp [ov], show ok 3 v 1 0 = true from by simp [ok]]
  exact ⟨rfl, h⟩
theorem do2_3 (b : Nat) (v : Int) (w : World) (hv : Cn 3 v) (hc : w.cell? ⟨b, 0, none⟩ = some (cv 3 v)) (hz : w.frozen? ⟨b, 0, none⟩ = false) (hb : b < w.heap.size) (A : Int) (hA : U64 A) : Calls Tryz.prog 74 #[(.agg #[.int .i64 3, .iface 77 (.pointer (some ⟨b, 0, none⟩))]), .agg #[.int .i64 2, .int .u64 A, .int .u64 0]] w fun e w' => e = .returned (.agg #[.int .u64 0, .bool true]) ∧ Held b (cv 3 (cut 3 A)) w w' := by
  have _hA := hA
  refine (doAny_3 b v 2 A 0 w hv hA u64_zero_3 (by decide) hc hz hb).mono ?_
  rintro e w' ⟨rfl, h⟩
  rw [show nx 3 v 2 A 0 = cut 3 A from by simp [nx]] at h
  rw [show ov 3 v 2 A = 0 from by simp [ov], show ok 3 v 2 A = true from by simp [ok]]
  exact ⟨rfl, h⟩

set_option maxHeartbeats 400000 in
theorem newWord_3 (start : Int) (hs : U64 start) (w : World) : Calls Tryz.prog 17 #[.int .i64 3, .int .u64 start] w fun e w' => e = .returned (.iface 84 (.agg #[.int .i64 3, .iface 77 (.pointer (some ⟨w.heap.size, 0, none⟩))])) ∧ Below w.heap.size w w' ∧ w.heap.size < w'.heap.size ∧ w'.cell? ⟨w.heap.size, 0, none⟩ = some (cv 3 (cut 3 start)) ∧ w'.frozen? ⟨w.heap.size, 0, none⟩ = false := by
  have hm := mdo_3
  have hcn : Cn 3 0 := by unfold Cn; rfl
  go_enter Tryz.func17, Tryz.ntmps17
  go_wp2_with (first | (go_at_call 23; refine (zeroWord_3 _).mono ?_; rintro e w' ⟨rfl, rfl⟩) | (go_at_call 74; refine (do2_3 w.heap.size 0 _ hcn (cell_new_3 w) (by simp) (by simp) start hs).mono ?_; rintro e w' ⟨rfl, hh⟩))
  go_ret
  have hoff := (hh.off.below (B := w.heap.size) (Nat.le_refl _) (by simp))
  exact ⟨rfl, ((Below.refl _ _).alloc (Nat.le_refl _) _).trans hoff, by have := hh.off.size; simp at this; omega, hh.cell, hh.fro⟩

theorem fval_3 (v : Int) (o : Bool) (w : World) : (Instr.field 44 (.agg #[.int .u64 v, .bool o]) 0).run Tryz.prog w = .ok (.int .u64 v) w := by kernel_rfl
set_option maxHeartbeats 400000 in
theorem load_3 (b : Nat) (v : Int) (w : World) (hv : Cn 3 v) (hc : w.cell? ⟨b, 0, none⟩ = some (cv 3 v)) (hz : w.frozen? ⟨b, 0, none⟩ = false) (hb : b < w.heap.size) : Calls Tryz.prog 18 #[(.iface 84 (.agg #[.int .i64 3, .iface 77 (.pointer (some ⟨b, 0, none⟩))]))] w fun e w' => e = .returned (.int .u64 v) ∧ Held b (cv 3 v) w w' := by
  have hm := mdo_3
  have hf := fval_3
  go_enter Tryz.func18, Tryz.ntmps18
  go_wp2_with (first | (go_at_call 74; refine (do1_3 b v _ hv hc hz hb).mono ?_; rintro e w' ⟨rfl, hh⟩))
  go_ret
  exact ⟨rfl, hh⟩

end Go.Proofs.YtffnoaafmaeihaaGreat
