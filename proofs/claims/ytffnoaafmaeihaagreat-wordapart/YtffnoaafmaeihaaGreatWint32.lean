/- What sync/atomic's methods of Int32, and word's do over such a word, do to the world: contracts, a case each. -/
import Derived.Test.YtffnoaafmaeihaaGreatRows
import Derived.WalkKit
import Derived.WalkSpells
import Derived.WalkLawsBesides
import Derived.Deep.RegionHeld3
import Derived.Deep.DrawnRows
import Derived.Test.YtffnoaafmaeihaaGreatAtom
import Derived.Test.YtffnoaafmaeihaaGreatBase
namespace Go.Proofs.YtffnoaafmaeihaaGreat
open Go.RowKit
attribute [local go_sem ↓] Go.wp_at_zero Go.wp_at_succ

theorem aload_int32 (b : Nat) (x : Int) (w : World) (hc : w.cell? ⟨b, 0, none⟩ = some (.int .i32 x)) :
    Calls Tryz.prog 39 #[.pointer (some ⟨b, 0, none⟩)] w fun e w' => e = .returned (.int .i32 x) ∧ w' = w := by
  have hl := run_call_load (P := Tryz.prog) Tryz.func42 (by kernel_rfl) (by kernel_rfl) (by kernel_rfl) .i32 (by kernel_rfl) hc
  go_enter Tryz.func39, Tryz.ntmps39
  go_wp2
  go_ret
  exact ⟨rfl, rfl⟩

theorem astore_int32 (b : Nat) (x y : Int) (w : World) (hc : w.cell? ⟨b, 0, none⟩ = some (.int .i32 x)) (hz : w.frozen? ⟨b, 0, none⟩ = false) :
    Calls Tryz.prog 120 #[.pointer (some ⟨b, 0, none⟩), .int .i32 y] w fun e w' => e = .returned (.tuple #[]) ∧ w' = w.setCell ⟨b, 0, none⟩ (.int .i32 y) := by
  have hl := run_call_store (P := Tryz.prog) Tryz.func126 (by kernel_rfl) (by kernel_rfl) (by kernel_rfl) (by kernel_rfl) (k := .i32) (y := y) hc hz
  go_enter Tryz.func120, Tryz.ntmps120
  go_wp2
  go_end0
  exact ⟨rfl, rfl⟩

theorem aswap_int32 (b : Nat) (x y : Int) (w : World) (hc : w.cell? ⟨b, 0, none⟩ = some (.int .i32 x)) (hz : w.frozen? ⟨b, 0, none⟩ = false) :
    Calls Tryz.prog 121 #[.pointer (some ⟨b, 0, none⟩), .int .i32 y] w fun e w' => e = .returned (.int .i32 x) ∧ w' = w.setCell ⟨b, 0, none⟩ (.int .i32 y) := by
  have hl := run_call_swap (P := Tryz.prog) Tryz.func127 (by kernel_rfl) (by kernel_rfl) (by kernel_rfl) .i32 (by kernel_rfl) (y := y) hc hz
  go_enter Tryz.func121, Tryz.ntmps121
  go_wp2
  go_ret
  exact ⟨rfl, rfl⟩

theorem aadd_int32 (b : Nat) (x y : Int) (w : World) (hc : w.cell? ⟨b, 0, none⟩ = some (.int .i32 x)) (hz : w.frozen? ⟨b, 0, none⟩ = false) (s : Int) (hs : IntKind.i32.wrap (x + y) = s) :
    Calls Tryz.prog 116 #[.pointer (some ⟨b, 0, none⟩), .int .i32 y] w fun e w' => e = .returned (.int .i32 s) ∧ w' = w.setCell ⟨b, 0, none⟩ (.int .i32 s) := by
  have hl := run_call_add (P := Tryz.prog) Tryz.func122 (by kernel_rfl) (by kernel_rfl) (by kernel_rfl) .i32 (by kernel_rfl) (y := y) hc hz (s := s) (by rw [← hs]; rfl)
  clear hs
  go_enter Tryz.func116, Tryz.ntmps116
  go_wp2
  go_ret
  exact ⟨rfl, rfl⟩

theorem aand_int32 (b : Nat) (x y : Int) (w : World) (hc : w.cell? ⟨b, 0, none⟩ = some (.int .i32 x)) (hz : w.frozen? ⟨b, 0, none⟩ = false) (s : Int) (hs : bits .and .i32 x y = s) :
    Calls Tryz.prog 117 #[.pointer (some ⟨b, 0, none⟩), .int .i32 y] w fun e w' => e = .returned (.int .i32 x) ∧ w' = w.setCell ⟨b, 0, none⟩ (.int .i32 s) := by
  have hl := run_call_bits (P := Tryz.prog) .and Tryz.func123 (by kernel_rfl) (by kernel_rfl) (by kernel_rfl) .i32 (by kernel_rfl) (y := y) hc hz (s := s) (by rw [← hs]; rfl)
  clear hs
  go_enter Tryz.func117, Tryz.ntmps117
  go_wp2
  go_ret
  exact ⟨rfl, rfl⟩

theorem aor_int32 (b : Nat) (x y : Int) (w : World) (hc : w.cell? ⟨b, 0, none⟩ = some (.int .i32 x)) (hz : w.frozen? ⟨b, 0, none⟩ = false) (s : Int) (hs : bits .or .i32 x y = s) :
    Calls Tryz.prog 119 #[.pointer (some ⟨b, 0, none⟩), .int .i32 y] w fun e w' => e = .returned (.int .i32 x) ∧ w' = w.setCell ⟨b, 0, none⟩ (.int .i32 s) := by
  have hl := run_call_bits (P := Tryz.prog) .or Tryz.func125 (by kernel_rfl) (by kernel_rfl) (by kernel_rfl) .i32 (by kernel_rfl) (y := y) hc hz (s := s) (by rw [← hs]; rfl)
  clear hs
  go_enter Tryz.func119, Tryz.ntmps119
  go_wp2
  go_ret
  exact ⟨rfl, rfl⟩

theorem ahit_int32 (b : Nat) (x o y : Int) (w : World) (hc : w.cell? ⟨b, 0, none⟩ = some (.int .i32 x)) (hz : w.frozen? ⟨b, 0, none⟩ = false) (ho : x = o) :
    Calls Tryz.prog 118 #[.pointer (some ⟨b, 0, none⟩), .int .i32 o, .int .i32 y] w fun e w' => e = .returned (.bool true) ∧ w' = w.setCell ⟨b, 0, none⟩ (.int .i32 y) := by
  subst ho
  have hl := run_call_cas_hit (P := Tryz.prog) Tryz.func124 (by kernel_rfl) (by kernel_rfl) (by kernel_rfl) .i32 (by kernel_rfl) (y := y) hc hz
  go_enter Tryz.func118, Tryz.ntmps118
  go_wp2
  go_ret
  exact ⟨rfl, rfl⟩

theorem amiss_int32 (b : Nat) (x o y : Int) (w : World) (hc : w.cell? ⟨b, 0, none⟩ = some (.int .i32 x)) (hz : w.frozen? ⟨b, 0, none⟩ = false) (hne : ¬ x = o) :
    Calls Tryz.prog 118 #[.pointer (some ⟨b, 0, none⟩), .int .i32 o, .int .i32 y] w fun e w' => e = .returned (.bool false) ∧ w' = w := by
  have hl := run_call_cas_miss (P := Tryz.prog) Tryz.func124 (by kernel_rfl) (by kernel_rfl) (by kernel_rfl) .i32 (by kernel_rfl) (o := o) (y := y) hc hz hne
  clear hne
  go_enter Tryz.func118, Tryz.ntmps118
  go_wp2
  go_ret
  exact ⟨rfl, rfl⟩

set_option maxHeartbeats 400000 in
theorem got_int32 (pv : Value) (x : Int) (w : World) (z : Int) (hz : IntKind.u64.wrap x % 4294967296 = z) :
    Calls Tryz.prog 41 #[.agg #[.int .i64 1, pv], .int .i32 x] w fun e w' => e = .returned (.agg #[.int .u64 z, .bool true]) ∧ Below w.heap.size w w' := by
  subst hz
  go_enter Tryz.func41, Tryz.ntmps41
  go_wp2_with (go_at_call 43; refine (narrow_32 1 (by omega) _ _).mono ?_; rintro e w' ⟨rfl, rfl⟩)
  exact bodyPost_ret (v := .agg #[.int .u64 (IntKind.u64.wrap x % 4294967296), .bool true]) (by simp [results, Tryz.results41, go_sem]) rfl ⟨rfl, ((Below.refl _ _).alloc (Nat.le_refl _) _).alloc (by simp) _⟩

theorem mLoad_int32 (a : Addr) (w : World) : (method 274 60 (.pointer (some a)) "Load").run Tryz.prog w = .ok (39, .pointer (some a)) w := by kernel_rfl
theorem mStore_int32 (a : Addr) (w : World) : (method 274 60 (.pointer (some a)) "Store").run Tryz.prog w = .ok (120, .pointer (some a)) w := by kernel_rfl
theorem mAdd_int32 (a : Addr) (w : World) : (method 274 60 (.pointer (some a)) "Add").run Tryz.prog w = .ok (116, .pointer (some a)) w := by kernel_rfl
theorem mSwap_int32 (a : Addr) (w : World) : (method 274 60 (.pointer (some a)) "Swap").run Tryz.prog w = .ok (121, .pointer (some a)) w := by kernel_rfl
theorem mCompareAndSwap_int32 (a : Addr) (w : World) : (method 274 60 (.pointer (some a)) "CompareAndSwap").run Tryz.prog w = .ok (118, .pointer (some a)) w := by kernel_rfl
theorem mAnd_int32 (a : Addr) (w : World) : (method 274 60 (.pointer (some a)) "And").run Tryz.prog w = .ok (117, .pointer (some a)) w := by kernel_rfl
theorem mOr_int32 (a : Addr) (w : World) : (method 274 60 (.pointer (some a)) "Or").run Tryz.prog w = .ok (119, .pointer (some a)) w := by kernel_rfl

end Go.Proofs.YtffnoaafmaeihaaGreat
