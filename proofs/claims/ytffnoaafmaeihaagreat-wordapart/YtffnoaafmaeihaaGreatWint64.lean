/- What sync/atomic's methods of Int64, and word's do over such a word, do to the world: contracts, a case each. -/
import Derived.Test.YtffnoaafmaeihaaGreatRows
import Derived.WalkKit
import Derived.WalkSpells
import Derived.WalkLawsBesides
import Derived.Deep.RegionHeld3
import Derived.Deep.DrawnRows
import Derived.Test.YtffnoaafmaeihaaGreatAtom
import Derived.Test.YtffnoaafmaeihaaGreatBase
namespace Go.Proofs.YtffnoaafmaeihaaGreat
open Go.RowKit
attribute [local go_sem ↓] Go.wp_at_zero Go.wp_at_succ

theorem aload_int64 (b : Nat) (x : Int) (w : World) (hc : w.cell? ⟨b, 0, none⟩ = some (.int .i64 x)) :
    Calls Tryz.prog 47 #[.pointer (some ⟨b, 0, none⟩)] w fun e w' => e = .returned (.int .i64 x) ∧ w' = w := by
  have hl := run_call_load (P := Tryz.prog) Tryz.func54 (by kernel_rfl) (by kernel_rfl) (by kernel_rfl) .i64 (by kernel_rfl) hc
  go_enter Tryz.func47, Tryz.ntmps47
  go_wp2
  go_ret
  exact ⟨rfl, rfl⟩

theorem astore_int64 (b : Nat) (x y : Int) (w : World) (hc : w.cell? ⟨b, 0, none⟩ = some (.int .i64 x)) (hz : w.frozen? ⟨b, 0, none⟩ = false) :
    Calls Tryz.prog 49 #[.pointer (some ⟨b, 0, none⟩), .int .i64 y] w fun e w' => e = .returned (.tuple #[]) ∧ w' = w.setCell ⟨b, 0, none⟩ (.int .i64 y) := by
  have hl := run_call_store (P := Tryz.prog) Tryz.func56 (by kernel_rfl) (by kernel_rfl) (by kernel_rfl) (by kernel_rfl) (k := .i64) (y := y) hc hz
  go_enter Tryz.func49, Tryz.ntmps49
  go_wp2
  go_end0
  exact ⟨rfl, rfl⟩

theorem aswap_int64 (b : Nat) (x y : Int) (w : World) (hc : w.cell? ⟨b, 0, none⟩ = some (.int .i64 x)) (hz : w.frozen? ⟨b, 0, none⟩ = false) :
    Calls Tryz.prog 50 #[.pointer (some ⟨b, 0, none⟩), .int .i64 y] w fun e w' => e = .returned (.int .i64 x) ∧ w' = w.setCell ⟨b, 0, none⟩ (.int .i64 y) := by
  have hl := run_call_swap (P := Tryz.prog) Tryz.func57 (by kernel_rfl) (by kernel_rfl) (by kernel_rfl) .i64 (by kernel_rfl) (y := y) hc hz
  go_enter Tryz.func50, Tryz.ntmps50
  go_wp2
  go_ret
  exact ⟨rfl, rfl⟩

theorem aadd_int64 (b : Nat) (x y : Int) (w : World) (hc : w.cell? ⟨b, 0, none⟩ = some (.int .i64 x)) (hz : w.frozen? ⟨b, 0, none⟩ = false) (s : Int) (hs : IntKind.i64.wrap (x + y) = s) :
    Calls Tryz.prog 44 #[.pointer (some ⟨b, 0, none⟩), .int .i64 y] w fun e w' => e = .returned (.int .i64 s) ∧ w' = w.setCell ⟨b, 0, none⟩ (.int .i64 s) := by
  have hl := run_call_add (P := Tryz.prog) Tryz.func51 (by kernel_rfl) (by kernel_rfl) (by kernel_rfl) .i64 (by kernel_rfl) (y := y) hc hz (s := s) (by rw [← hs]; rfl)
  clear hs
  go_enter Tryz.func44, Tryz.ntmps44
  go_wp2
  go_ret
  exact ⟨rfl, rfl⟩

theorem aand_int64 (b : Nat) (x y : Int) (w : World) (hc : w.cell? ⟨b, 0, none⟩ = some (.int .i64 x)) (hz : w.frozen? ⟨b, 0, none⟩ = false) (s : Int) (hs : bits .and .i64 x y = s) :
    Calls Tryz.prog 45 #[.pointer (some ⟨b, 0, none⟩), .int .i64 y] w fun e w' => e = .returned (.int .i64 x) ∧ w' = w.setCell ⟨b, 0, none⟩ (.int .i64 s) := by
  have hl := run_call_bits (P := Tryz.prog) .and Tryz.func52 (by kernel_rfl) (by kernel_rfl) (by kernel_rfl) .i64 (by kernel_rfl) (y := y) hc hz (s := s) (by rw [← hs]; rfl)
  clear hs
  go_enter Tryz.func45, Tryz.ntmps45
  go_wp2
  go_ret
  exact ⟨rfl, rfl⟩

theorem aor_int64 (b : Nat) (x y : Int) (w : World) (hc : w.cell? ⟨b, 0, none⟩ = some (.int .i64 x)) (hz : w.frozen? ⟨b, 0, none⟩ = false) (s : Int) (hs : bits .or .i64 x y = s) :
    Calls Tryz.prog 48 #[.pointer (some ⟨b, 0, none⟩), .int .i64 y] w fun e w' => e = .returned (.int .i64 x) ∧ w' = w.setCell ⟨b, 0, none⟩ (.int .i64 s) := by
  have hl := run_call_bits (P := Tryz.prog) .or Tryz.func55 (by kernel_rfl) (by kernel_rfl) (by kernel_rfl) .i64 (by kernel_rfl) (y := y) hc hz (s := s) (by rw [← hs]; rfl)
  clear hs
  go_enter Tryz.func48, Tryz.ntmps48
  go_wp2
  go_ret
  exact ⟨rfl, rfl⟩

theorem ahit_int64 (b : Nat) (x o y : Int) (w : World) (hc : w.cell? ⟨b, 0, none⟩ = some (.int .i64 x)) (hz : w.frozen? ⟨b, 0, none⟩ = false) (ho : x = o) :
    Calls Tryz.prog 46 #[.pointer (some ⟨b, 0, none⟩), .int .i64 o, .int .i64 y] w fun e w' => e = .returned (.bool true) ∧ w' = w.setCell ⟨b, 0, none⟩ (.int .i64 y) := by
  subst ho
  have hl := run_call_cas_hit (P := Tryz.prog) Tryz.func53 (by kernel_rfl) (by kernel_rfl) (by kernel_rfl) .i64 (by kernel_rfl) (y := y) hc hz
  go_enter Tryz.func46, Tryz.ntmps46
  go_wp2
  go_ret
  exact ⟨rfl, rfl⟩

theorem amiss_int64 (b : Nat) (x o y : Int) (w : World) (hc : w.cell? ⟨b, 0, none⟩ = some (.int .i64 x)) (hz : w.frozen? ⟨b, 0, none⟩ = false) (hne : ¬ x = o) :
    Calls Tryz.prog 46 #[.pointer (some ⟨b, 0, none⟩), .int .i64 o, .int .i64 y] w fun e w' => e = .returned (.bool false) ∧ w' = w := by
  have hl := run_call_cas_miss (P := Tryz.prog) Tryz.func53 (by kernel_rfl) (by kernel_rfl) (by kernel_rfl) .i64 (by kernel_rfl) (o := o) (y := y) hc hz hne
  clear hne
  go_enter Tryz.func46, Tryz.ntmps46
  go_wp2
  go_ret
  exact ⟨rfl, rfl⟩

set_option maxHeartbeats 400000 in
theorem got_int64 (pv : Value) (x : Int) (w : World) (z : Int) (hz : IntKind.u64.wrap x = z) :
    Calls Tryz.prog 59 #[.agg #[.int .i64 2, pv], .int .i64 x] w fun e w' => e = .returned (.agg #[.int .u64 z, .bool true]) ∧ Below w.heap.size w w' := by
  subst hz
  go_enter Tryz.func59, Tryz.ntmps59
  go_wp2_with (go_at_call 43; refine (narrow_64 2 (by omega) _ _).mono ?_; rintro e w' ⟨rfl, rfl⟩)
  exact bodyPost_ret (v := .agg #[.int .u64 (IntKind.u64.wrap x), .bool true]) (by simp [results, Tryz.results59, go_sem]) rfl ⟨rfl, ((Below.refl _ _).alloc (Nat.le_refl _) _).alloc (by simp) _⟩

theorem mLoad_int64 (a : Addr) (w : World) : (method 274 69 (.pointer (some a)) "Load").run Tryz.prog w = .ok (47, .pointer (some a)) w := by kernel_rfl
theorem mStore_int64 (a : Addr) (w : World) : (method 274 69 (.pointer (some a)) "Store").run Tryz.prog w = .ok (49, .pointer (some a)) w := by kernel_rfl
theorem mAdd_int64 (a : Addr) (w : World) : (method 274 69 (.pointer (some a)) "Add").run Tryz.prog w = .ok (44, .pointer (some a)) w := by kernel_rfl
theorem mSwap_int64 (a : Addr) (w : World) : (method 274 69 (.pointer (some a)) "Swap").run Tryz.prog w = .ok (50, .pointer (some a)) w := by kernel_rfl
theorem mCompareAndSwap_int64 (a : Addr) (w : World) : (method 274 69 (.pointer (some a)) "CompareAndSwap").run Tryz.prog w = .ok (46, .pointer (some a)) w := by kernel_rfl
theorem mAnd_int64 (a : Addr) (w : World) : (method 274 69 (.pointer (some a)) "And").run Tryz.prog w = .ok (45, .pointer (some a)) w := by kernel_rfl
theorem mOr_int64 (a : Addr) (w : World) : (method 274 69 (.pointer (some a)) "Or").run Tryz.prog w = .ok (48, .pointer (some a)) w := by kernel_rfl

end Go.Proofs.YtffnoaafmaeihaaGreat
