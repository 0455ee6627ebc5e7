/- What sync/atomic's methods of Int64, and word's do over such a word, do to the world: contracts, a case each. -/
import Derived.Test.YtieanmpldcibcaaRows
import Derived.WalkKit
import Derived.WalkSpells
import Derived.WalkLawsBesides
import Derived.Deep.RegionHeld3
import Derived.Deep.DrawnRows
import Derived.Test.YtieanmpldcibcaaAtom
import Derived.Test.YtieanmpldcibcaaBase
namespace Go.Proofs.Ytieanmpldcibcaa
open Go.RowKit
attribute [local go_sem ↓] Go.wp_at_zero Go.wp_at_succ

theorem aload_int64 (b : Nat) (x : Int) (w : World) (hc : w.cell? ⟨b, 0, none⟩ = some (.int .i64 x)) :
    Calls Try.prog 43 #[.pointer (some ⟨b, 0, none⟩)] w fun e w' => e = .returned (.int .i64 x) ∧ w' = w := by
  have hl := run_call_load (P := Try.prog) Try.func50 (by kernel_rfl) (by kernel_rfl) (by kernel_rfl) .i64 (by kernel_rfl) hc
  go_enter Try.func43, Try.ntmps43
  go_wp2
  go_ret
  exact ⟨rfl, rfl⟩

theorem astore_int64 (b : Nat) (x y : Int) (w : World) (hc : w.cell? ⟨b, 0, none⟩ = some (.int .i64 x)) (hz : w.frozen? ⟨b, 0, none⟩ = false) :
    Calls Try.prog 45 #[.pointer (some ⟨b, 0, none⟩), .int .i64 y] w fun e w' => e = .returned (.tuple #[]) ∧ w' = w.setCell ⟨b, 0, none⟩ (.int .i64 y) := by
  have hl := run_call_store (P := Try.prog) Try.func52 (by kernel_rfl) (by kernel_rfl) (by kernel_rfl) (by kernel_rfl) (k := .i64) (y := y) hc hz
  go_enter Try.func45, Try.ntmps45
  go_wp2
  go_end0
  exact ⟨rfl, rfl⟩

theorem aswap_int64 (b : Nat) (x y : Int) (w : World) (hc : w.cell? ⟨b, 0, none⟩ = some (.int .i64 x)) (hz : w.frozen? ⟨b, 0, none⟩ = false) :
    Calls Try.prog 46 #[.pointer (some ⟨b, 0, none⟩), .int .i64 y] w fun e w' => e = .returned (.int .i64 x) ∧ w' = w.setCell ⟨b, 0, none⟩ (.int .i64 y) := by
  have hl := run_call_swap (P := Try.prog) Try.func53 (by kernel_rfl) (by kernel_rfl) (by kernel_rfl) .i64 (by kernel_rfl) (y := y) hc hz
  go_enter Try.func46, Try.ntmps46
  go_wp2
  go_ret
  exact ⟨rfl, rfl⟩

theorem aadd_int64 (b : Nat) (x y : Int) (w : World) (hc : w.cell? ⟨b, 0, none⟩ = some (.int .i64 x)) (hz : w.frozen? ⟨b, 0, none⟩ = false) (s : Int) (hs : IntKind.i64.wrap (x + y) = s) :
    Calls Try.prog 40 #[.pointer (some ⟨b, 0, none⟩), .int .i64 y] w fun e w' => e = .returned (.int .i64 s) ∧ w' = w.setCell ⟨b, 0, none⟩ (.int .i64 s) := by
  have hl := run_call_add (P := Try.prog) Try.func47 (by kernel_rfl) (by kernel_rfl) (by kernel_rfl) .i64 (by kernel_rfl) (y := y) hc hz (s := s) (by rw [← hs]; rfl)
  clear hs
  go_enter Try.func40, Try.ntmps40
  go_wp2
  go_ret
  exact ⟨rfl, rfl⟩

theorem aand_int64 (b : Nat) (x y : Int) (w : World) (hc : w.cell? ⟨b, 0, none⟩ = some (.int .i64 x)) (hz : w.frozen? ⟨b, 0, none⟩ = false) (s : Int) (hs : bits .and .i64 x y = s) :
    Calls Try.prog 41 #[.pointer (some ⟨b, 0, none⟩), .int .i64 y] w fun e w' => e = .returned (.int .i64 x) ∧ w' = w.setCell ⟨b, 0, none⟩ (.int .i64 s) := by
  have hl := run_call_bits (P := Try.prog) .and Try.func48 (by kernel_rfl) (by kernel_rfl) (by kernel_rfl) .i64 (by kernel_rfl) (y := y) hc hz (s := s) (by rw [← hs]; rfl)
  clear hs
  go_enter Try.func41, Try.ntmps41
  go_wp2
  go_ret
  exact ⟨rfl, rfl⟩

theorem aor_int64 (b : Nat) (x y : Int) (w : World) (hc : w.cell? ⟨b, 0, none⟩ = some (.int .i64 x)) (hz : w.frozen? ⟨b, 0, none⟩ = false) (s : Int) (hs : bits .or .i64 x y = s) :
    Calls Try.prog 44 #[.pointer (some ⟨b, 0, none⟩), .int .i64 y] w fun e w' => e = .returned (.int .i64 x) ∧ w' = w.setCell ⟨b, 0, none⟩ (.int .i64 s) := by
  have hl := run_call_bits (P := Try.prog) .or Try.func51 (by kernel_rfl) (by kernel_rfl) (by kernel_rfl) .i64 (by kernel_rfl) (y := y) hc hz (s := s) (by rw [← hs]; rfl)
  clear hs
  go_enter Try.func44, Try.ntmps44
  go_wp2
  go_ret
  exact ⟨rfl, rfl⟩

theorem ahit_int64 (b : Nat) (x o y : Int) (w : World) (hc : w.cell? ⟨b, 0, none⟩ = some (.int .i64 x)) (hz : w.frozen? ⟨b, 0, none⟩ = false) (ho : x = o) :
    Calls Try.prog 42 #[.pointer (some ⟨b, 0, none⟩), .int .i64 o, .int .i64 y] w fun e w' => e = .returned (.bool true) ∧ w' = w.setCell ⟨b, 0, none⟩ (.int .i64 y) := by
  subst ho
  have hl := run_call_cas_hit (P := Try.prog) Try.func49 (by kernel_rfl) (by kernel_rfl) (by kernel_rfl) .i64 (by kernel_rfl) (y := y) hc hz
  go_enter Try.func42, Try.ntmps42
  go_wp2
  go_ret
  exact ⟨rfl, rfl⟩

theorem amiss_int64 (b : Nat) (x o y : Int) (w : World) (hc : w.cell? ⟨b, 0, none⟩ = some (.int .i64 x)) (hz : w.frozen? ⟨b, 0, none⟩ = false) (hne : ¬ x = o) :
    Calls Try.prog 42 #[.pointer (some ⟨b, 0, none⟩), .int .i64 o, .int .i64 y] w fun e w' => e = .returned (.bool false) ∧ w' = w := by
  have hl := run_call_cas_miss (P := Try.prog) Try.func49 (by kernel_rfl) (by kernel_rfl) (by kernel_rfl) .i64 (by kernel_rfl) (o := o) (y := y) hc hz hne
  clear hne
  go_enter Try.func42, Try.ntmps42
  go_wp2
  go_ret
  exact ⟨rfl, rfl⟩

set_option maxHeartbeats 400000 in
theorem got_int64 (pv : Value) (x : Int) (w : World) (z : Int) (hz : IntKind.u64.wrap x = z) :
    Calls Try.prog 55 #[.agg #[.int .i64 2, pv], .int .i64 x] w fun e w' => e = .returned (.agg #[.int .u64 z, .bool true]) ∧ Below w.heap.size w w' := by
  subst hz
  go_enter Try.func55, Try.ntmps55
  go_wp2_with (go_at_call 39; refine (narrow_64 2 (by omega) _ _).mono ?_; rintro e w' ⟨rfl, rfl⟩)
  exact bodyPost_ret (v := .agg #[.int .u64 (IntKind.u64.wrap x), .bool true]) (by simp [results, Try.results55, go_sem]) rfl ⟨rfl, ((Below.refl _ _).alloc (Nat.le_refl _) _).alloc (by simp) _⟩

theorem mLoad_int64 (a : Addr) (w : World) : (method 268 63 (.pointer (some a)) "Load").run Try.prog w = .ok (43, .pointer (some a)) w := by kernel_rfl
theorem mStore_int64 (a : Addr) (w : World) : (method 268 63 (.pointer (some a)) "Store").run Try.prog w = .ok (45, .pointer (some a)) w := by kernel_rfl
theorem mAdd_int64 (a : Addr) (w : World) : (method 268 63 (.pointer (some a)) "Add").run Try.prog w = .ok (40, .pointer (some a)) w := by kernel_rfl
theorem mSwap_int64 (a : Addr) (w : World) : (method 268 63 (.pointer (some a)) "Swap").run Try.prog w = .ok (46, .pointer (some a)) w := by kernel_rfl
theorem mCompareAndSwap_int64 (a : Addr) (w : World) : (method 268 63 (.pointer (some a)) "CompareAndSwap").run Try.prog w = .ok (42, .pointer (some a)) w := by kernel_rfl
theorem mAnd_int64 (a : Addr) (w : World) : (method 268 63 (.pointer (some a)) "And").run Try.prog w = .ok (41, .pointer (some a)) w := by kernel_rfl
theorem mOr_int64 (a : Addr) (w : World) : (method 268 63 (.pointer (some a)) "Or").run Try.prog w = .ok (44, .pointer (some a)) w := by kernel_rfl

end Go.Proofs.Ytieanmpldcibcaa
