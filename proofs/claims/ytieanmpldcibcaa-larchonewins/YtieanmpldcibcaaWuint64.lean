/- What sync/atomic's methods of Uint64, and word's do over such a word, do to the world: contracts, a case each. -/
import Derived.Test.YtieanmpldcibcaaRows
import Derived.WalkKit
import Derived.WalkSpells
import Derived.WalkLawsBesides
import Derived.Deep.RegionHeld3
import Derived.Deep.DrawnRows
import Derived.Test.YtieanmpldcibcaaAtom
import Derived.Test.YtieanmpldcibcaaBase
namespace Go.Proofs.Ytieanmpldcibcaa
open Go.RowKit
attribute [local go_sem ↓] Go.wp_at_zero Go.wp_at_succ

theorem aload_uint64 (b : Nat) (x : Int) (w : World) (hc : w.cell? ⟨b, 0, none⟩ = some (.int .u64 x)) :
    Calls Try.prog 75 #[.pointer (some ⟨b, 0, none⟩)] w fun e w' => e = .returned (.int .u64 x) ∧ w' = w := by
  have hl := run_call_load (P := Try.prog) Try.func82 (by kernel_rfl) (by kernel_rfl) (by kernel_rfl) .u64 (by kernel_rfl) hc
  go_enter Try.func75, Try.ntmps75
  go_wp2
  go_ret
  exact ⟨rfl, rfl⟩

theorem astore_uint64 (b : Nat) (x y : Int) (w : World) (hc : w.cell? ⟨b, 0, none⟩ = some (.int .u64 x)) (hz : w.frozen? ⟨b, 0, none⟩ = false) :
    Calls Try.prog 77 #[.pointer (some ⟨b, 0, none⟩), .int .u64 y] w fun e w' => e = .returned (.tuple #[]) ∧ w' = w.setCell ⟨b, 0, none⟩ (.int .u64 y) := by
  have hl := run_call_store (P := Try.prog) Try.func84 (by kernel_rfl) (by kernel_rfl) (by kernel_rfl) (by kernel_rfl) (k := .u64) (y := y) hc hz
  go_enter Try.func77, Try.ntmps77
  go_wp2
  go_end0
  exact ⟨rfl, rfl⟩

theorem aswap_uint64 (b : Nat) (x y : Int) (w : World) (hc : w.cell? ⟨b, 0, none⟩ = some (.int .u64 x)) (hz : w.frozen? ⟨b, 0, none⟩ = false) :
    Calls Try.prog 78 #[.pointer (some ⟨b, 0, none⟩), .int .u64 y] w fun e w' => e = .returned (.int .u64 x) ∧ w' = w.setCell ⟨b, 0, none⟩ (.int .u64 y) := by
  have hl := run_call_swap (P := Try.prog) Try.func85 (by kernel_rfl) (by kernel_rfl) (by kernel_rfl) .u64 (by kernel_rfl) (y := y) hc hz
  go_enter Try.func78, Try.ntmps78
  go_wp2
  go_ret
  exact ⟨rfl, rfl⟩

theorem aadd_uint64 (b : Nat) (x y : Int) (w : World) (hc : w.cell? ⟨b, 0, none⟩ = some (.int .u64 x)) (hz : w.frozen? ⟨b, 0, none⟩ = false) (s : Int) (hs : IntKind.u64.wrap (x + y) = s) :
    Calls Try.prog 72 #[.pointer (some ⟨b, 0, none⟩), .int .u64 y] w fun e w' => e = .returned (.int .u64 s) ∧ w' = w.setCell ⟨b, 0, none⟩ (.int .u64 s) := by
  have hl := run_call_add (P := Try.prog) Try.func79 (by kernel_rfl) (by kernel_rfl) (by kernel_rfl) .u64 (by kernel_rfl) (y := y) hc hz (s := s) (by rw [← hs]; rfl)
  clear hs
  go_enter Try.func72, Try.ntmps72
  go_wp2
  go_ret
  exact ⟨rfl, rfl⟩

theorem aand_uint64 (b : Nat) (x y : Int) (w : World) (hc : w.cell? ⟨b, 0, none⟩ = some (.int .u64 x)) (hz : w.frozen? ⟨b, 0, none⟩ = false) (s : Int) (hs : bits .and .u64 x y = s) :
    Calls Try.prog 73 #[.pointer (some ⟨b, 0, none⟩), .int .u64 y] w fun e w' => e = .returned (.int .u64 x) ∧ w' = w.setCell ⟨b, 0, none⟩ (.int .u64 s) := by
  have hl := run_call_bits (P := Try.prog) .and Try.func80 (by kernel_rfl) (by kernel_rfl) (by kernel_rfl) .u64 (by kernel_rfl) (y := y) hc hz (s := s) (by rw [← hs]; rfl)
  clear hs
  go_enter Try.func73, Try.ntmps73
  go_wp2
  go_ret
  exact ⟨rfl, rfl⟩

theorem aor_uint64 (b : Nat) (x y : Int) (w : World) (hc : w.cell? ⟨b, 0, none⟩ = some (.int .u64 x)) (hz : w.frozen? ⟨b, 0, none⟩ = false) (s : Int) (hs : bits .or .u64 x y = s) :
    Calls Try.prog 76 #[.pointer (some ⟨b, 0, none⟩), .int .u64 y] w fun e w' => e = .returned (.int .u64 x) ∧ w' = w.setCell ⟨b, 0, none⟩ (.int .u64 s) := by
  have hl := run_call_bits (P := Try.prog) .or Try.func83 (by kernel_rfl) (by kernel_rfl) (by kernel_rfl) .u64 (by kernel_rfl) (y := y) hc hz (s := s) (by rw [← hs]; rfl)
  clear hs
  go_enter Try.func76, Try.ntmps76
  go_wp2
  go_ret
  exact ⟨rfl, rfl⟩

theorem ahit_uint64 (b : Nat) (x o y : Int) (w : World) (hc : w.cell? ⟨b, 0, none⟩ = some (.int .u64 x)) (hz : w.frozen? ⟨b, 0, none⟩ = false) (ho : x = o) :
    Calls Try.prog 74 #[.pointer (some ⟨b, 0, none⟩), .int .u64 o, .int .u64 y] w fun e w' => e = .returned (.bool true) ∧ w' = w.setCell ⟨b, 0, none⟩ (.int .u64 y) := by
  subst ho
  have hl := run_call_cas_hit (P := Try.prog) Try.func81 (by kernel_rfl) (by kernel_rfl) (by kernel_rfl) .u64 (by kernel_rfl) (y := y) hc hz
  go_enter Try.func74, Try.ntmps74
  go_wp2
  go_ret
  exact ⟨rfl, rfl⟩

theorem amiss_uint64 (b : Nat) (x o y : Int) (w : World) (hc : w.cell? ⟨b, 0, none⟩ = some (.int .u64 x)) (hz : w.frozen? ⟨b, 0, none⟩ = false) (hne : ¬ x = o) :
    Calls Try.prog 74 #[.pointer (some ⟨b, 0, none⟩), .int .u64 o, .int .u64 y] w fun e w' => e = .returned (.bool false) ∧ w' = w := by
  have hl := run_call_cas_miss (P := Try.prog) Try.func81 (by kernel_rfl) (by kernel_rfl) (by kernel_rfl) .u64 (by kernel_rfl) (o := o) (y := y) hc hz hne
  clear hne
  go_enter Try.func74, Try.ntmps74
  go_wp2
  go_ret
  exact ⟨rfl, rfl⟩

set_option maxHeartbeats 400000 in
theorem got_uint64 (pv : Value) (x : Int) (w : World) (z : Int) (hz : x = z) :
    Calls Try.prog 87 #[.agg #[.int .i64 4, pv], .int .u64 x] w fun e w' => e = .returned (.agg #[.int .u64 z, .bool true]) ∧ Below w.heap.size w w' := by
  subst hz
  go_enter Try.func87, Try.ntmps87
  go_wp2_with (go_at_call 39; refine (narrow_64 4 (by omega) _ _).mono ?_; rintro e w' ⟨rfl, rfl⟩)
  exact bodyPost_ret (v := .agg #[.int .u64 (x), .bool true]) (by simp [results, Try.results87, go_sem]) rfl ⟨rfl, ((Below.refl _ _).alloc (Nat.le_refl _) _).alloc (by simp) _⟩

theorem mLoad_uint64 (a : Addr) (w : World) : (method 268 79 (.pointer (some a)) "Load").run Try.prog w = .ok (75, .pointer (some a)) w := by kernel_rfl
theorem mStore_uint64 (a : Addr) (w : World) : (method 268 79 (.pointer (some a)) "Store").run Try.prog w = .ok (77, .pointer (some a)) w := by kernel_rfl
theorem mAdd_uint64 (a : Addr) (w : World) : (method 268 79 (.pointer (some a)) "Add").run Try.prog w = .ok (72, .pointer (some a)) w := by kernel_rfl
theorem mSwap_uint64 (a : Addr) (w : World) : (method 268 79 (.pointer (some a)) "Swap").run Try.prog w = .ok (78, .pointer (some a)) w := by kernel_rfl
theorem mCompareAndSwap_uint64 (a : Addr) (w : World) : (method 268 79 (.pointer (some a)) "CompareAndSwap").run Try.prog w = .ok (74, .pointer (some a)) w := by kernel_rfl
theorem mAnd_uint64 (a : Addr) (w : World) : (method 268 79 (.pointer (some a)) "And").run Try.prog w = .ok (73, .pointer (some a)) w := by kernel_rfl
theorem mOr_uint64 (a : Addr) (w : World) : (method 268 79 (.pointer (some a)) "Or").run Try.prog w = .ok (76, .pointer (some a)) w := by kernel_rfl

end Go.Proofs.Ytieanmpldcibcaa
