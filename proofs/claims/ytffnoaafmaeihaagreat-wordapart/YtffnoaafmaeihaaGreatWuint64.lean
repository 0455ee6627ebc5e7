/- What sync/atomic's methods of Uint64, and word's do over such a word, do to the world: contracts, a case each. -/
import Derived.Test.YtffnoaafmaeihaaGreatRows
import Derived.WalkKit
import Derived.WalkSpells
import Derived.WalkLawsBesides
import Derived.Deep.RegionHeld3
import Derived.Deep.DrawnRows
import Derived.Test.YtffnoaafmaeihaaGreatAtom
import Derived.Test.YtffnoaafmaeihaaGreatBase
namespace Go.Proofs.YtffnoaafmaeihaaGreat
open Go.RowKit
attribute [local go_sem ↓] Go.wp_at_zero Go.wp_at_succ

theorem aload_uint64 (b : Nat) (x : Int) (w : World) (hc : w.cell? ⟨b, 0, none⟩ = some (.int .u64 x)) :
    Calls Tryz.prog 79 #[.pointer (some ⟨b, 0, none⟩)] w fun e w' => e = .returned (.int .u64 x) ∧ w' = w := by
  have hl := run_call_load (P := Tryz.prog) Tryz.func86 (by kernel_rfl) (by kernel_rfl) (by kernel_rfl) .u64 (by kernel_rfl) hc
  go_enter Tryz.func79, Tryz.ntmps79
  go_wp2
  go_ret
  exact ⟨rfl, rfl⟩

theorem astore_uint64 (b : Nat) (x y : Int) (w : World) (hc : w.cell? ⟨b, 0, none⟩ = some (.int .u64 x)) (hz : w.frozen? ⟨b, 0, none⟩ = false) :
    Calls Tryz.prog 81 #[.pointer (some ⟨b, 0, none⟩), .int .u64 y] w fun e w' => e = .returned (.tuple #[]) ∧ w' = w.setCell ⟨b, 0, none⟩ (.int .u64 y) := by
  have hl := run_call_store (P := Tryz.prog) Tryz.func88 (by kernel_rfl) (by kernel_rfl) (by kernel_rfl) (by kernel_rfl) (k := .u64) (y := y) hc hz
  go_enter Tryz.func81, Tryz.ntmps81
  go_wp2
  go_end0
  exact ⟨rfl, rfl⟩

theorem aswap_uint64 (b : Nat) (x y : Int) (w : World) (hc : w.cell? ⟨b, 0, none⟩ = some (.int .u64 x)) (hz : w.frozen? ⟨b, 0, none⟩ = false) :
    Calls Tryz.prog 82 #[.pointer (some ⟨b, 0, none⟩), .int .u64 y] w fun e w' => e = .returned (.int .u64 x) ∧ w' = w.setCell ⟨b, 0, none⟩ (.int .u64 y) := by
  have hl := run_call_swap (P := Tryz.prog) Tryz.func89 (by kernel_rfl) (by kernel_rfl) (by kernel_rfl) .u64 (by kernel_rfl) (y := y) hc hz
  go_enter Tryz.func82, Tryz.ntmps82
  go_wp2
  go_ret
  exact ⟨rfl, rfl⟩

theorem aadd_uint64 (b : Nat) (x y : Int) (w : World) (hc : w.cell? ⟨b, 0, none⟩ = some (.int .u64 x)) (hz : w.frozen? ⟨b, 0, none⟩ = false) (s : Int) (hs : IntKind.u64.wrap (x + y) = s) :
    Calls Tryz.prog 76 #[.pointer (some ⟨b, 0, none⟩), .int .u64 y] w fun e w' => e = .returned (.int .u64 s) ∧ w' = w.setCell ⟨b, 0, none⟩ (.int .u64 s) := by
  have hl := run_call_add (P := Tryz.prog) Tryz.func83 (by kernel_rfl) (by kernel_rfl) (by kernel_rfl) .u64 (by kernel_rfl) (y := y) hc hz (s := s) (by rw [← hs]; rfl)
  clear hs
  go_enter Tryz.func76, Tryz.ntmps76
  go_wp2
  go_ret
  exact ⟨rfl, rfl⟩

theorem aand_uint64 (b : Nat) (x y : Int) (w : World) (hc : w.cell? ⟨b, 0, none⟩ = some (.int .u64 x)) (hz : w.frozen? ⟨b, 0, none⟩ = false) (s : Int) (hs : bits .and .u64 x y = s) :
    Calls Tryz.prog 77 #[.pointer (some ⟨b, 0, none⟩), .int .u64 y] w fun e w' => e = .returned (.int .u64 x) ∧ w' = w.setCell ⟨b, 0, none⟩ (.int .u64 s) := by
  have hl := run_call_bits (P := Tryz.prog) .and Tryz.func84 (by kernel_rfl) (by kernel_rfl) (by kernel_rfl) .u64 (by kernel_rfl) (y := y) hc hz (s := s) (by rw [← hs]; rfl)
  clear hs
  go_enter Tryz.func77, Tryz.ntmps77
  go_wp2
  go_ret
  exact ⟨rfl, rfl⟩

theorem aor_uint64 (b : Nat) (x y : Int) (w : World) (hc : w.cell? ⟨b, 0, none⟩ = some (.int .u64 x)) (hz : w.frozen? ⟨b, 0, none⟩ = false) (s : Int) (hs : bits .or .u64 x y = s) :
    Calls Tryz.prog 80 #[.pointer (some ⟨b, 0, none⟩), .int .u64 y] w fun e w' => e = .returned (.int .u64 x) ∧ w' = w.setCell ⟨b, 0, none⟩ (.int .u64 s) := by
  have hl := run_call_bits (P := Tryz.prog) .or Tryz.func87 (by kernel_rfl) (by kernel_rfl) (by kernel_rfl) .u64 (by kernel_rfl) (y := y) hc hz (s := s) (by rw [← hs]; rfl)
  clear hs
  go_enter Tryz.func80, Tryz.ntmps80
  go_wp2
  go_ret
  exact ⟨rfl, rfl⟩

theorem ahit_uint64 (b : Nat) (x o y : Int) (w : World) (hc : w.cell? ⟨b, 0, none⟩ = some (.int .u64 x)) (hz : w.frozen? ⟨b, 0, none⟩ = false) (ho : x = o) :
    Calls Tryz.prog 78 #[.pointer (some ⟨b, 0, none⟩), .int .u64 o, .int .u64 y] w fun e w' => e = .returned (.bool true) ∧ w' = w.setCell ⟨b, 0, none⟩ (.int .u64 y) := by
  subst ho
  have hl := run_call_cas_hit (P := Tryz.prog) Tryz.func85 (by kernel_rfl) (by kernel_rfl) (by kernel_rfl) .u64 (by kernel_rfl) (y := y) hc hz
  go_enter Tryz.func78, Tryz.ntmps78
  go_wp2
  go_ret
  exact ⟨rfl, rfl⟩

theorem amiss_uint64 (b : Nat) (x o y : Int) (w : World) (hc : w.cell? ⟨b, 0, none⟩ = some (.int .u64 x)) (hz : w.frozen? ⟨b, 0, none⟩ = false) (hne : ¬ x = o) :
    Calls Tryz.prog 78 #[.pointer (some ⟨b, 0, none⟩), .int .u64 o, .int .u64 y] w fun e w' => e = .returned (.bool false) ∧ w' = w := by
  have hl := run_call_cas_miss (P := Tryz.prog) Tryz.func85 (by kernel_rfl) (by kernel_rfl) (by kernel_rfl) .u64 (by kernel_rfl) (o := o) (y := y) hc hz hne
  clear hne
  go_enter Tryz.func78, Tryz.ntmps78
  go_wp2
  go_ret
  exact ⟨rfl, rfl⟩

set_option maxHeartbeats 400000 in
theorem got_uint64 (pv : Value) (x : Int) (w : World) (z : Int) (hz : x = z) :
    Calls Tryz.prog 91 #[.agg #[.int .i64 4, pv], .int .u64 x] w fun e w' => e = .returned (.agg #[.int .u64 z, .bool true]) ∧ Below w.heap.size w w' := by
  subst hz
  go_enter Tryz.func91, Tryz.ntmps91
  go_wp2_with (go_at_call 43; refine (narrow_64 4 (by omega) _ _).mono ?_; rintro e w' ⟨rfl, rfl⟩)
  exact bodyPost_ret (v := .agg #[.int .u64 (x), .bool true]) (by simp [results, Tryz.results91, go_sem]) rfl ⟨rfl, ((Below.refl _ _).alloc (Nat.le_refl _) _).alloc (by simp) _⟩

theorem mLoad_uint64 (a : Addr) (w : World) : (method 274 85 (.pointer (some a)) "Load").run Tryz.prog w = .ok (79, .pointer (some a)) w := by kernel_rfl
theorem mStore_uint64 (a : Addr) (w : World) : (method 274 85 (.pointer (some a)) "Store").run Tryz.prog w = .ok (81, .pointer (some a)) w := by kernel_rfl
theorem mAdd_uint64 (a : Addr) (w : World) : (method 274 85 (.pointer (some a)) "Add").run Tryz.prog w = .ok (76, .pointer (some a)) w := by kernel_rfl
theorem mSwap_uint64 (a : Addr) (w : World) : (method 274 85 (.pointer (some a)) "Swap").run Tryz.prog w = .ok (82, .pointer (some a)) w := by kernel_rfl
theorem mCompareAndSwap_uint64 (a : Addr) (w : World) : (method 274 85 (.pointer (some a)) "CompareAndSwap").run Tryz.prog w = .ok (78, .pointer (some a)) w := by kernel_rfl
theorem mAnd_uint64 (a : Addr) (w : World) : (method 274 85 (.pointer (some a)) "And").run Tryz.prog w = .ok (77, .pointer (some a)) w := by kernel_rfl
theorem mOr_uint64 (a : Addr) (w : World) : (method 274 85 (.pointer (some a)) "Or").run Tryz.prog w = .ok (80, .pointer (some a)) w := by kernel_rfl

end Go.Proofs.YtffnoaafmaeihaaGreat
