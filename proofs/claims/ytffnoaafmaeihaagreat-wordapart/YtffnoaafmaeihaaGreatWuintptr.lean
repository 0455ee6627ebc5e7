/- What sync/atomic's methods of Uintptr, and word's do over such a word, do to the world: contracts, a case each. -/
import Derived.Test.YtffnoaafmaeihaaGreatRows
import Derived.WalkKit
import Derived.WalkSpells
import Derived.WalkLawsBesides
import Derived.Deep.RegionHeld3
import Derived.Deep.DrawnRows
import Derived.Test.YtffnoaafmaeihaaGreatAtom
import Derived.Test.YtffnoaafmaeihaaGreatBase
namespace Go.Proofs.YtffnoaafmaeihaaGreat
open Go.RowKit
attribute [local go_sem ↓] Go.wp_at_zero Go.wp_at_succ

theorem aload_uintptr (b : Nat) (x : Int) (w : World) (hc : w.cell? ⟨b, 0, none⟩ = some (.int .u64 x)) :
    Calls Tryz.prog 95 #[.pointer (some ⟨b, 0, none⟩)] w fun e w' => e = .returned (.int .u64 x) ∧ w' = w := by
  have hl := run_call_load (P := Tryz.prog) Tryz.func102 (by kernel_rfl) (by kernel_rfl) (by kernel_rfl) .u64 (by kernel_rfl) hc
  go_enter Tryz.func95, Tryz.ntmps95
  go_wp2
  go_ret
  exact ⟨rfl, rfl⟩

theorem astore_uintptr (b : Nat) (x y : Int) (w : World) (hc : w.cell? ⟨b, 0, none⟩ = some (.int .u64 x)) (hz : w.frozen? ⟨b, 0, none⟩ = false) :
    Calls Tryz.prog 97 #[.pointer (some ⟨b, 0, none⟩), .int .u64 y] w fun e w' => e = .returned (.tuple #[]) ∧ w' = w.setCell ⟨b, 0, none⟩ (.int .u64 y) := by
  have hl := run_call_store (P := Tryz.prog) Tryz.func104 (by kernel_rfl) (by kernel_rfl) (by kernel_rfl) (by kernel_rfl) (k := .u64) (y := y) hc hz
  go_enter Tryz.func97, Tryz.ntmps97
  go_wp2
  go_end0
  exact ⟨rfl, rfl⟩

theorem aswap_uintptr (b : Nat) (x y : Int) (w : World) (hc : w.cell? ⟨b, 0, none⟩ = some (.int .u64 x)) (hz : w.frozen? ⟨b, 0, none⟩ = false) :
    Calls Tryz.prog 98 #[.pointer (some ⟨b, 0, none⟩), .int .u64 y] w fun e w' => e = .returned (.int .u64 x) ∧ w' = w.setCell ⟨b, 0, none⟩ (.int .u64 y) := by
  have hl := run_call_swap (P := Tryz.prog) Tryz.func105 (by kernel_rfl) (by kernel_rfl) (by kernel_rfl) .u64 (by kernel_rfl) (y := y) hc hz
  go_enter Tryz.func98, Tryz.ntmps98
  go_wp2
  go_ret
  exact ⟨rfl, rfl⟩

theorem aadd_uintptr (b : Nat) (x y : Int) (w : World) (hc : w.cell? ⟨b, 0, none⟩ = some (.int .u64 x)) (hz : w.frozen? ⟨b, 0, none⟩ = false) (s : Int) (hs : IntKind.u64.wrap (x + y) = s) :
    Calls Tryz.prog 92 #[.pointer (some ⟨b, 0, none⟩), .int .u64 y] w fun e w' => e = .returned (.int .u64 s) ∧ w' = w.setCell ⟨b, 0, none⟩ (.int .u64 s) := by
  have hl := run_call_add (P := Tryz.prog) Tryz.func99 (by kernel_rfl) (by kernel_rfl) (by kernel_rfl) .u64 (by kernel_rfl) (y := y) hc hz (s := s) (by rw [← hs]; rfl)
  clear hs
  go_enter Tryz.func92, Tryz.ntmps92
  go_wp2
  go_ret
  exact ⟨rfl, rfl⟩

theorem aand_uintptr (b : Nat) (x y : Int) (w : World) (hc : w.cell? ⟨b, 0, none⟩ = some (.int .u64 x)) (hz : w.frozen? ⟨b, 0, none⟩ = false) (s : Int) (hs : bits .and .u64 x y = s) :
    Calls Tryz.prog 93 #[.pointer (some ⟨b, 0, none⟩), .int .u64 y] w fun e w' => e = .returned (.int .u64 x) ∧ w' = w.setCell ⟨b, 0, none⟩ (.int .u64 s) := by
  have hl := run_call_bits (P := Tryz.prog) .and Tryz.func100 (by kernel_rfl) (by kernel_rfl) (by kernel_rfl) .u64 (by kernel_rfl) (y := y) hc hz (s := s) (by rw [← hs]; rfl)
  clear hs
  go_enter Tryz.func93, Tryz.ntmps93
  go_wp2
  go_ret
  exact ⟨rfl, rfl⟩

theorem aor_uintptr (b : Nat) (x y : Int) (w : World) (hc : w.cell? ⟨b, 0, none⟩ = some (.int .u64 x)) (hz : w.frozen? ⟨b, 0, none⟩ = false) (s : Int) (hs : bits .or .u64 x y = s) :
    Calls Tryz.prog 96 #[.pointer (some ⟨b, 0, none⟩), .int .u64 y] w fun e w' => e = .returned (.int .u64 x) ∧ w' = w.setCell ⟨b, 0, none⟩ (.int .u64 s) := by
  have hl := run_call_bits (P := Tryz.prog) .or Tryz.func103 (by kernel_rfl) (by kernel_rfl) (by kernel_rfl) .u64 (by kernel_rfl) (y := y) hc hz (s := s) (by rw [← hs]; rfl)
  clear hs
  go_enter Tryz.func96, Tryz.ntmps96
  go_wp2
  go_ret
  exact ⟨rfl, rfl⟩

theorem ahit_uintptr (b : Nat) (x o y : Int) (w : World) (hc : w.cell? ⟨b, 0, none⟩ = some (.int .u64 x)) (hz : w.frozen? ⟨b, 0, none⟩ = false) (ho : x = o) :
    Calls Tryz.prog 94 #[.pointer (some ⟨b, 0, none⟩), .int .u64 o, .int .u64 y] w fun e w' => e = .returned (.bool true) ∧ w' = w.setCell ⟨b, 0, none⟩ (.int .u64 y) := by
  subst ho
  have hl := run_call_cas_hit (P := Tryz.prog) Tryz.func101 (by kernel_rfl) (by kernel_rfl) (by kernel_rfl) .u64 (by kernel_rfl) (y := y) hc hz
  go_enter Tryz.func94, Tryz.ntmps94
  go_wp2
  go_ret
  exact ⟨rfl, rfl⟩

theorem amiss_uintptr (b : Nat) (x o y : Int) (w : World) (hc : w.cell? ⟨b, 0, none⟩ = some (.int .u64 x)) (hz : w.frozen? ⟨b, 0, none⟩ = false) (hne : ¬ x = o) :
    Calls Tryz.prog 94 #[.pointer (some ⟨b, 0, none⟩), .int .u64 o, .int .u64 y] w fun e w' => e = .returned (.bool false) ∧ w' = w := by
  have hl := run_call_cas_miss (P := Tryz.prog) Tryz.func101 (by kernel_rfl) (by kernel_rfl) (by kernel_rfl) .u64 (by kernel_rfl) (o := o) (y := y) hc hz hne
  clear hne
  go_enter Tryz.func94, Tryz.ntmps94
  go_wp2
  go_ret
  exact ⟨rfl, rfl⟩

set_option maxHeartbeats 400000 in
theorem got_uintptr (pv : Value) (x : Int) (w : World) (z : Int) (hz : x = z) :
    Calls Tryz.prog 107 #[.agg #[.int .i64 6, pv], .int .u64 x] w fun e w' => e = .returned (.agg #[.int .u64 z, .bool true]) ∧ Below w.heap.size w w' := by
  subst hz
  go_enter Tryz.func107, Tryz.ntmps107
  go_wp2_with (go_at_call 43; refine (narrow_64 6 (by omega) _ _).mono ?_; rintro e w' ⟨rfl, rfl⟩)
  exact bodyPost_ret (v := .agg #[.int .u64 (x), .bool true]) (by simp [results, Tryz.results107, go_sem]) rfl ⟨rfl, ((Below.refl _ _).alloc (Nat.le_refl _) _).alloc (by simp) _⟩

theorem mLoad_uintptr (a : Addr) (w : World) : (method 274 92 (.pointer (some a)) "Load").run Tryz.prog w = .ok (95, .pointer (some a)) w := by kernel_rfl
theorem mStore_uintptr (a : Addr) (w : World) : (method 274 92 (.pointer (some a)) "Store").run Tryz.prog w = .ok (97, .pointer (some a)) w := by kernel_rfl
theorem mAdd_uintptr (a : Addr) (w : World) : (method 274 92 (.pointer (some a)) "Add").run Tryz.prog w = .ok (92, .pointer (some a)) w := by kernel_rfl
theorem mSwap_uintptr (a : Addr) (w : World) : (method 274 92 (.pointer (some a)) "Swap").run Tryz.prog w = .ok (98, .pointer (some a)) w := by kernel_rfl
theorem mCompareAndSwap_uintptr (a : Addr) (w : World) : (method 274 92 (.pointer (some a)) "CompareAndSwap").run Tryz.prog w = .ok (94, .pointer (some a)) w := by kernel_rfl
theorem mAnd_uintptr (a : Addr) (w : World) : (method 274 92 (.pointer (some a)) "And").run Tryz.prog w = .ok (93, .pointer (some a)) w := by kernel_rfl
theorem mOr_uintptr (a : Addr) (w : World) : (method 274 92 (.pointer (some a)) "Or").run Tryz.prog w = .ok (96, .pointer (some a)) w := by kernel_rfl

end Go.Proofs.YtffnoaafmaeihaaGreat
