/- What sync/atomic's methods of Uint32, and word's do over such a word, do to the world: contracts, a case each. -/
import Derived.Test.YtffnoaafmaeihaaGreatRows
import Derived.WalkKit
import Derived.WalkSpells
import Derived.WalkLawsBesides
import Derived.Deep.RegionHeld3
import Derived.Deep.DrawnRows
import Derived.Test.YtffnoaafmaeihaaGreatAtom
import Derived.Test.YtffnoaafmaeihaaGreatBase
namespace Go.Proofs.YtffnoaafmaeihaaGreat
open Go.RowKit
attribute [local go_sem ↓] Go.wp_at_zero Go.wp_at_succ

theorem aload_uint32 (b : Nat) (x : Int) (w : World) (hc : w.cell? ⟨b, 0, none⟩ = some (.int .u32 x)) :
    Calls Tryz.prog 63 #[.pointer (some ⟨b, 0, none⟩)] w fun e w' => e = .returned (.int .u32 x) ∧ w' = w := by
  have hl := run_call_load (P := Tryz.prog) Tryz.func70 (by kernel_rfl) (by kernel_rfl) (by kernel_rfl) .u32 (by kernel_rfl) hc
  go_enter Tryz.func63, Tryz.ntmps63
  go_wp2
  go_ret
  exact ⟨rfl, rfl⟩

theorem astore_uint32 (b : Nat) (x y : Int) (w : World) (hc : w.cell? ⟨b, 0, none⟩ = some (.int .u32 x)) (hz : w.frozen? ⟨b, 0, none⟩ = false) :
    Calls Tryz.prog 65 #[.pointer (some ⟨b, 0, none⟩), .int .u32 y] w fun e w' => e = .returned (.tuple #[]) ∧ w' = w.setCell ⟨b, 0, none⟩ (.int .u32 y) := by
  have hl := run_call_store (P := Tryz.prog) Tryz.func72 (by kernel_rfl) (by kernel_rfl) (by kernel_rfl) (by kernel_rfl) (k := .u32) (y := y) hc hz
  go_enter Tryz.func65, Tryz.ntmps65
  go_wp2
  go_end0
  exact ⟨rfl, rfl⟩

theorem aswap_uint32 (b : Nat) (x y : Int) (w : World) (hc : w.cell? ⟨b, 0, none⟩ = some (.int .u32 x)) (hz : w.frozen? ⟨b, 0, none⟩ = false) :
    Calls Tryz.prog 66 #[.pointer (some ⟨b, 0, none⟩), .int .u32 y] w fun e w' => e = .returned (.int .u32 x) ∧ w' = w.setCell ⟨b, 0, none⟩ (.int .u32 y) := by
  have hl := run_call_swap (P := Tryz.prog) Tryz.func73 (by kernel_rfl) (by kernel_rfl) (by kernel_rfl) .u32 (by kernel_rfl) (y := y) hc hz
  go_enter Tryz.func66, Tryz.ntmps66
  go_wp2
  go_ret
  exact ⟨rfl, rfl⟩

theorem aadd_uint32 (b : Nat) (x y : Int) (w : World) (hc : w.cell? ⟨b, 0, none⟩ = some (.int .u32 x)) (hz : w.frozen? ⟨b, 0, none⟩ = false) (s : Int) (hs : IntKind.u32.wrap (x + y) = s) :
    Calls Tryz.prog 60 #[.pointer (some ⟨b, 0, none⟩), .int .u32 y] w fun e w' => e = .returned (.int .u32 s) ∧ w' = w.setCell ⟨b, 0, none⟩ (.int .u32 s) := by
  have hl := run_call_add (P := Tryz.prog) Tryz.func67 (by kernel_rfl) (by kernel_rfl) (by kernel_rfl) .u32 (by kernel_rfl) (y := y) hc hz (s := s) (by rw [← hs]; rfl)
  clear hs
  go_enter Tryz.func60, Tryz.ntmps60
  go_wp2
  go_ret
  exact ⟨rfl, rfl⟩

theorem aand_uint32 (b : Nat) (x y : Int) (w : World) (hc : w.cell? ⟨b, 0, none⟩ = some (.int .u32 x)) (hz : w.frozen? ⟨b, 0, none⟩ = false) (s : Int) (hs : bits .and .u32 x y = s) :
    Calls Tryz.prog 61 #[.pointer (some ⟨b, 0, none⟩), .int .u32 y] w fun e w' => e = .returned (.int .u32 x) ∧ w' = w.setCell ⟨b, 0, none⟩ (.int .u32 s) := by
  have hl := run_call_bits (P := Tryz.prog) .and Tryz.func68 (by kernel_rfl) (by kernel_rfl) (by kernel_rfl) .u32 (by kernel_rfl) (y := y) hc hz (s := s) (by rw [← hs]; rfl)
  clear hs
  go_enter Tryz.func61, Tryz.ntmps61
  go_wp2
  go_ret
  exact ⟨rfl, rfl⟩

theorem aor_uint32 (b : Nat) (x y : Int) (w : World) (hc : w.cell? ⟨b, 0, none⟩ = some (.int .u32 x)) (hz : w.frozen? ⟨b, 0, none⟩ = false) (s : Int) (hs : bits .or .u32 x y = s) :
    Calls Tryz.prog 64 #[.pointer (some ⟨b, 0, none⟩), .int .u32 y] w fun e w' => e = .returned (.int .u32 x) ∧ w' = w.setCell ⟨b, 0, none⟩ (.int .u32 s) := by
  have hl := run_call_bits (P := Tryz.prog) .or Tryz.func71 (by kernel_rfl) (by kernel_rfl) (by kernel_rfl) .u32 (by kernel_rfl) (y := y) hc hz (s := s) (by rw [← hs]; rfl)
  clear hs
  go_enter Tryz.func64, Tryz.ntmps64
  go_wp2
  go_ret
  exact ⟨rfl, rfl⟩

theorem ahit_uint32 (b : Nat) (x o y : Int) (w : World) (hc : w.cell? ⟨b, 0, none⟩ = some (.int .u32 x)) (hz : w.frozen? ⟨b, 0, none⟩ = false) (ho : x = o) :
    Calls Tryz.prog 62 #[.pointer (some ⟨b, 0, none⟩), .int .u32 o, .int .u32 y] w fun e w' => e = .returned (.bool true) ∧ w' = w.setCell ⟨b, 0, none⟩ (.int .u32 y) := by
  subst ho
  have hl := run_call_cas_hit (P := Tryz.prog) Tryz.func69 (by kernel_rfl) (by kernel_rfl) (by kernel_rfl) .u32 (by kernel_rfl) (y := y) hc hz
  go_enter Tryz.func62, Tryz.ntmps62
  go_wp2
  go_ret
  exact ⟨rfl, rfl⟩

theorem amiss_uint32 (b : Nat) (x o y : Int) (w : World) (hc : w.cell? ⟨b, 0, none⟩ = some (.int .u32 x)) (hz : w.frozen? ⟨b, 0, none⟩ = false) (hne : ¬ x = o) :
    Calls Tryz.prog 62 #[.pointer (some ⟨b, 0, none⟩), .int .u32 o, .int .u32 y] w fun e w' => e = .returned (.bool false) ∧ w' = w := by
  have hl := run_call_cas_miss (P := Tryz.prog) Tryz.func69 (by kernel_rfl) (by kernel_rfl) (by kernel_rfl) .u32 (by kernel_rfl) (o := o) (y := y) hc hz hne
  clear hne
  go_enter Tryz.func62, Tryz.ntmps62
  go_wp2
  go_ret
  exact ⟨rfl, rfl⟩

set_option maxHeartbeats 400000 in
theorem got_uint32 (pv : Value) (x : Int) (w : World) (z : Int) (hz : IntKind.u64.wrap x % 4294967296 = z) :
    Calls Tryz.prog 75 #[.agg #[.int .i64 3, pv], .int .u32 x] w fun e w' => e = .returned (.agg #[.int .u64 z, .bool true]) ∧ Below w.heap.size w w' := by
  subst hz
  go_enter Tryz.func75, Tryz.ntmps75
  go_wp2_with (go_at_call 43; refine (narrow_32 3 (by omega) _ _).mono ?_; rintro e w' ⟨rfl, rfl⟩)
  exact bodyPost_ret (v := .agg #[.int .u64 (IntKind.u64.wrap x % 4294967296), .bool true]) (by simp [results, Tryz.results75, go_sem]) rfl ⟨rfl, ((Below.refl _ _).alloc (Nat.le_refl _) _).alloc (by simp) _⟩

theorem mLoad_uint32 (a : Addr) (w : World) : (method 274 77 (.pointer (some a)) "Load").run Tryz.prog w = .ok (63, .pointer (some a)) w := by kernel_rfl
theorem mStore_uint32 (a : Addr) (w : World) : (method 274 77 (.pointer (some a)) "Store").run Tryz.prog w = .ok (65, .pointer (some a)) w := by kernel_rfl
theorem mAdd_uint32 (a : Addr) (w : World) : (method 274 77 (.pointer (some a)) "Add").run Tryz.prog w = .ok (60, .pointer (some a)) w := by kernel_rfl
theorem mSwap_uint32 (a : Addr) (w : World) : (method 274 77 (.pointer (some a)) "Swap").run Tryz.prog w = .ok (66, .pointer (some a)) w := by kernel_rfl
theorem mCompareAndSwap_uint32 (a : Addr) (w : World) : (method 274 77 (.pointer (some a)) "CompareAndSwap").run Tryz.prog w = .ok (62, .pointer (some a)) w := by kernel_rfl
theorem mAnd_uint32 (a : Addr) (w : World) : (method 274 77 (.pointer (some a)) "And").run Tryz.prog w = .ok (61, .pointer (some a)) w := by kernel_rfl
theorem mOr_uint32 (a : Addr) (w : World) : (method 274 77 (.pointer (some a)) "Or").run Tryz.prog w = .ok (64, .pointer (some a)) w := by kernel_rfl

end Go.Proofs.YtffnoaafmaeihaaGreat
