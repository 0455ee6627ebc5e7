/- What sync/atomic's methods of Bool, and word's do over a Bool word, do to the world: contracts. -/
import Derived.Test.YtffnoaafmaeihaaGreatRows
import Derived.WalkKit
import Derived.WalkSpells
import Derived.WalkLawsBesides
import Derived.Deep.RegionHeld3
import Derived.Deep.DrawnRows
import Derived.Test.YtffnoaafmaeihaaGreatAtom
import Derived.Test.YtffnoaafmaeihaaGreatBase
namespace Go.Proofs.YtffnoaafmaeihaaGreat
open Go.RowKit
attribute [local go_sem ↓] Go.wp_at_zero Go.wp_at_succ

/-- A bool as sync/atomic.Bool keeps it. -/
def bI (v : Bool) : Int := if v then 1 else 0
theorem bI_ne (v : Bool) : (bI v != 0) = v := by cases v <;> rfl

theorem b32_any (v : Bool) (w : World) : Calls Tryz.prog 112 #[.bool v] w fun e w' => e = .returned (.int .u32 (bI v)) ∧ w' = w := by
  cases v
  all_goals
    go_enter Tryz.func112, Tryz.ntmps112
    go_wp2
    go_ret
    exact ⟨rfl, rfl⟩

theorem aload_Bool (b : Nat) (s : Bool) (w : World) (hc : w.cell? ⟨b, 0, none⟩ = some (.int .u32 (bI s))) :
    Calls Tryz.prog 109 #[.pointer (some ⟨b, 0, none⟩)] w fun e w' => e = .returned (.bool s) ∧ w' = w := by
  have hl := run_call_load (P := Tryz.prog) Tryz.func70 (by kernel_rfl) (by kernel_rfl) (by kernel_rfl) .u32 (by kernel_rfl) hc
  have hs := bI_ne s
  go_enter Tryz.func109, Tryz.ntmps109
  go_wp2
  go_ret
  exact ⟨rfl, rfl⟩

set_option maxRecDepth 100000 in
set_option maxHeartbeats 400000 in
theorem astore_Bool (b : Nat) (s v : Bool) (w : World) (hc : w.cell? ⟨b, 0, none⟩ = some (.int .u32 (bI s))) (hz : w.frozen? ⟨b, 0, none⟩ = false) :
    Calls Tryz.prog 110 #[.pointer (some ⟨b, 0, none⟩), .bool v] w fun e w' => e = .returned (.tuple #[]) ∧ w' = (w.setCell ⟨b, 0, none⟩ (.int .u32 (bI v))).drew := by
  have hl := run_call_store (P := Tryz.prog) Tryz.func72 (by kernel_rfl) (by kernel_rfl) (by kernel_rfl) (by kernel_rfl) (k := .u32) (y := bI v) (w := w.drew) hc hz
  go_enter Tryz.func110, Tryz.ntmps110
  go_region_held3 (fun _ => True) (exact trivial) (first | (go_at_call 112; refine (b32_any _ _).mono ?_; rintro e w' ⟨rfl, rfl⟩))
  go_end0
  exact ⟨rfl, rfl⟩

set_option maxRecDepth 100000 in
set_option maxHeartbeats 400000 in
theorem aswap_Bool (b : Nat) (s v : Bool) (w : World) (hc : w.cell? ⟨b, 0, none⟩ = some (.int .u32 (bI s))) (hz : w.frozen? ⟨b, 0, none⟩ = false) :
    Calls Tryz.prog 111 #[.pointer (some ⟨b, 0, none⟩), .bool v] w fun e w' => e = .returned (.bool s) ∧ w' = (w.setCell ⟨b, 0, none⟩ (.int .u32 (bI v))).drew := by
  have hl := run_call_swap (P := Tryz.prog) Tryz.func73 (by kernel_rfl) (by kernel_rfl) (by kernel_rfl) .u32 (by kernel_rfl) (y := bI v) (w := w.drew) hc hz
  have hs := bI_ne s
  go_enter Tryz.func111, Tryz.ntmps111
  go_wp2
  go_region_held3 (fun _ => True) (exact trivial) (first | (go_at_call 112; refine (b32_any _ _).mono ?_; rintro e w' ⟨rfl, rfl⟩))
  go_wp2
  go_ret
  exact ⟨rfl, rfl⟩

set_option maxRecDepth 100000 in
set_option maxHeartbeats 400000 in
theorem ahit_Bool (b : Nat) (s v : Bool) (w : World) (hc : w.cell? ⟨b, 0, none⟩ = some (.int .u32 (bI s))) (hz : w.frozen? ⟨b, 0, none⟩ = false) :
    Calls Tryz.prog 108 #[.pointer (some ⟨b, 0, none⟩), .bool s, .bool v] w fun e w' => e = .returned (.bool true) ∧ w' = (w.setCell ⟨b, 0, none⟩ (.int .u32 (bI v))).drew := by
  have hl := run_call_cas_hit (P := Tryz.prog) Tryz.func69 (by kernel_rfl) (by kernel_rfl) (by kernel_rfl) .u32 (by kernel_rfl) (y := bI v) (w := w.drew) hc hz
  go_enter Tryz.func108, Tryz.ntmps108
  go_wp2
  go_region_held3 (fun _ => True) (exact trivial) (first | (go_at_call 112; refine (b32_any _ _).mono ?_; rintro e w' ⟨rfl, rfl⟩))
  go_wp2
  go_ret
  exact ⟨rfl, rfl⟩

theorem bI_inj (a b : Bool) (h : ¬ a = b) : ¬ bI a = bI b := by revert h; cases a <;> cases b <;> decide

set_option maxRecDepth 100000 in
set_option maxHeartbeats 400000 in
theorem amiss_Bool (b : Nat) (s o v : Bool) (hne : ¬ s = o) (w : World) (hc : w.cell? ⟨b, 0, none⟩ = some (.int .u32 (bI s))) (hz : w.frozen? ⟨b, 0, none⟩ = false) :
    Calls Tryz.prog 108 #[.pointer (some ⟨b, 0, none⟩), .bool o, .bool v] w fun e w' => e = .returned (.bool false) ∧ w' = w.drew := by
  have hl := run_call_cas_miss (P := Tryz.prog) Tryz.func69 (by kernel_rfl) (by kernel_rfl) (by kernel_rfl) .u32 (by kernel_rfl) (o := bI o) (y := bI v) (w := w.drew) hc hz (bI_inj s o hne)
  clear hne
  go_enter Tryz.func108, Tryz.ntmps108
  go_wp2
  go_region_held3 (fun _ => True) (exact trivial) (first | (go_at_call 112; refine (b32_any _ _).mono ?_; rintro e w' ⟨rfl, rfl⟩))
  go_wp2
  go_ret
  exact ⟨rfl, rfl⟩

theorem boolGot_any (v : Bool) (w : World) : Calls Tryz.prog 114 #[.bool v] w fun e w' => e = .returned (.agg #[.int .u64 (bI v), .bool true]) ∧ Below w.heap.size w w' := by
  cases v
  all_goals
    go_enter Tryz.func114, Tryz.ntmps114
    go_wp2
  · exact bodyPost_ret (v := .agg #[.int .u64 0, .bool true]) (by simp [results, Tryz.results114, go_sem]) rfl ⟨rfl, (Below.refl _ _).alloc (Nat.le_refl _) _⟩
  · exact bodyPost_ret (v := .agg #[.int .u64 1, .bool true]) (by simp [results, Tryz.results114, go_sem]) rfl ⟨rfl, (Below.refl _ _).alloc (Nat.le_refl _) _⟩

set_option maxRecDepth 100000 in
set_option maxHeartbeats 1000000 in
theorem doLoad_Bool (b : Nat) (s : Bool) (A B : Int) (w : World) (hc : w.cell? ⟨b, 0, none⟩ = some (.int .u32 (bI s))) (hz : w.frozen? ⟨b, 0, none⟩ = false) (hb : b < w.heap.size) :
    Calls Tryz.prog 113 #[.agg #[.pointer (some ⟨b, 0, none⟩)], .agg #[.int .i64 1, .int .u64 A, .int .u64 B]] w fun e w' => e = .returned (.agg #[.int .u64 (bI s), .bool true]) ∧ Held b (.int .u32 (bI s)) w w' := by
  have hc3 : ∀ o1 o2 o3, (((w.alloc o1).alloc o2).alloc o3).cell? ⟨b, 0, none⟩ = some (.int .u32 (bI s)) := fun o1 o2 o3 => by rw [past3 w b hb]; exact hc
  have hz3 : ∀ o1 o2 o3, (((w.alloc o1).alloc o2).alloc o3).frozen? ⟨b, 0, none⟩ = false := fun o1 o2 o3 => by rw [fpast3 w b hb]; exact hz
  have n0 : ¬ b = w.heap.size := by omega
  have n1 : ¬ b = w.heap.size + 1 := by omega
  have n2 : ¬ b = w.heap.size + 1 + 1 := by omega
  have s0 : w.heap.size < w.heap.size + 1 + 1 + 1 := by omega
  have n3 : ¬ w.heap.size = w.heap.size + 1 + 1 := by omega
  have n4 : ¬ w.heap.size + 1 + 1 = w.heap.size := by omega
  go_enter Tryz.func113, Tryz.ntmps113
  go_wp2_with (first | (go_at_call 109; refine (aload_Bool b s _ ?_).mono ?_; (simp [*]); rintro e w' ⟨rfl, rfl⟩) | (go_at_call 114; refine (boolGot_any _ _).mono ?_; rintro e w' ⟨rfl, hb1⟩; obtain ⟨hq1, hf1⟩ := bcell hb1))
  refine bodyPost_ret (v := .agg #[.int .u64 (bI s), .bool true]) (by simp [results, Tryz.results113, go_sem, *]) rfl ⟨rfl, ?_⟩
  exact Held.other (p := ⟨w.heap.size + 1 + 1, 1, none⟩) (Held.other (p := ⟨w.heap.size + 1 + 1, 0, none⟩) (((((Held.refl hc hz).alloc hb _).alloc hb _).alloc hb _).below hb hb1) hb (show w.heap.size ≤ w.heap.size + 1 + 1 by omega) _) hb (show w.heap.size ≤ w.heap.size + 1 + 1 by omega) _

set_option maxRecDepth 100000 in
set_option maxHeartbeats 1000000 in
theorem doStore_Bool (b : Nat) (s : Bool) (A B : Int) (w : World) (hc : w.cell? ⟨b, 0, none⟩ = some (.int .u32 (bI s))) (hz : w.frozen? ⟨b, 0, none⟩ = false) (hb : b < w.heap.size) :
    Calls Tryz.prog 113 #[.agg #[.pointer (some ⟨b, 0, none⟩)], .agg #[.int .i64 2, .int .u64 A, .int .u64 B]] w fun e w' => e = .returned (.agg #[.int .u64 0, .bool true]) ∧ Held b (.int .u32 (bI (A != 0))) w w' := by
  have hc3 : ∀ o1 o2 o3, (((w.alloc o1).alloc o2).alloc o3).cell? ⟨b, 0, none⟩ = some (.int .u32 (bI s)) := fun o1 o2 o3 => by rw [past3 w b hb]; exact hc
  have hz3 : ∀ o1 o2 o3, (((w.alloc o1).alloc o2).alloc o3).frozen? ⟨b, 0, none⟩ = false := fun o1 o2 o3 => by rw [fpast3 w b hb]; exact hz
  have n0 : ¬ b = w.heap.size := by omega
  have n1 : ¬ b = w.heap.size + 1 := by omega
  have n2 : ¬ b = w.heap.size + 1 + 1 := by omega
  have s0 : w.heap.size < w.heap.size + 1 + 1 + 1 := by omega
  have n3 : ¬ w.heap.size = w.heap.size + 1 + 1 := by omega
  have n4 : ¬ w.heap.size + 1 + 1 = w.heap.size := by omega
  go_enter Tryz.func113, Tryz.ntmps113
  go_wp2_with (first | (go_at_call 110; refine (astore_Bool b s _ _ ?_ ?_).mono ?_; (simp [*]); (simp [*]); rintro e w' ⟨rfl, rfl⟩))
  refine bodyPost_ret (v := .agg #[.int .u64 0, .bool true]) (by simp [results, Tryz.results113, go_sem, *]) rfl ⟨rfl, ?_⟩
  exact Held.other (p := ⟨w.heap.size + 1 + 1, 1, none⟩) (Held.other (p := ⟨w.heap.size + 1 + 1, 0, none⟩) ((Held.set ((((Held.refl hc hz).alloc hb _).alloc hb _).alloc hb _) _).drew) hb (show w.heap.size ≤ w.heap.size + 1 + 1 by omega) _) hb (show w.heap.size ≤ w.heap.size + 1 + 1 by omega) _

set_option maxRecDepth 100000 in
set_option maxHeartbeats 1000000 in
theorem doSwap_Bool (b : Nat) (s : Bool) (A B : Int) (w : World) (hc : w.cell? ⟨b, 0, none⟩ = some (.int .u32 (bI s))) (hz : w.frozen? ⟨b, 0, none⟩ = false) (hb : b < w.heap.size) :
    Calls Tryz.prog 113 #[.agg #[.pointer (some ⟨b, 0, none⟩)], .agg #[.int .i64 4, .int .u64 A, .int .u64 B]] w fun e w' => e = .returned (.agg #[.int .u64 (bI s), .bool true]) ∧ Held b (.int .u32 (bI (A != 0))) w w' := by
  have hc3 : ∀ o1 o2 o3, (((w.alloc o1).alloc o2).alloc o3).cell? ⟨b, 0, none⟩ = some (.int .u32 (bI s)) := fun o1 o2 o3 => by rw [past3 w b hb]; exact hc
  have hz3 : ∀ o1 o2 o3, (((w.alloc o1).alloc o2).alloc o3).frozen? ⟨b, 0, none⟩ = false := fun o1 o2 o3 => by rw [fpast3 w b hb]; exact hz
  have n0 : ¬ b = w.heap.size := by omega
  have n1 : ¬ b = w.heap.size + 1 := by omega
  have n2 : ¬ b = w.heap.size + 1 + 1 := by omega
  have s0 : w.heap.size < w.heap.size + 1 + 1 + 1 := by omega
  have n3 : ¬ w.heap.size = w.heap.size + 1 + 1 := by omega
  have n4 : ¬ w.heap.size + 1 + 1 = w.heap.size := by omega
  go_enter Tryz.func113, Tryz.ntmps113
  go_wp2_with (first | (go_at_call 111; refine (aswap_Bool b s _ _ ?_ ?_).mono ?_; (simp [*]); (simp [*]); rintro e w' ⟨rfl, rfl⟩) | (go_at_call 114; refine (boolGot_any _ _).mono ?_; rintro e w' ⟨rfl, hb1⟩; obtain ⟨hq1, hf1⟩ := bcell hb1))
  refine bodyPost_ret (v := .agg #[.int .u64 (bI s), .bool true]) (by simp [results, Tryz.results113, go_sem, *]) rfl ⟨rfl, ?_⟩
  exact Held.other (p := ⟨w.heap.size + 1 + 1, 1, none⟩) (Held.other (p := ⟨w.heap.size + 1 + 1, 0, none⟩) (((Held.set ((((Held.refl hc hz).alloc hb _).alloc hb _).alloc hb _) _).drew).below hb hb1) hb (show w.heap.size ≤ w.heap.size + 1 + 1 by omega) _) hb (show w.heap.size ≤ w.heap.size + 1 + 1 by omega) _

theorem ahit_Bool' (b : Nat) (s o v : Bool) (ho : s = o) (w : World) (hc : w.cell? ⟨b, 0, none⟩ = some (.int .u32 (bI s))) (hz : w.frozen? ⟨b, 0, none⟩ = false) :
    Calls Tryz.prog 108 #[.pointer (some ⟨b, 0, none⟩), .bool o, .bool v] w fun e w' => e = .returned (.bool true) ∧ w' = (w.setCell ⟨b, 0, none⟩ (.int .u32 (bI v))).drew := by
  subst ho; exact ahit_Bool b s v w hc hz

set_option maxRecDepth 100000 in
set_option maxHeartbeats 1000000 in
theorem doHit_Bool (b : Nat) (s : Bool) (A B : Int) (w : World) (hc : w.cell? ⟨b, 0, none⟩ = some (.int .u32 (bI s))) (hz : w.frozen? ⟨b, 0, none⟩ = false) (hb : b < w.heap.size) (ho : Hid (s = (A != 0))) :
    Calls Tryz.prog 113 #[.agg #[.pointer (some ⟨b, 0, none⟩)], .agg #[.int .i64 5, .int .u64 A, .int .u64 B]] w fun e w' => e = .returned (.agg #[.int .u64 0, .bool true]) ∧ Held b (.int .u32 (bI (B != 0))) w w' := by
  have hc3 : ∀ o1 o2 o3, (((w.alloc o1).alloc o2).alloc o3).cell? ⟨b, 0, none⟩ = some (.int .u32 (bI s)) := fun o1 o2 o3 => by rw [past3 w b hb]; exact hc
  have hz3 : ∀ o1 o2 o3, (((w.alloc o1).alloc o2).alloc o3).frozen? ⟨b, 0, none⟩ = false := fun o1 o2 o3 => by rw [fpast3 w b hb]; exact hz
  have n0 : ¬ b = w.heap.size := by omega
  have n1 : ¬ b = w.heap.size + 1 := by omega
  have n2 : ¬ b = w.heap.size + 1 + 1 := by omega
  have s0 : w.heap.size < w.heap.size + 1 + 1 + 1 := by omega
  have n3 : ¬ w.heap.size = w.heap.size + 1 + 1 := by omega
  have n4 : ¬ w.heap.size + 1 + 1 = w.heap.size := by omega
  go_enter Tryz.func113, Tryz.ntmps113
  go_wp2_with (first | (go_at_call 108; refine (ahit_Bool' b s _ _ ho.out _ ?_ ?_).mono ?_; (simp [*]); (simp [*]); rintro e w' ⟨rfl, rfl⟩))
  refine bodyPost_ret (v := .agg #[.int .u64 0, .bool true]) (by simp [results, Tryz.results113, go_sem, *]) rfl ⟨rfl, ?_⟩
  exact Held.other (p := ⟨w.heap.size + 1 + 1, 1, none⟩) (Held.other (p := ⟨w.heap.size + 1 + 1, 0, none⟩) ((Held.set ((((Held.refl hc hz).alloc hb _).alloc hb _).alloc hb _) _).drew) hb (show w.heap.size ≤ w.heap.size + 1 + 1 by omega) _) hb (show w.heap.size ≤ w.heap.size + 1 + 1 by omega) _

set_option maxRecDepth 100000 in
set_option maxHeartbeats 1000000 in
theorem doMiss_Bool (b : Nat) (s : Bool) (A B : Int) (w : World) (hc : w.cell? ⟨b, 0, none⟩ = some (.int .u32 (bI s))) (hz : w.frozen? ⟨b, 0, none⟩ = false) (hb : b < w.heap.size) (ho : Hid (¬ s = (A != 0))) :
    Calls Tryz.prog 113 #[.agg #[.pointer (some ⟨b, 0, none⟩)], .agg #[.int .i64 5, .int .u64 A, .int .u64 B]] w fun e w' => e = .returned (.agg #[.int .u64 0, .bool false]) ∧ Held b (.int .u32 (bI s)) w w' := by
  have hc3 : ∀ o1 o2 o3, (((w.alloc o1).alloc o2).alloc o3).cell? ⟨b, 0, none⟩ = some (.int .u32 (bI s)) := fun o1 o2 o3 => by rw [past3 w b hb]; exact hc
  have hz3 : ∀ o1 o2 o3, (((w.alloc o1).alloc o2).alloc o3).frozen? ⟨b, 0, none⟩ = false := fun o1 o2 o3 => by rw [fpast3 w b hb]; exact hz
  have n0 : ¬ b = w.heap.size := by omega
  have n1 : ¬ b = w.heap.size + 1 := by omega
  have n2 : ¬ b = w.heap.size + 1 + 1 := by omega
  have s0 : w.heap.size < w.heap.size + 1 + 1 + 1 := by omega
  have n3 : ¬ w.heap.size = w.heap.size + 1 + 1 := by omega
  have n4 : ¬ w.heap.size + 1 + 1 = w.heap.size := by omega
  go_enter Tryz.func113, Tryz.ntmps113
  go_wp2_with (first | (go_at_call 108; refine (amiss_Bool b s _ _ ho.out _ ?_ ?_).mono ?_; (simp [*]); (simp [*]); rintro e w' ⟨rfl, rfl⟩))
  refine bodyPost_ret (v := .agg #[.int .u64 0, .bool false]) (by simp [results, Tryz.results113, go_sem, *]) rfl ⟨rfl, ?_⟩
  trace_state
  exact ((((Held.refl hc hz).alloc hb _).alloc hb _).alloc hb _).drew
end Go.Proofs.YtffnoaafmaeihaaGreat
