/- What word's do over a word of the kind uintptr does to the world: a contract for each access. -/
import Derived.Test.YtffnoaafmaeihaaGreatWuintptr
namespace Go.Proofs.YtffnoaafmaeihaaGreat
open Go.RowKit
attribute [local go_sem ↓] Go.wp_at_zero Go.wp_at_succ

set_option maxRecDepth 100000 in
set_option maxHeartbeats 1000000 in
theorem doLoad_uintptr (b : Nat) (x A B z : Int) (w : World) (hc : w.cell? ⟨b, 0, none⟩ = some (.int .u64 x)) (hz : w.frozen? ⟨b, 0, none⟩ = false) (hb : b < w.heap.size) (hzz : Hid (x = z)) :
    Calls Tryz.prog 106 #[.agg #[.int .i64 6, .iface 92 (.pointer (some ⟨b, 0, none⟩))], .agg #[.int .i64 1, .int .u64 A, .int .u64 B]] w fun e w' => e = .returned (.agg #[.int .u64 z, .bool true]) ∧ Held b (.int .u64 x) w w' := by
  have hc3 : ∀ o1 o2 o3, (((w.alloc o1).alloc o2).alloc o3).cell? ⟨b, 0, none⟩ = some (.int .u64 x) := fun o1 o2 o3 => by rw [past3 w b hb]; exact hc
  have hz3 : ∀ o1 o2 o3, (((w.alloc o1).alloc o2).alloc o3).frozen? ⟨b, 0, none⟩ = false := fun o1 o2 o3 => by rw [fpast3 w b hb]; exact hz
  have n0 : ¬ b = w.heap.size := by omega
  have n1 : ¬ b = w.heap.size + 1 := by omega
  have n2 : ¬ b = w.heap.size + 1 + 1 := by omega
  have s0 : w.heap.size < w.heap.size + 1 + 1 + 1 := by omega
  have n3 : ¬ w.heap.size = w.heap.size + 1 + 1 := by omega
  have n4 : ¬ w.heap.size + 1 + 1 = w.heap.size := by omega
  have hm := mLoad_uintptr
  go_enter Tryz.func106, Tryz.ntmps106
  go_wp2
  go_region_held3 (fun w' => (w'.cell? ⟨w.heap.size, 0, none⟩ = some (.int .i64 6) ∧ w'.cell? ⟨w.heap.size, 1, none⟩ = some (.iface 92 (.pointer (some ⟨b, 0, none⟩)))) ∧ w'.cell? ⟨w.heap.size + 1, 1, none⟩ = some (.int .u64 A)) (go_keep)
    (first | (go_at_call 95; refine (aload_uintptr b x _ ?_).mono ?_; (simp [*]); rintro e w' ⟨rfl, rfl⟩) | (go_at_call 107; refine (got_uintptr _ _ _ z hzz.out).mono ?_; rintro e w' ⟨rfl, hb1⟩; obtain ⟨hq1, hf1⟩ := bcell hb1))
  go_wp2
  refine bodyPost_ret (v := .agg #[.int .u64 z, .bool true]) (by simp [results, Tryz.results106, go_sem, hq1]) rfl ⟨rfl, ?_⟩
  exact Held.other (p := ⟨w.heap.size + 1 + 1, 1, none⟩) (Held.other (p := ⟨w.heap.size + 1 + 1, 0, none⟩) ((((((Held.refl hc hz).alloc hb _).alloc hb _).alloc hb _).drew).below hb hb1) hb (show w.heap.size ≤ w.heap.size + 1 + 1 by omega) _) hb (show w.heap.size ≤ w.heap.size + 1 + 1 by omega) _

set_option maxRecDepth 100000 in
set_option maxHeartbeats 1000000 in
theorem doAdd_uintptr (b : Nat) (x A B s z : Int) (w : World) (hc : w.cell? ⟨b, 0, none⟩ = some (.int .u64 x)) (hz : w.frozen? ⟨b, 0, none⟩ = false) (hb : b < w.heap.size) (hs : Hid (IntKind.u64.wrap (x + A) = s)) (hzz : Hid (s = z)) :
    Calls Tryz.prog 106 #[.agg #[.int .i64 6, .iface 92 (.pointer (some ⟨b, 0, none⟩))], .agg #[.int .i64 3, .int .u64 A, .int .u64 B]] w fun e w' => e = .returned (.agg #[.int .u64 z, .bool true]) ∧ Held b (.int .u64 s) w w' := by
  have hc3 : ∀ o1 o2 o3, (((w.alloc o1).alloc o2).alloc o3).cell? ⟨b, 0, none⟩ = some (.int .u64 x) := fun o1 o2 o3 => by rw [past3 w b hb]; exact hc
  have hz3 : ∀ o1 o2 o3, (((w.alloc o1).alloc o2).alloc o3).frozen? ⟨b, 0, none⟩ = false := fun o1 o2 o3 => by rw [fpast3 w b hb]; exact hz
  have n0 : ¬ b = w.heap.size := by omega
  have n1 : ¬ b = w.heap.size + 1 := by omega
  have n2 : ¬ b = w.heap.size + 1 + 1 := by omega
  have s0 : w.heap.size < w.heap.size + 1 + 1 + 1 := by omega
  have n3 : ¬ w.heap.size = w.heap.size + 1 + 1 := by omega
  have n4 : ¬ w.heap.size + 1 + 1 = w.heap.size := by omega
  have hm := mAdd_uintptr
  go_enter Tryz.func106, Tryz.ntmps106
  go_wp2
  go_region_held3 (fun w' => (w'.cell? ⟨w.heap.size, 0, none⟩ = some (.int .i64 6) ∧ w'.cell? ⟨w.heap.size, 1, none⟩ = some (.iface 92 (.pointer (some ⟨b, 0, none⟩)))) ∧ w'.cell? ⟨w.heap.size + 1, 1, none⟩ = some (.int .u64 A)) (go_keep)
    (first | (go_at_call 92; refine (aadd_uintptr b x _ _ ?_ ?_ s hs.out).mono ?_; (simp [*]); (simp [*]); rintro e w' ⟨rfl, rfl⟩) | (go_at_call 107; refine (got_uintptr _ _ _ z hzz.out).mono ?_; rintro e w' ⟨rfl, hb1⟩; obtain ⟨hq1, hf1⟩ := bcell hb1))
  go_wp2
  refine bodyPost_ret (v := .agg #[.int .u64 z, .bool true]) (by simp [results, Tryz.results106, go_sem, hq1]) rfl ⟨rfl, ?_⟩
  exact Held.other (p := ⟨w.heap.size + 1 + 1, 1, none⟩) (Held.other (p := ⟨w.heap.size + 1 + 1, 0, none⟩) (((Held.set ((((Held.refl hc hz).alloc hb _).alloc hb _).alloc hb _) _).drew).below hb hb1) hb (show w.heap.size ≤ w.heap.size + 1 + 1 by omega) _) hb (show w.heap.size ≤ w.heap.size + 1 + 1 by omega) _

set_option maxRecDepth 100000 in
set_option maxHeartbeats 1000000 in
theorem doSwap_uintptr (b : Nat) (x A B z : Int) (w : World) (hc : w.cell? ⟨b, 0, none⟩ = some (.int .u64 x)) (hz : w.frozen? ⟨b, 0, none⟩ = false) (hb : b < w.heap.size) (hzz : Hid (x = z)) :
    Calls Tryz.prog 106 #[.agg #[.int .i64 6, .iface 92 (.pointer (some ⟨b, 0, none⟩))], .agg #[.int .i64 4, .int .u64 A, .int .u64 B]] w fun e w' => e = .returned (.agg #[.int .u64 z, .bool true]) ∧ Held b (.int .u64 (A)) w w' := by
  have hc3 : ∀ o1 o2 o3, (((w.alloc o1).alloc o2).alloc o3).cell? ⟨b, 0, none⟩ = some (.int .u64 x) := fun o1 o2 o3 => by rw [past3 w b hb]; exact hc
  have hz3 : ∀ o1 o2 o3, (((w.alloc o1).alloc o2).alloc o3).frozen? ⟨b, 0, none⟩ = false := fun o1 o2 o3 => by rw [fpast3 w b hb]; exact hz
  have n0 : ¬ b = w.heap.size := by omega
  have n1 : ¬ b = w.heap.size + 1 := by omega
  have n2 : ¬ b = w.heap.size + 1 + 1 := by omega
  have s0 : w.heap.size < w.heap.size + 1 + 1 + 1 := by omega
  have n3 : ¬ w.heap.size = w.heap.size + 1 + 1 := by omega
  have n4 : ¬ w.heap.size + 1 + 1 = w.heap.size := by omega
  have hm := mSwap_uintptr
  go_enter Tryz.func106, Tryz.ntmps106
  go_wp2
  go_region_held3 (fun w' => (w'.cell? ⟨w.heap.size, 0, none⟩ = some (.int .i64 6) ∧ w'.cell? ⟨w.heap.size, 1, none⟩ = some (.iface 92 (.pointer (some ⟨b, 0, none⟩)))) ∧ w'.cell? ⟨w.heap.size + 1, 1, none⟩ = some (.int .u64 A)) (go_keep)
    (first | (go_at_call 98; refine (aswap_uintptr b x _ _ ?_ ?_).mono ?_; (simp [*]); (simp [*]); rintro e w' ⟨rfl, rfl⟩) | (go_at_call 107; refine (got_uintptr _ _ _ z hzz.out).mono ?_; rintro e w' ⟨rfl, hb1⟩; obtain ⟨hq1, hf1⟩ := bcell hb1))
  go_wp2
  refine bodyPost_ret (v := .agg #[.int .u64 z, .bool true]) (by simp [results, Tryz.results106, go_sem, hq1]) rfl ⟨rfl, ?_⟩
  exact Held.other (p := ⟨w.heap.size + 1 + 1, 1, none⟩) (Held.other (p := ⟨w.heap.size + 1 + 1, 0, none⟩) (((Held.set ((((Held.refl hc hz).alloc hb _).alloc hb _).alloc hb _) _).drew).below hb hb1) hb (show w.heap.size ≤ w.heap.size + 1 + 1 by omega) _) hb (show w.heap.size ≤ w.heap.size + 1 + 1 by omega) _

set_option maxRecDepth 100000 in
set_option maxHeartbeats 1000000 in
theorem doAnd_uintptr (b : Nat) (x A B s z : Int) (w : World) (hc : w.cell? ⟨b, 0, none⟩ = some (.int .u64 x)) (hz : w.frozen? ⟨b, 0, none⟩ = false) (hb : b < w.heap.size) (hs : Hid (bits .and .u64 x (A) = s)) (hzz : Hid (x = z)) :
    Calls Tryz.prog 106 #[.agg #[.int .i64 6, .iface 92 (.pointer (some ⟨b, 0, none⟩))], .agg #[.int .i64 6, .int .u64 A, .int .u64 B]] w fun e w' => e = .returned (.agg #[.int .u64 z, .bool true]) ∧ Held b (.int .u64 s) w w' := by
  have hc3 : ∀ o1 o2 o3, (((w.alloc o1).alloc o2).alloc o3).cell? ⟨b, 0, none⟩ = some (.int .u64 x) := fun o1 o2 o3 => by rw [past3 w b hb]; exact hc
  have hz3 : ∀ o1 o2 o3, (((w.alloc o1).alloc o2).alloc o3).frozen? ⟨b, 0, none⟩ = false := fun o1 o2 o3 => by rw [fpast3 w b hb]; exact hz
  have n0 : ¬ b = w.heap.size := by omega
  have n1 : ¬ b = w.heap.size + 1 := by omega
  have n2 : ¬ b = w.heap.size + 1 + 1 := by omega
  have s0 : w.heap.size < w.heap.size + 1 + 1 + 1 := by omega
  have n3 : ¬ w.heap.size = w.heap.size + 1 + 1 := by omega
  have n4 : ¬ w.heap.size + 1 + 1 = w.heap.size := by omega
  have hm := mAnd_uintptr
  go_enter Tryz.func106, Tryz.ntmps106
  go_wp2
  go_region_held3 (fun w' => (w'.cell? ⟨w.heap.size, 0, none⟩ = some (.int .i64 6) ∧ w'.cell? ⟨w.heap.size, 1, none⟩ = some (.iface 92 (.pointer (some ⟨b, 0, none⟩)))) ∧ w'.cell? ⟨w.heap.size + 1, 1, none⟩ = some (.int .u64 A)) (go_keep)
    (first | (go_at_call 93; refine (aand_uintptr b x _ _ ?_ ?_ s hs.out).mono ?_; (simp [*]); (simp [*]); rintro e w' ⟨rfl, rfl⟩) | (go_at_call 107; refine (got_uintptr _ _ _ z hzz.out).mono ?_; rintro e w' ⟨rfl, hb1⟩; obtain ⟨hq1, hf1⟩ := bcell hb1))
  go_wp2
  refine bodyPost_ret (v := .agg #[.int .u64 z, .bool true]) (by simp [results, Tryz.results106, go_sem, hq1]) rfl ⟨rfl, ?_⟩
  exact Held.other (p := ⟨w.heap.size + 1 + 1, 1, none⟩) (Held.other (p := ⟨w.heap.size + 1 + 1, 0, none⟩) (((Held.set ((((Held.refl hc hz).alloc hb _).alloc hb _).alloc hb _) _).drew).below hb hb1) hb (show w.heap.size ≤ w.heap.size + 1 + 1 by omega) _) hb (show w.heap.size ≤ w.heap.size + 1 + 1 by omega) _

set_option maxRecDepth 100000 in
set_option maxHeartbeats 1000000 in
theorem doOr_uintptr (b : Nat) (x A B s z : Int) (w : World) (hc : w.cell? ⟨b, 0, none⟩ = some (.int .u64 x)) (hz : w.frozen? ⟨b, 0, none⟩ = false) (hb : b < w.heap.size) (hs : Hid (bits .or .u64 x (A) = s)) (hzz : Hid (x = z)) :
    Calls Tryz.prog 106 #[.agg #[.int .i64 6, .iface 92 (.pointer (some ⟨b, 0, none⟩))], .agg #[.int .i64 7, .int .u64 A, .int .u64 B]] w fun e w' => e = .returned (.agg #[.int .u64 z, .bool true]) ∧ Held b (.int .u64 s) w w' := by
  have hc3 : ∀ o1 o2 o3, (((w.alloc o1).alloc o2).alloc o3).cell? ⟨b, 0, none⟩ = some (.int .u64 x) := fun o1 o2 o3 => by rw [past3 w b hb]; exact hc
  have hz3 : ∀ o1 o2 o3, (((w.alloc o1).alloc o2).alloc o3).frozen? ⟨b, 0, none⟩ = false := fun o1 o2 o3 => by rw [fpast3 w b hb]; exact hz
  have n0 : ¬ b = w.heap.size := by omega
  have n1 : ¬ b = w.heap.size + 1 := by omega
  have n2 : ¬ b = w.heap.size + 1 + 1 := by omega
  have s0 : w.heap.size < w.heap.size + 1 + 1 + 1 := by omega
  have n3 : ¬ w.heap.size = w.heap.size + 1 + 1 := by omega
  have n4 : ¬ w.heap.size + 1 + 1 = w.heap.size := by omega
  have hm := mOr_uintptr
  go_enter Tryz.func106, Tryz.ntmps106
  go_wp2
  go_region_held3 (fun w' => (w'.cell? ⟨w.heap.size, 0, none⟩ = some (.int .i64 6) ∧ w'.cell? ⟨w.heap.size, 1, none⟩ = some (.iface 92 (.pointer (some ⟨b, 0, none⟩)))) ∧ w'.cell? ⟨w.heap.size + 1, 1, none⟩ = some (.int .u64 A)) (go_keep)
    (first | (go_at_call 96; refine (aor_uintptr b x _ _ ?_ ?_ s hs.out).mono ?_; (simp [*]); (simp [*]); rintro e w' ⟨rfl, rfl⟩) | (go_at_call 107; refine (got_uintptr _ _ _ z hzz.out).mono ?_; rintro e w' ⟨rfl, hb1⟩; obtain ⟨hq1, hf1⟩ := bcell hb1))
  go_wp2
  refine bodyPost_ret (v := .agg #[.int .u64 z, .bool true]) (by simp [results, Tryz.results106, go_sem, hq1]) rfl ⟨rfl, ?_⟩
  exact Held.other (p := ⟨w.heap.size + 1 + 1, 1, none⟩) (Held.other (p := ⟨w.heap.size + 1 + 1, 0, none⟩) (((Held.set ((((Held.refl hc hz).alloc hb _).alloc hb _).alloc hb _) _).drew).below hb hb1) hb (show w.heap.size ≤ w.heap.size + 1 + 1 by omega) _) hb (show w.heap.size ≤ w.heap.size + 1 + 1 by omega) _

set_option maxRecDepth 100000 in
set_option maxHeartbeats 1000000 in
theorem doStore_uintptr (b : Nat) (x A B : Int) (w : World) (hc : w.cell? ⟨b, 0, none⟩ = some (.int .u64 x)) (hz : w.frozen? ⟨b, 0, none⟩ = false) (hb : b < w.heap.size)  :
    Calls Tryz.prog 106 #[.agg #[.int .i64 6, .iface 92 (.pointer (some ⟨b, 0, none⟩))], .agg #[.int .i64 2, .int .u64 A, .int .u64 B]] w fun e w' => e = .returned (.agg #[.int .u64 0, .bool true]) ∧ Held b (.int .u64 (A)) w w' := by
  have hc3 : ∀ o1 o2 o3, (((w.alloc o1).alloc o2).alloc o3).cell? ⟨b, 0, none⟩ = some (.int .u64 x) := fun o1 o2 o3 => by rw [past3 w b hb]; exact hc
  have hz3 : ∀ o1 o2 o3, (((w.alloc o1).alloc o2).alloc o3).frozen? ⟨b, 0, none⟩ = false := fun o1 o2 o3 => by rw [fpast3 w b hb]; exact hz
  have n0 : ¬ b = w.heap.size := by omega
  have n1 : ¬ b = w.heap.size + 1 := by omega
  have n2 : ¬ b = w.heap.size + 1 + 1 := by omega
  have s0 : w.heap.size < w.heap.size + 1 + 1 + 1 := by omega
  have n3 : ¬ w.heap.size = w.heap.size + 1 + 1 := by omega
  have n4 : ¬ w.heap.size + 1 + 1 = w.heap.size := by omega
  have hm := mStore_uintptr
  go_enter Tryz.func106, Tryz.ntmps106
  go_wp2_with (first | (go_at_call 97; refine (astore_uintptr b x _ _ ?_ ?_).mono ?_; (simp [*]); (simp [*]); rintro e w' ⟨rfl, rfl⟩))
  refine bodyPost_ret (v := .agg #[.int .u64 0, .bool true]) (by simp [results, Tryz.results106, go_sem, *]) rfl ⟨rfl, ?_⟩
  exact Held.other (p := ⟨w.heap.size + 1 + 1, 1, none⟩) (Held.other (p := ⟨w.heap.size + 1 + 1, 0, none⟩) (Held.set ((((Held.refl hc hz).alloc hb _).alloc hb _).alloc hb _) _) hb (show w.heap.size ≤ w.heap.size + 1 + 1 by omega) _) hb (show w.heap.size ≤ w.heap.size + 1 + 1 by omega) _

set_option maxRecDepth 100000 in
set_option maxHeartbeats 1000000 in
theorem doHit_uintptr (b : Nat) (x A B : Int) (w : World) (hc : w.cell? ⟨b, 0, none⟩ = some (.int .u64 x)) (hz : w.frozen? ⟨b, 0, none⟩ = false) (hb : b < w.heap.size) (ho : Hid (x = A)) :
    Calls Tryz.prog 106 #[.agg #[.int .i64 6, .iface 92 (.pointer (some ⟨b, 0, none⟩))], .agg #[.int .i64 5, .int .u64 A, .int .u64 B]] w fun e w' => e = .returned (.agg #[.int .u64 0, .bool true]) ∧ Held b (.int .u64 (B)) w w' := by
  have hc3 : ∀ o1 o2 o3, (((w.alloc o1).alloc o2).alloc o3).cell? ⟨b, 0, none⟩ = some (.int .u64 x) := fun o1 o2 o3 => by rw [past3 w b hb]; exact hc
  have hz3 : ∀ o1 o2 o3, (((w.alloc o1).alloc o2).alloc o3).frozen? ⟨b, 0, none⟩ = false := fun o1 o2 o3 => by rw [fpast3 w b hb]; exact hz
  have n0 : ¬ b = w.heap.size := by omega
  have n1 : ¬ b = w.heap.size + 1 := by omega
  have n2 : ¬ b = w.heap.size + 1 + 1 := by omega
  have s0 : w.heap.size < w.heap.size + 1 + 1 + 1 := by omega
  have n3 : ¬ w.heap.size = w.heap.size + 1 + 1 := by omega
  have n4 : ¬ w.heap.size + 1 + 1 = w.heap.size := by omega
  have hm := mCompareAndSwap_uintptr
  go_enter Tryz.func106, Tryz.ntmps106
  go_wp2_with (first | (go_at_call 94; refine (ahit_uintptr b x _ _ _ ?_ ?_ ho.out).mono ?_; (simp [*]); (simp [*]); rintro e w' ⟨rfl, rfl⟩))
  refine bodyPost_ret (v := .agg #[.int .u64 0, .bool true]) (by simp [results, Tryz.results106, go_sem, *]) rfl ⟨rfl, ?_⟩
  exact Held.other (p := ⟨w.heap.size + 1 + 1, 1, none⟩) (Held.other (p := ⟨w.heap.size + 1 + 1, 0, none⟩) (Held.set ((((Held.refl hc hz).alloc hb _).alloc hb _).alloc hb _) _) hb (show w.heap.size ≤ w.heap.size + 1 + 1 by omega) _) hb (show w.heap.size ≤ w.heap.size + 1 + 1 by omega) _

set_option maxRecDepth 100000 in
set_option maxHeartbeats 1000000 in
theorem doMiss_uintptr (b : Nat) (x A B : Int) (w : World) (hc : w.cell? ⟨b, 0, none⟩ = some (.int .u64 x)) (hz : w.frozen? ⟨b, 0, none⟩ = false) (hb : b < w.heap.size) (ho : Hid (¬ x = A)) :
    Calls Tryz.prog 106 #[.agg #[.int .i64 6, .iface 92 (.pointer (some ⟨b, 0, none⟩))], .agg #[.int .i64 5, .int .u64 A, .int .u64 B]] w fun e w' => e = .returned (.agg #[.int .u64 0, .bool false]) ∧ Held b (.int .u64 x) w w' := by
  have hc3 : ∀ o1 o2 o3, (((w.alloc o1).alloc o2).alloc o3).cell? ⟨b, 0, none⟩ = some (.int .u64 x) := fun o1 o2 o3 => by rw [past3 w b hb]; exact hc
  have hz3 : ∀ o1 o2 o3, (((w.alloc o1).alloc o2).alloc o3).frozen? ⟨b, 0, none⟩ = false := fun o1 o2 o3 => by rw [fpast3 w b hb]; exact hz
  have n0 : ¬ b = w.heap.size := by omega
  have n1 : ¬ b = w.heap.size + 1 := by omega
  have n2 : ¬ b = w.heap.size + 1 + 1 := by omega
  have s0 : w.heap.size < w.heap.size + 1 + 1 + 1 := by omega
  have n3 : ¬ w.heap.size = w.heap.size + 1 + 1 := by omega
  have n4 : ¬ w.heap.size + 1 + 1 = w.heap.size := by omega
  have hm := mCompareAndSwap_uintptr
  go_enter Tryz.func106, Tryz.ntmps106
  go_wp2_with (first | (go_at_call 94; refine (amiss_uintptr b x _ _ _ ?_ ?_ ho.out).mono ?_; (simp [*]); (simp [*]); rintro e w' ⟨rfl, rfl⟩))
  refine bodyPost_ret (v := .agg #[.int .u64 0, .bool false]) (by simp [results, Tryz.results106, go_sem, *]) rfl ⟨rfl, ?_⟩
  exact (((Held.refl hc hz).alloc hb _).alloc hb _).alloc hb _

end Go.Proofs.YtffnoaafmaeihaaGreat
