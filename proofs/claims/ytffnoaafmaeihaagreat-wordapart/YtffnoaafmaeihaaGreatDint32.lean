/- What word's do over a word of the kind int32 does to the world: a contract for each access. -/
import Derived.Test.YtffnoaafmaeihaaGreatWint32
namespace Go.Proofs.YtffnoaafmaeihaaGreat
open Go.RowKit
attribute [local go_sem ↓] Go.wp_at_zero Go.wp_at_succ

set_option maxRecDepth 100000 in
set_option maxHeartbeats 1000000 in
theorem doLoad_int32 (b : Nat) (x A B z : Int) (w : World) (hc : w.cell? ⟨b, 0, none⟩ = some (.int .i32 x)) (hz : w.frozen? ⟨b, 0, none⟩ = false) (hb : b < w.heap.size) (hzz : Hid (IntKind.u64.wrap (x) % 4294967296 = z)) :
    Calls Tryz.prog 40 #[.agg #[.int .i64 1, .iface 60 (.pointer (some ⟨b, 0, none⟩))], .agg #[.int .i64 1, .int .u64 A, .int .u64 B]] w fun e w' => e = .returned (.agg #[.int .u64 z, .bool true]) ∧ Held b (.int .i32 x) w w' := by
  have hc3 : ∀ o1 o2 o3, (((w.alloc o1).alloc o2).alloc o3).cell? ⟨b, 0, none⟩ = some (.int .i32 x) := fun o1 o2 o3 => by rw [past3 w b hb]; exact hc
  have hz3 : ∀ o1 o2 o3, (((w.alloc o1).alloc o2).alloc o3).frozen? ⟨b, 0, none⟩ = false := fun o1 o2 o3 => by rw [fpast3 w b hb]; exact hz
  have n0 : ¬ b = w.heap.size := by omega
  have n1 : ¬ b = w.heap.size + 1 := by omega
  have n2 : ¬ b = w.heap.size + 1 + 1 := by omega
  have s0 : w.heap.size < w.heap.size + 1 + 1 + 1 := by omega
  have n3 : ¬ w.heap.size = w.heap.size + 1 + 1 := by omega
  have n4 : ¬ w.heap.size + 1 + 1 = w.heap.size := by omega
  have hm := mLoad_int32
  go_enter Tryz.func40, Tryz.ntmps40
  go_wp2
  go_region_held3 (fun w' => (w'.cell? ⟨w.heap.size, 0, none⟩ = some (.int .i64 1) ∧ w'.cell? ⟨w.heap.size, 1, none⟩ = some (.iface 60 (.pointer (some ⟨b, 0, none⟩)))) ∧ w'.cell? ⟨w.heap.size + 1, 1, none⟩ = some (.int .u64 A)) (go_keep)
    (first | (go_at_call 39; refine (aload_int32 b x _ ?_).mono ?_; (simp [*]); rintro e w' ⟨rfl, rfl⟩) | (go_at_call 41; refine (got_int32 _ _ _ z hzz.out).mono ?_; rintro e w' ⟨rfl, hb1⟩; obtain ⟨hq1, hf1⟩ := bcell hb1))
  go_wp2
  refine bodyPost_ret (v := .agg #[.int .u64 z, .bool true]) (by simp [results, Tryz.results40, go_sem, hq1]) rfl ⟨rfl, ?_⟩
  exact Held.other (p := ⟨w.heap.size + 1 + 1, 1, none⟩) (Held.other (p := ⟨w.heap.size + 1 + 1, 0, none⟩) ((((((Held.refl hc hz).alloc hb _).alloc hb _).alloc hb _).drew).below hb hb1) hb (show w.heap.size ≤ w.heap.size + 1 + 1 by omega) _) hb (show w.heap.size ≤ w.heap.size + 1 + 1 by omega) _

set_option maxRecDepth 100000 in
set_option maxHeartbeats 1000000 in
theorem doAdd_int32 (b : Nat) (x A B s z : Int) (w : World) (hc : w.cell? ⟨b, 0, none⟩ = some (.int .i32 x)) (hz : w.frozen? ⟨b, 0, none⟩ = false) (hb : b < w.heap.size) (hs : Hid (IntKind.i32.wrap (x + IntKind.i32.wrap A) = s)) (hzz : Hid (IntKind.u64.wrap (s) % 4294967296 = z)) :
    Calls Tryz.prog 40 #[.agg #[.int .i64 1, .iface 60 (.pointer (some ⟨b, 0, none⟩))], .agg #[.int .i64 3, .int .u64 A, .int .u64 B]] w fun e w' => e = .returned (.agg #[.int .u64 z, .bool true]) ∧ Held b (.int .i32 s) w w' := by
  have hc3 : ∀ o1 o2 o3, (((w.alloc o1).alloc o2).alloc o3).cell? ⟨b, 0, none⟩ = some (.int .i32 x) := fun o1 o2 o3 => by rw [past3 w b hb]; exact hc
  have hz3 : ∀ o1 o2 o3, (((w.alloc o1).alloc o2).alloc o3).frozen? ⟨b, 0, none⟩ = false := fun o1 o2 o3 => by rw [fpast3 w b hb]; exact hz
  have n0 : ¬ b = w.heap.size := by omega
  have n1 : ¬ b = w.heap.size + 1 := by omega
  have n2 : ¬ b = w.heap.size + 1 + 1 := by omega
  have s0 : w.heap.size < w.heap.size + 1 + 1 + 1 := by omega
  have n3 : ¬ w.heap.size = w.heap.size + 1 + 1 := by omega
  have n4 : ¬ w.heap.size + 1 + 1 = w.heap.size := by omega
  have hm := mAdd_int32
  go_enter Tryz.func40, Tryz.ntmps40
  go_wp2
  go_region_held3 (fun w' => (w'.cell? ⟨w.heap.size, 0, none⟩ = some (.int .i64 1) ∧ w'.cell? ⟨w.heap.size, 1, none⟩ = some (.iface 60 (.pointer (some ⟨b, 0, none⟩)))) ∧ w'.cell? ⟨w.heap.size + 1, 1, none⟩ = some (.int .u64 A)) (go_keep)
    (first | (go_at_call 116; refine (aadd_int32 b x _ _ ?_ ?_ s hs.out).mono ?_; (simp [*]); (simp [*]); rintro e w' ⟨rfl, rfl⟩) | (go_at_call 41; refine (got_int32 _ _ _ z hzz.out).mono ?_; rintro e w' ⟨rfl, hb1⟩; obtain ⟨hq1, hf1⟩ := bcell hb1))
  go_wp2
  refine bodyPost_ret (v := .agg #[.int .u64 z, .bool true]) (by simp [results, Tryz.results40, go_sem, hq1]) rfl ⟨rfl, ?_⟩
  exact Held.other (p := ⟨w.heap.size + 1 + 1, 1, none⟩) (Held.other (p := ⟨w.heap.size + 1 + 1, 0, none⟩) (((Held.set ((((Held.refl hc hz).alloc hb _).alloc hb _).alloc hb _) _).drew).below hb hb1) hb (show w.heap.size ≤ w.heap.size + 1 + 1 by omega) _) hb (show w.heap.size ≤ w.heap.size + 1 + 1 by omega) _

set_option maxRecDepth 100000 in
set_option maxHeartbeats 1000000 in
theorem doSwap_int32 (b : Nat) (x A B z : Int) (w : World) (hc : w.cell? ⟨b, 0, none⟩ = some (.int .i32 x)) (hz : w.frozen? ⟨b, 0, none⟩ = false) (hb : b < w.heap.size) (hzz : Hid (IntKind.u64.wrap (x) % 4294967296 = z)) :
    Calls Tryz.prog 40 #[.agg #[.int .i64 1, .iface 60 (.pointer (some ⟨b, 0, none⟩))], .agg #[.int .i64 4, .int .u64 A, .int .u64 B]] w fun e w' => e = .returned (.agg #[.int .u64 z, .bool true]) ∧ Held b (.int .i32 (IntKind.i32.wrap A)) w w' := by
  have hc3 : ∀ o1 o2 o3, (((w.alloc o1).alloc o2).alloc o3).cell? ⟨b, 0, none⟩ = some (.int .i32 x) := fun o1 o2 o3 => by rw [past3 w b hb]; exact hc
  have hz3 : ∀ o1 o2 o3, (((w.alloc o1).alloc o2).alloc o3).frozen? ⟨b, 0, none⟩ = false := fun o1 o2 o3 => by rw [fpast3 w b hb]; exact hz
  have n0 : ¬ b = w.heap.size := by omega
  have n1 : ¬ b = w.heap.size + 1 := by omega
  have n2 : ¬ b = w.heap.size + 1 + 1 := by omega
  have s0 : w.heap.size < w.heap.size + 1 + 1 + 1 := by omega
  have n3 : ¬ w.heap.size = w.heap.size + 1 + 1 := by omega
  have n4 : ¬ w.heap.size + 1 + 1 = w.heap.size := by omega
  have hm := mSwap_int32
  go_enter Tryz.func40, Tryz.ntmps40
  go_wp2
  go_region_held3 (fun w' => (w'.cell? ⟨w.heap.size, 0, none⟩ = some (.int .i64 1) ∧ w'.cell? ⟨w.heap.size, 1, none⟩ = some (.iface 60 (.pointer (some ⟨b, 0, none⟩)))) ∧ w'.cell? ⟨w.heap.size + 1, 1, none⟩ = some (.int .u64 A)) (go_keep)
    (first | (go_at_call 121; refine (aswap_int32 b x _ _ ?_ ?_).mono ?_; (simp [*]); (simp [*]); rintro e w' ⟨rfl, rfl⟩) | (go_at_call 41; refine (got_int32 _ _ _ z hzz.out).mono ?_; rintro e w' ⟨rfl, hb1⟩; obtain ⟨hq1, hf1⟩ := bcell hb1))
  go_wp2
  refine bodyPost_ret (v := .agg #[.int .u64 z, .bool true]) (by simp [results, Tryz.results40, go_sem, hq1]) rfl ⟨rfl, ?_⟩
  exact Held.other (p := ⟨w.heap.size + 1 + 1, 1, none⟩) (Held.other (p := ⟨w.heap.size + 1 + 1, 0, none⟩) (((Held.set ((((Held.refl hc hz).alloc hb _).alloc hb _).alloc hb _) _).drew).below hb hb1) hb (show w.heap.size ≤ w.heap.size + 1 + 1 by omega) _) hb (show w.heap.size ≤ w.heap.size + 1 + 1 by omega) _

set_option maxRecDepth 100000 in
set_option maxHeartbeats 1000000 in
theorem doAnd_int32 (b : Nat) (x A B s z : Int) (w : World) (hc : w.cell? ⟨b, 0, none⟩ = some (.int .i32 x)) (hz : w.frozen? ⟨b, 0, none⟩ = false) (hb : b < w.heap.size) (hs : Hid (bits .and .i32 x (IntKind.i32.wrap A) = s)) (hzz : Hid (IntKind.u64.wrap (x) % 4294967296 = z)) :
    Calls Tryz.prog 40 #[.agg #[.int .i64 1, .iface 60 (.pointer (some ⟨b, 0, none⟩))], .agg #[.int .i64 6, .int .u64 A, .int .u64 B]] w fun e w' => e = .returned (.agg #[.int .u64 z, .bool true]) ∧ Held b (.int .i32 s) w w' := by
  have hc3 : ∀ o1 o2 o3, (((w.alloc o1).alloc o2).alloc o3).cell? ⟨b, 0, none⟩ = some (.int .i32 x) := fun o1 o2 o3 => by rw [past3 w b hb]; exact hc
  have hz3 : ∀ o1 o2 o3, (((w.alloc o1).alloc o2).alloc o3).frozen? ⟨b, 0, none⟩ = false := fun o1 o2 o3 => by rw [fpast3 w b hb]; exact hz
  have n0 : ¬ b = w.heap.size := by omega
  have n1 : ¬ b = w.heap.size + 1 := by omega
  have n2 : ¬ b = w.heap.size + 1 + 1 := by omega
  have s0 : w.heap.size < w.heap.size + 1 + 1 + 1 := by omega
  have n3 : ¬ w.heap.size = w.heap.size + 1 + 1 := by omega
  have n4 : ¬ w.heap.size + 1 + 1 = w.heap.size := by omega
  have hm := mAnd_int32
  go_enter Tryz.func40, Tryz.ntmps40
  go_wp2
  go_region_held3 (fun w' => (w'.cell? ⟨w.heap.size, 0, none⟩ = some (.int .i64 1) ∧ w'.cell? ⟨w.heap.size, 1, none⟩ = some (.iface 60 (.pointer (some ⟨b, 0, none⟩)))) ∧ w'.cell? ⟨w.heap.size + 1, 1, none⟩ = some (.int .u64 A)) (go_keep)
    (first | (go_at_call 117; refine (aand_int32 b x _ _ ?_ ?_ s hs.out).mono ?_; (simp [*]); (simp [*]); rintro e w' ⟨rfl, rfl⟩) | (go_at_call 41; refine (got_int32 _ _ _ z hzz.out).mono ?_; rintro e w' ⟨rfl, hb1⟩; obtain ⟨hq1, hf1⟩ := bcell hb1))
  go_wp2
  refine bodyPost_ret (v := .agg #[.int .u64 z, .bool true]) (by simp [results, Tryz.results40, go_sem, hq1]) rfl ⟨rfl, ?_⟩
  exact Held.other (p := ⟨w.heap.size + 1 + 1, 1, none⟩) (Held.other (p := ⟨w.heap.size + 1 + 1, 0, none⟩) (((Held.set ((((Held.refl hc hz).alloc hb _).alloc hb _).alloc hb _) _).drew).below hb hb1) hb (show w.heap.size ≤ w.heap.size + 1 + 1 by omega) _) hb (show w.heap.size ≤ w.heap.size + 1 + 1 by omega) _

set_option maxRecDepth 100000 in
set_option maxHeartbeats 1000000 in
theorem doOr_int32 (b : Nat) (x A B s z : Int) (w : World) (hc : w.cell? ⟨b, 0, none⟩ = some (.int .i32 x)) (hz : w.frozen? ⟨b, 0, none⟩ = false) (hb : b < w.heap.size) (hs : Hid (bits .or .i32 x (IntKind.i32.wrap A) = s)) (hzz : Hid (IntKind.u64.wrap (x) % 4294967296 = z)) :
    Calls Tryz.prog 40 #[.agg #[.int .i64 1, .iface 60 (.pointer (some ⟨b, 0, none⟩))], .agg #[.int .i64 7, .int .u64 A, .int .u64 B]] w fun e w' => e = .returned (.agg #[.int .u64 z, .bool true]) ∧ Held b (.int .i32 s) w w' := by
  have hc3 : ∀ o1 o2 o3, (((w.alloc o1).alloc o2).alloc o3).cell? ⟨b, 0, none⟩ = some (.int .i32 x) := fun o1 o2 o3 => by rw [past3 w b hb]; exact hc
  have hz3 : ∀ o1 o2 o3, (((w.alloc o1).alloc o2).alloc o3).frozen? ⟨b, 0, none⟩ = false := fun o1 o2 o3 => by rw [fpast3 w b hb]; exact hz
  have n0 : ¬ b = w.heap.size := by omega
  have n1 : ¬ b = w.heap.size + 1 := by omega
  have n2 : ¬ b = w.heap.size + 1 + 1 := by omega
  have s0 : w.heap.size < w.heap.size + 1 + 1 + 1 := by omega
  have n3 : ¬ w.heap.size = w.heap.size + 1 + 1 := by omega
  have n4 : ¬ w.heap.size + 1 + 1 = w.heap.size := by omega
  have hm := mOr_int32
  go_enter Tryz.func40, Tryz.ntmps40
  go_wp2
  go_region_held3 (fun w' => (w'.cell? ⟨w.heap.size, 0, none⟩ = some (.int .i64 1) ∧ w'.cell? ⟨w.heap.size, 1, none⟩ = some (.iface 60 (.pointer (some ⟨b, 0, none⟩)))) ∧ w'.cell? ⟨w.heap.size + 1, 1, none⟩ = some (.int .u64 A)) (go_keep)
    (first | (go_at_call 119; refine (aor_int32 b x _ _ ?_ ?_ s hs.out).mono ?_; (simp [*]); (simp [*]); rintro e w' ⟨rfl, rfl⟩) | (go_at_call 41; refine (got_int32 _ _ _ z hzz.out).mono ?_; rintro e w' ⟨rfl, hb1⟩; obtain ⟨hq1, hf1⟩ := bcell hb1))
  go_wp2
  refine bodyPost_ret (v := .agg #[.int .u64 z, .bool true]) (by simp [results, Tryz.results40, go_sem, hq1]) rfl ⟨rfl, ?_⟩
  exact Held.other (p := ⟨w.heap.size + 1 + 1, 1, none⟩) (Held.other (p := ⟨w.heap.size + 1 + 1, 0, none⟩) (((Held.set ((((Held.refl hc hz).alloc hb _).alloc hb _).alloc hb _) _).drew).below hb hb1) hb (show w.heap.size ≤ w.heap.size + 1 + 1 by omega) _) hb (show w.heap.size ≤ w.heap.size + 1 + 1 by omega) _

set_option maxRecDepth 100000 in
set_option maxHeartbeats 1000000 in
theorem doStore_int32 (b : Nat) (x A B : Int) (w : World) (hc : w.cell? ⟨b, 0, none⟩ = some (.int .i32 x)) (hz : w.frozen? ⟨b, 0, none⟩ = false) (hb : b < w.heap.size)  :
    Calls Tryz.prog 40 #[.agg #[.int .i64 1, .iface 60 (.pointer (some ⟨b, 0, none⟩))], .agg #[.int .i64 2, .int .u64 A, .int .u64 B]] w fun e w' => e = .returned (.agg #[.int .u64 0, .bool true]) ∧ Held b (.int .i32 (wrap32 A)) w w' := by
  have hc3 : ∀ o1 o2 o3, (((w.alloc o1).alloc o2).alloc o3).cell? ⟨b, 0, none⟩ = some (.int .i32 x) := fun o1 o2 o3 => by rw [past3 w b hb]; exact hc
  have hz3 : ∀ o1 o2 o3, (((w.alloc o1).alloc o2).alloc o3).frozen? ⟨b, 0, none⟩ = false := fun o1 o2 o3 => by rw [fpast3 w b hb]; exact hz
  have n0 : ¬ b = w.heap.size := by omega
  have n1 : ¬ b = w.heap.size + 1 := by omega
  have n2 : ¬ b = w.heap.size + 1 + 1 := by omega
  have s0 : w.heap.size < w.heap.size + 1 + 1 + 1 := by omega
  have n3 : ¬ w.heap.size = w.heap.size + 1 + 1 := by omega
  have n4 : ¬ w.heap.size + 1 + 1 = w.heap.size := by omega
  have hm := mStore_int32
  go_enter Tryz.func40, Tryz.ntmps40
  go_wp2_with (first | (go_at_call 120; refine (astore_int32 b x _ _ ?_ ?_).mono ?_; (simp [*]); (simp [*]); rintro e w' ⟨rfl, rfl⟩))
  refine bodyPost_ret (v := .agg #[.int .u64 0, .bool true]) (by simp [results, Tryz.results40, go_sem, *]) rfl ⟨rfl, ?_⟩
  exact Held.other (p := ⟨w.heap.size + 1 + 1, 1, none⟩) (Held.other (p := ⟨w.heap.size + 1 + 1, 0, none⟩) (Held.set ((((Held.refl hc hz).alloc hb _).alloc hb _).alloc hb _) _) hb (show w.heap.size ≤ w.heap.size + 1 + 1 by omega) _) hb (show w.heap.size ≤ w.heap.size + 1 + 1 by omega) _

set_option maxRecDepth 100000 in
set_option maxHeartbeats 1000000 in
theorem doHit_int32 (b : Nat) (x A B : Int) (w : World) (hc : w.cell? ⟨b, 0, none⟩ = some (.int .i32 x)) (hz : w.frozen? ⟨b, 0, none⟩ = false) (hb : b < w.heap.size) (ho : Hid (x = wrap32 A)) :
    Calls Tryz.prog 40 #[.agg #[.int .i64 1, .iface 60 (.pointer (some ⟨b, 0, none⟩))], .agg #[.int .i64 5, .int .u64 A, .int .u64 B]] w fun e w' => e = .returned (.agg #[.int .u64 0, .bool true]) ∧ Held b (.int .i32 (wrap32 B)) w w' := by
  have hc3 : ∀ o1 o2 o3, (((w.alloc o1).alloc o2).alloc o3).cell? ⟨b, 0, none⟩ = some (.int .i32 x) := fun o1 o2 o3 => by rw [past3 w b hb]; exact hc
  have hz3 : ∀ o1 o2 o3, (((w.alloc o1).alloc o2).alloc o3).frozen? ⟨b, 0, none⟩ = false := fun o1 o2 o3 => by rw [fpast3 w b hb]; exact hz
  have n0 : ¬ b = w.heap.size := by omega
  have n1 : ¬ b = w.heap.size + 1 := by omega
  have n2 : ¬ b = w.heap.size + 1 + 1 := by omega
  have s0 : w.heap.size < w.heap.size + 1 + 1 + 1 := by omega
  have n3 : ¬ w.heap.size = w.heap.size + 1 + 1 := by omega
  have n4 : ¬ w.heap.size + 1 + 1 = w.heap.size := by omega
  have hm := mCompareAndSwap_int32
  go_enter Tryz.func40, Tryz.ntmps40
  go_wp2_with (first | (go_at_call 118; refine (ahit_int32 b x _ _ _ ?_ ?_ ho.out).mono ?_; (simp [*]); (simp [*]); rintro e w' ⟨rfl, rfl⟩))
  refine bodyPost_ret (v := .agg #[.int .u64 0, .bool true]) (by simp [results, Tryz.results40, go_sem, *]) rfl ⟨rfl, ?_⟩
  exact Held.other (p := ⟨w.heap.size + 1 + 1, 1, none⟩) (Held.other (p := ⟨w.heap.size + 1 + 1, 0, none⟩) (Held.set ((((Held.refl hc hz).alloc hb _).alloc hb _).alloc hb _) _) hb (show w.heap.size ≤ w.heap.size + 1 + 1 by omega) _) hb (show w.heap.size ≤ w.heap.size + 1 + 1 by omega) _

set_option maxRecDepth 100000 in
set_option maxHeartbeats 1000000 in
theorem doMiss_int32 (b : Nat) (x A B : Int) (w : World) (hc : w.cell? ⟨b, 0, none⟩ = some (.int .i32 x)) (hz : w.frozen? ⟨b, 0, none⟩ = false) (hb : b < w.heap.size) (ho : Hid (¬ x = wrap32 A)) :
    Calls Tryz.prog 40 #[.agg #[.int .i64 1, .iface 60 (.pointer (some ⟨b, 0, none⟩))], .agg #[.int .i64 5, .int .u64 A, .int .u64 B]] w fun e w' => e = .returned (.agg #[.int .u64 0, .bool false]) ∧ Held b (.int .i32 x) w w' := by
  have hc3 : ∀ o1 o2 o3, (((w.alloc o1).alloc o2).alloc o3).cell? ⟨b, 0, none⟩ = some (.int .i32 x) := fun o1 o2 o3 => by rw [past3 w b hb]; exact hc
  have hz3 : ∀ o1 o2 o3, (((w.alloc o1).alloc o2).alloc o3).frozen? ⟨b, 0, none⟩ = false := fun o1 o2 o3 => by rw [fpast3 w b hb]; exact hz
  have n0 : ¬ b = w.heap.size := by omega
  have n1 : ¬ b = w.heap.size + 1 := by omega
  have n2 : ¬ b = w.heap.size + 1 + 1 := by omega
  have s0 : w.heap.size < w.heap.size + 1 + 1 + 1 := by omega
  have n3 : ¬ w.heap.size = w.heap.size + 1 + 1 := by omega
  have n4 : ¬ w.heap.size + 1 + 1 = w.heap.size := by omega
  have hm := mCompareAndSwap_int32
  go_enter Tryz.func40, Tryz.ntmps40
  go_wp2_with (first | (go_at_call 118; refine (amiss_int32 b x _ _ _ ?_ ?_ ho.out).mono ?_; (simp [*]); (simp [*]); rintro e w' ⟨rfl, rfl⟩))
  refine bodyPost_ret (v := .agg #[.int .u64 0, .bool false]) (by simp [results, Tryz.results40, go_sem, *]) rfl ⟨rfl, ?_⟩
  exact (((Held.refl hc hz).alloc hb _).alloc hb _).alloc hb _

end Go.Proofs.YtffnoaafmaeihaaGreat
