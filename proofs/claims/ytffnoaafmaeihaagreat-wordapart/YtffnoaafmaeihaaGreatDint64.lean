/- What word's do over a word of the kind int64 does to the world: a contract for each access. -/
import Derived.Test.YtffnoaafmaeihaaGreatWint64
namespace Go.Proofs.YtffnoaafmaeihaaGreat
open Go.RowKit
attribute [local go_sem ↓] Go.wp_at_zero Go.wp_at_succ

set_option maxRecDepth 100000 in
set_option maxHeartbeats 1000000 in
theorem doLoad_int64 (b : Nat) (x A B z : Int) (w : World) (hc : w.cell? ⟨b, 0, none⟩ = some (.int .i64 x)) (hz : w.frozen? ⟨b, 0, none⟩ = false) (hb : b < w.heap.size) (hzz : Hid (IntKind.u64.wrap (x) = z)) :
    Calls Tryz.prog 58 #[.agg #[.int .i64 2, .iface 69 (.pointer (some ⟨b, 0, none⟩))], .agg #[.int .i64 1, .int .u64 A, .int .u64 B]] w fun e w' => e = .returned (.agg #[.int .u64 z, .bool true]) ∧ Held b (.int .i64 x) w w' := by
  have hc3 : ∀ o1 o2 o3, (((w.alloc o1).alloc o2).alloc o3).cell? ⟨b, 0, none⟩ = some (.int .i64 x) := fun o1 o2 o3 => by rw [past3 w b hb]; exact hc
  have hz3 : ∀ o1 o2 o3, (((w.alloc o1).alloc o2).alloc o3).frozen? ⟨b, 0, none⟩ = false := fun o1 o2 o3 => by rw [fpast3 w b hb]; exact hz
  have n0 : ¬ b = w.heap.size := by omega
  have n1 : ¬ b = w.heap.size + 1 := by omega
  have n2 : ¬ b = w.heap.size + 1 + 1 := by omega
  have s0 : w.heap.size < w.heap.size + 1 + 1 + 1 := by omega
  have n3 : ¬ w.heap.size = w.heap.size + 1 + 1 := by omega
  have n4 : ¬ w.heap.size + 1 + 1 = w.heap.size := by omega
  have hm := mLoad_int64
  go_enter Tryz.func58, Tryz.ntmps58
  go_wp2
  go_region_held3 (fun w' => (w'.cell? ⟨w.heap.size, 0, none⟩ = some (.int .i64 2) ∧ w'.cell? ⟨w.heap.size, 1, none⟩ = some (.iface 69 (.pointer (some ⟨b, 0, none⟩)))) ∧ w'.cell? ⟨w.heap.size + 1, 1, none⟩ = some (.int .u64 A)) (go_keep)
    (first | (go_at_call 47; refine (aload_int64 b x _ ?_).mono ?_; (simp [*]); rintro e w' ⟨rfl, rfl⟩) | (go_at_call 59; refine (got_int64 _ _ _ z hzz.out).mono ?_; rintro e w' ⟨rfl, hb1⟩; obtain ⟨hq1, hf1⟩ := bcell hb1))
  go_wp2
  refine bodyPost_ret (v := .agg #[.int .u64 z, .bool true]) (by simp [results, Tryz.results58, go_sem, hq1]) rfl ⟨rfl, ?_⟩
  exact Held.other (p := ⟨w.heap.size + 1 + 1, 1, none⟩) (Held.other (p := ⟨w.heap.size + 1 + 1, 0, none⟩) ((((((Held.refl hc hz).alloc hb _).alloc hb _).alloc hb _).drew).below hb hb1) hb (show w.heap.size ≤ w.heap.size + 1 + 1 by omega) _) hb (show w.heap.size ≤ w.heap.size + 1 + 1 by omega) _

set_option maxRecDepth 100000 in
set_option maxHeartbeats 1000000 in
theorem doAdd_int64 (b : Nat) (x A B s z : Int) (w : World) (hc : w.cell? ⟨b, 0, none⟩ = some (.int .i64 x)) (hz : w.frozen? ⟨b, 0, none⟩ = false) (hb : b < w.heap.size) (hs : Hid (IntKind.i64.wrap (x + IntKind.i64.wrap A) = s)) (hzz : Hid (IntKind.u64.wrap (s) = z)) :
    Calls Tryz.prog 58 #[.agg #[.int .i64 2, .iface 69 (.pointer (some ⟨b, 0, none⟩))], .agg #[.int .i64 3, .int .u64 A, .int .u64 B]] w fun e w' => e = .returned (.agg #[.int .u64 z, .bool true]) ∧ Held b (.int .i64 s) w w' := by
  have hc3 : ∀ o1 o2 o3, (((w.alloc o1).alloc o2).alloc o3).cell? ⟨b, 0, none⟩ = some (.int .i64 x) := fun o1 o2 o3 => by rw [past3 w b hb]; exact hc
  have hz3 : ∀ o1 o2 o3, (((w.alloc o1).alloc o2).alloc o3).frozen? ⟨b, 0, none⟩ = false := fun o1 o2 o3 => by rw [fpast3 w b hb]; exact hz
  have n0 : ¬ b = w.heap.size := by omega
  have n1 : ¬ b = w.heap.size + 1 := by omega
  have n2 : ¬ b = w.heap.size + 1 + 1 := by omega
  have s0 : w.heap.size < w.heap.size + 1 + 1 + 1 := by omega
  have n3 : ¬ w.heap.size = w.heap.size + 1 + 1 := by omega
  have n4 : ¬ w.heap.size + 1 + 1 = w.heap.size := by omega
  have hm := mAdd_int64
  go_enter Tryz.func58, Tryz.ntmps58
  go_wp2
  go_region_held3 (fun w' => (w'.cell? ⟨w.heap.size, 0, none⟩ = some (.int .i64 2) ∧ w'.cell? ⟨w.heap.size, 1, none⟩ = some (.iface 69 (.pointer (some ⟨b, 0, none⟩)))) ∧ w'.cell? ⟨w.heap.size + 1, 1, none⟩ = some (.int .u64 A)) (go_keep)
    (first | (go_at_call 44; refine (aadd_int64 b x _ _ ?_ ?_ s hs.out).mono ?_; (simp [*]); (simp [*]); rintro e w' ⟨rfl, rfl⟩) | (go_at_call 59; refine (got_int64 _ _ _ z hzz.out).mono ?_; rintro e w' ⟨rfl, hb1⟩; obtain ⟨hq1, hf1⟩ := bcell hb1))
  go_wp2
  refine bodyPost_ret (v := .agg #[.int .u64 z, .bool true]) (by simp [results, Tryz.results58, go_sem, hq1]) rfl ⟨rfl, ?_⟩
  exact Held.other (p := ⟨w.heap.size + 1 + 1, 1, none⟩) (Held.other (p := ⟨w.heap.size + 1 + 1, 0, none⟩) (((Held.set ((((Held.refl hc hz).alloc hb _).alloc hb _).alloc hb _) _).drew).below hb hb1) hb (show w.heap.size ≤ w.heap.size + 1 + 1 by omega) _) hb (show w.heap.size ≤ w.heap.size + 1 + 1 by omega) _

set_option maxRecDepth 100000 in
set_option maxHeartbeats 1000000 in
theorem doSwap_int64 (b : Nat) (x A B z : Int) (w : World) (hc : w.cell? ⟨b, 0, none⟩ = some (.int .i64 x)) (hz : w.frozen? ⟨b, 0, none⟩ = false) (hb : b < w.heap.size) (hzz : Hid (IntKind.u64.wrap (x) = z)) :
    Calls Tryz.prog 58 #[.agg #[.int .i64 2, .iface 69 (.pointer (some ⟨b, 0, none⟩))], .agg #[.int .i64 4, .int .u64 A, .int .u64 B]] w fun e w' => e = .returned (.agg #[.int .u64 z, .bool true]) ∧ Held b (.int .i64 (IntKind.i64.wrap A)) w w' := by
  have hc3 : ∀ o1 o2 o3, (((w.alloc o1).alloc o2).alloc o3).cell? ⟨b, 0, none⟩ = some (.int .i64 x) := fun o1 o2 o3 => by rw [past3 w b hb]; exact hc
  have hz3 : ∀ o1 o2 o3, (((w.alloc o1).alloc o2).alloc o3).frozen? ⟨b, 0, none⟩ = false := fun o1 o2 o3 => by rw [fpast3 w b hb]; exact hz
  have n0 : ¬ b = w.heap.size := by omega
  have n1 : ¬ b = w.heap.size + 1 := by omega
  have n2 : ¬ b = w.heap.size + 1 + 1 := by omega
  have s0 : w.heap.size < w.heap.size + 1 + 1 + 1 := by omega
  have n3 : ¬ w.heap.size = w.heap.size + 1 + 1 := by omega
  have n4 : ¬ w.heap.size + 1 + 1 = w.heap.size := by omega
  have hm := mSwap_int64
  go_enter Tryz.func58, Tryz.ntmps58
  go_wp2
  go_region_held3 (fun w' => (w'.cell? ⟨w.heap.size, 0, none⟩ = some (.int .i64 2) ∧ w'.cell? ⟨w.heap.size, 1, none⟩ = some (.iface 69 (.pointer (some ⟨b, 0, none⟩)))) ∧ w'.cell? ⟨w.heap.size + 1, 1, none⟩ = some (.int .u64 A)) (go_keep)
    (first | (go_at_call 50; refine (aswap_int64 b x _ _ ?_ ?_).mono ?_; (simp [*]); (simp [*]); rintro e w' ⟨rfl, rfl⟩) | (go_at_call 59; refine (got_int64 _ _ _ z hzz.out).mono ?_; rintro e w' ⟨rfl, hb1⟩; obtain ⟨hq1, hf1⟩ := bcell hb1))
  go_wp2
  refine bodyPost_ret (v := .agg #[.int .u64 z, .bool true]) (by simp [results, Tryz.results58, go_sem, hq1]) rfl ⟨rfl, ?_⟩
  exact Held.other (p := ⟨w.heap.size + 1 + 1, 1, none⟩) (Held.other (p := ⟨w.heap.size + 1 + 1, 0, none⟩) (((Held.set ((((Held.refl hc hz).alloc hb _).alloc hb _).alloc hb _) _).drew).below hb hb1) hb (show w.heap.size ≤ w.heap.size + 1 + 1 by omega) _) hb (show w.heap.size ≤ w.heap.size + 1 + 1 by omega) _

set_option maxRecDepth 100000 in
set_option maxHeartbeats 1000000 in
theorem doAnd_int64 (b : Nat) (x A B s z : Int) (w : World) (hc : w.cell? ⟨b, 0, none⟩ = some (.int .i64 x)) (hz : w.frozen? ⟨b, 0, none⟩ = false) (hb : b < w.heap.size) (hs : Hid (bits .and .i64 x (IntKind.i64.wrap A) = s)) (hzz : Hid (IntKind.u64.wrap (x) = z)) :
    Calls Tryz.prog 58 #[.agg #[.int .i64 2, .iface 69 (.pointer (some ⟨b, 0, none⟩))], .agg #[.int .i64 6, .int .u64 A, .int .u64 B]] w fun e w' => e = .returned (.agg #[.int .u64 z, .bool true]) ∧ Held b (.int .i64 s) w w' := by
  have hc3 : ∀ o1 o2 o3, (((w.alloc o1).alloc o2).alloc o3).cell? ⟨b, 0, none⟩ = some (.int .i64 x) := fun o1 o2 o3 => by rw [past3 w b hb]; exact hc
  have hz3 : ∀ o1 o2 o3, (((w.alloc o1).alloc o2).alloc o3).frozen? ⟨b, 0, none⟩ = false := fun o1 o2 o3 => by rw [fpast3 w b hb]; exact hz
  have n0 : ¬ b = w.heap.size := by omega
  have n1 : ¬ b = w.heap.size + 1 := by omega
  have n2 : ¬ b = w.heap.size + 1 + 1 := by omega
  have s0 : w.heap.size < w.heap.size + 1 + 1 + 1 := by omega
  have n3 : ¬ w.heap.size = w.heap.size + 1 + 1 := by omega
  have n4 : ¬ w.heap.size + 1 + 1 = w.heap.size := by omega
  have hm := mAnd_int64
  go_enter Tryz.func58, Tryz.ntmps58
  go_wp2
  go_region_held3 (fun w' => (w'.cell? ⟨w.heap.size, 0, none⟩ = some (.int .i64 2) ∧ w'.cell? ⟨w.heap.size, 1, none⟩ = some (.iface 69 (.pointer (some ⟨b, 0, none⟩)))) ∧ w'.cell? ⟨w.heap.size + 1, 1, none⟩ = some (.int .u64 A)) (go_keep)
    (first | (go_at_call 45; refine (aand_int64 b x _ _ ?_ ?_ s hs.out).mono ?_; (simp [*]); (simp [*]); rintro e w' ⟨rfl, rfl⟩) | (go_at_call 59; refine (got_int64 _ _ _ z hzz.out).mono ?_; rintro e w' ⟨rfl, hb1⟩; obtain ⟨hq1, hf1⟩ := bcell hb1))
  go_wp2
  refine bodyPost_ret (v := .agg #[.int .u64 z, .bool true]) (by simp [results, Tryz.results58, go_sem, hq1]) rfl ⟨rfl, ?_⟩
  exact Held.other (p := ⟨w.heap.size + 1 + 1, 1, none⟩) (Held.other (p := ⟨w.heap.size + 1 + 1, 0, none⟩) (((Held.set ((((Held.refl hc hz).alloc hb _).alloc hb _).alloc hb _) _).drew).below hb hb1) hb (show w.heap.size ≤ w.heap.size + 1 + 1 by omega) _) hb (show w.heap.size ≤ w.heap.size + 1 + 1 by omega) _

set_option maxRecDepth 100000 in
set_option maxHeartbeats 1000000 in
theorem doOr_int64 (b : Nat) (x A B s z : Int) (w : World) (hc : w.cell? ⟨b, 0, none⟩ = some (.int .i64 x)) (hz : w.frozen? ⟨b, 0, none⟩ = false) (hb : b < w.heap.size) (hs : Hid (bits .or .i64 x (IntKind.i64.wrap A) = s)) (hzz : Hid (IntKind.u64.wrap (x) = z)) :
    Calls Tryz.prog 58 #[.agg #[.int .i64 2, .iface 69 (.pointer (some ⟨b, 0, none⟩))], .agg #[.int .i64 7, .int .u64 A, .int .u64 B]] w fun e w' => e = .returned (.agg #[.int .u64 z, .bool true]) ∧ Held b (.int .i64 s) w w' := by
  have hc3 : ∀ o1 o2 o3, (((w.alloc o1).alloc o2).alloc o3).cell? ⟨b, 0, none⟩ = some (.int .i64 x) := fun o1 o2 o3 => by rw [past3 w b hb]; exact hc
  have hz3 : ∀ o1 o2 o3, (((w.alloc o1).alloc o2).alloc o3).frozen? ⟨b, 0, none⟩ = false := fun o1 o2 o3 => by rw [fpast3 w b hb]; exact hz
  have n0 : ¬ b = w.heap.size := by omega
  have n1 : ¬ b = w.heap.size + 1 := by omega
  have n2 : ¬ b = w.heap.size + 1 + 1 := by omega
  have s0 : w.heap.size < w.heap.size + 1 + 1 + 1 := by omega
  have n3 : ¬ w.heap.size = w.heap.size + 1 + 1 := by omega
  have n4 : ¬ w.heap.size + 1 + 1 = w.heap.size := by omega
  have hm := mOr_int64
  go_enter Tryz.func58, Tryz.ntmps58
  go_wp2
  go_region_held3 (fun w' => (w'.cell? ⟨w.heap.size, 0, none⟩ = some (.int .i64 2) ∧ w'.cell? ⟨w.heap.size, 1, none⟩ = some (.iface 69 (.pointer (some ⟨b, 0, none⟩)))) ∧ w'.cell? ⟨w.heap.size + 1, 1, none⟩ = some (.int .u64 A)) (go_keep)
    (first | (go_at_call 48; refine (aor_int64 b x _ _ ?_ ?_ s hs.out).mono ?_; (simp [*]); (simp [*]); rintro e w' ⟨rfl, rfl⟩) | (go_at_call 59; refine (got_int64 _ _ _ z hzz.out).mono ?_; rintro e w' ⟨rfl, hb1⟩; obtain ⟨hq1, hf1⟩ := bcell hb1))
  go_wp2
  refine bodyPost_ret (v := .agg #[.int .u64 z, .bool true]) (by simp [results, Tryz.results58, go_sem, hq1]) rfl ⟨rfl, ?_⟩
  exact Held.other (p := ⟨w.heap.size + 1 + 1, 1, none⟩) (Held.other (p := ⟨w.heap.size + 1 + 1, 0, none⟩) (((Held.set ((((Held.refl hc hz).alloc hb _).alloc hb _).alloc hb _) _).drew).below hb hb1) hb (show w.heap.size ≤ w.heap.size + 1 + 1 by omega) _) hb (show w.heap.size ≤ w.heap.size + 1 + 1 by omega) _

set_option maxRecDepth 100000 in
set_option maxHeartbeats 1000000 in
theorem doStore_int64 (b : Nat) (x A B : Int) (w : World) (hc : w.cell? ⟨b, 0, none⟩ = some (.int .i64 x)) (hz : w.frozen? ⟨b, 0, none⟩ = false) (hb : b < w.heap.size)  :
    Calls Tryz.prog 58 #[.agg #[.int .i64 2, .iface 69 (.pointer (some ⟨b, 0, none⟩))], .agg #[.int .i64 2, .int .u64 A, .int .u64 B]] w fun e w' => e = .returned (.agg #[.int .u64 0, .bool true]) ∧ Held b (.int .i64 (wrap64 A)) w w' := by
  have hc3 : ∀ o1 o2 o3, (((w.alloc o1).alloc o2).alloc o3).cell? ⟨b, 0, none⟩ = some (.int .i64 x) := fun o1 o2 o3 => by rw [past3 w b hb]; exact hc
  have hz3 : ∀ o1 o2 o3, (((w.alloc o1).alloc o2).alloc o3).frozen? ⟨b, 0, none⟩ = false := fun o1 o2 o3 => by rw [fpast3 w b hb]; exact hz
  have n0 : ¬ b = w.heap.size := by omega
  have n1 : ¬ b = w.heap.size + 1 := by omega
  have n2 : ¬ b = w.heap.size + 1 + 1 := by omega
  have s0 : w.heap.size < w.heap.size + 1 + 1 + 1 := by omega
  have n3 : ¬ w.heap.size = w.heap.size + 1 + 1 := by omega
  have n4 : ¬ w.heap.size + 1 + 1 = w.heap.size := by omega
  have hm := mStore_int64
  go_enter Tryz.func58, Tryz.ntmps58
  go_wp2_with (first | (go_at_call 49; refine (astore_int64 b x _ _ ?_ ?_).mono ?_; (simp [*]); (simp [*]); rintro e w' ⟨rfl, rfl⟩))
  refine bodyPost_ret (v := .agg #[.int .u64 0, .bool true]) (by simp [results, Tryz.results58, go_sem, *]) rfl ⟨rfl, ?_⟩
  exact Held.other (p := ⟨w.heap.size + 1 + 1, 1, none⟩) (Held.other (p := ⟨w.heap.size + 1 + 1, 0, none⟩) (Held.set ((((Held.refl hc hz).alloc hb _).alloc hb _).alloc hb _) _) hb (show w.heap.size ≤ w.heap.size + 1 + 1 by omega) _) hb (show w.heap.size ≤ w.heap.size + 1 + 1 by omega) _

set_option maxRecDepth 100000 in
set_option maxHeartbeats 1000000 in
theorem doHit_int64 (b : Nat) (x A B : Int) (w : World) (hc : w.cell? ⟨b, 0, none⟩ = some (.int .i64 x)) (hz : w.frozen? ⟨b, 0, none⟩ = false) (hb : b < w.heap.size) (ho : Hid (x = wrap64 A)) :
    Calls Tryz.prog 58 #[.agg #[.int .i64 2, .iface 69 (.pointer (some ⟨b, 0, none⟩))], .agg #[.int .i64 5, .int .u64 A, .int .u64 B]] w fun e w' => e = .returned (.agg #[.int .u64 0, .bool true]) ∧ Held b (.int .i64 (wrap64 B)) w w' := by
  have hc3 : ∀ o1 o2 o3, (((w.alloc o1).alloc o2).alloc o3).cell? ⟨b, 0, none⟩ = some (.int .i64 x) := fun o1 o2 o3 => by rw [past3 w b hb]; exact hc
  have hz3 : ∀ o1 o2 o3, (((w.alloc o1).alloc o2).alloc o3).frozen? ⟨b, 0, none⟩ = false := fun o1 o2 o3 => by rw [fpast3 w b hb]; exact hz
  have n0 : ¬ b = w.heap.size := by omega
  have n1 : ¬ b = w.heap.size + 1 := by omega
  have n2 : ¬ b = w.heap.size + 1 + 1 := by omega
  have s0 : w.heap.size < w.heap.size + 1 + 1 + 1 := by omega
  have n3 : ¬ w.heap.size = w.heap.size + 1 + 1 := by omega
  have n4 : ¬ w.heap.size + 1 + 1 = w.heap.size := by omega
  have hm := mCompareAndSwap_int64
  go_enter Tryz.func58, Tryz.ntmps58
  go_wp2_with (first | (go_at_call 46; refine (ahit_int64 b x _ _ _ ?_ ?_ ho.out).mono ?_; (simp [*]); (simp [*]); rintro e w' ⟨rfl, rfl⟩))
  refine bodyPost_ret (v := .agg #[.int .u64 0, .bool true]) (by simp [results, Tryz.results58, go_sem, *]) rfl ⟨rfl, ?_⟩
  exact Held.other (p := ⟨w.heap.size + 1 + 1, 1, none⟩) (Held.other (p := ⟨w.heap.size + 1 + 1, 0, none⟩) (Held.set ((((Held.refl hc hz).alloc hb _).alloc hb _).alloc hb _) _) hb (show w.heap.size ≤ w.heap.size + 1 + 1 by omega) _) hb (show w.heap.size ≤ w.heap.size + 1 + 1 by omega) _

set_option maxRecDepth 100000 in
set_option maxHeartbeats 1000000 in
theorem doMiss_int64 (b : Nat) (x A B : Int) (w : World) (hc : w.cell? ⟨b, 0, none⟩ = some (.int .i64 x)) (hz : w.frozen? ⟨b, 0, none⟩ = false) (hb : b < w.heap.size) (ho : Hid (¬ x = wrap64 A)) :
    Calls Tryz.prog 58 #[.agg #[.int .i64 2, .iface 69 (.pointer (some ⟨b, 0, none⟩))], .agg #[.int .i64 5, .int .u64 A, .int .u64 B]] w fun e w' => e = .returned (.agg #[.int .u64 0, .bool false]) ∧ Held b (.int .i64 x) w w' := by
  have hc3 : ∀ o1 o2 o3, (((w.alloc o1).alloc o2).alloc o3).cell? ⟨b, 0, none⟩ = some (.int .i64 x) := fun o1 o2 o3 => by rw [past3 w b hb]; exact hc
  have hz3 : ∀ o1 o2 o3, (((w.alloc o1).alloc o2).alloc o3).frozen? ⟨b, 0, none⟩ = false := fun o1 o2 o3 => by rw [fpast3 w b hb]; exact hz
  have n0 : ¬ b = w.heap.size := by omega
  have n1 : ¬ b = w.heap.size + 1 := by omega
  have n2 : ¬ b = w.heap.size + 1 + 1 := by omega
  have s0 : w.heap.size < w.heap.size + 1 + 1 + 1 := by omega
  have n3 : ¬ w.heap.size = w.heap.size + 1 + 1 := by omega
  have n4 : ¬ w.heap.size + 1 + 1 = w.heap.size := by omega
  have hm := mCompareAndSwap_int64
  go_enter Tryz.func58, Tryz.ntmps58
  go_wp2_with (first | (go_at_call 46; refine (amiss_int64 b x _ _ _ ?_ ?_ ho.out).mono ?_; (simp [*]); (simp [*]); rintro e w' ⟨rfl, rfl⟩))
  refine bodyPost_ret (v := .agg #[.int .u64 0, .bool false]) (by simp [results, Tryz.results58, go_sem, *]) rfl ⟨rfl, ?_⟩
  exact (((Held.refl hc hz).alloc hb _).alloc hb _).alloc hb _

end Go.Proofs.YtffnoaafmaeihaaGreat
