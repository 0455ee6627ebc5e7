/- What word's do over a word of the kind uint32 does to the world: a contract for each access. -/
import Derived.Test.YtffnoaafmaeihaaGreatWuint32
namespace Go.Proofs.YtffnoaafmaeihaaGreat
open Go.RowKit
attribute [local go_sem ↓] Go.wp_at_zero Go.wp_at_succ

set_option maxRecDepth 100000 in
set_option maxHeartbeats 1000000 in
theorem doLoad_uint32 (b : Nat) (x A B z : Int) (w : World) (hc : w.cell? ⟨b, 0, none⟩ = some (.int .u32 x)) (hz : w.frozen? ⟨b, 0, none⟩ = false) (hb : b < w.heap.size) (hzz : Hid (IntKind.u64.wrap (x) % 4294967296 = z)) :
    Calls Tryz.prog 74 #[.agg #[.int .i64 3, .iface 77 (.pointer (some ⟨b, 0, none⟩))], .agg #[.int .i64 1, .int .u64 A, .int .u64 B]] w fun e w' => e = .returned (.agg #[.int .u64 z, .bool true]) ∧ Held b (.int .u32 x) w w' := by
  have hc3 : ∀ o1 o2 o3, (((w.alloc o1).alloc o2).alloc o3).cell? ⟨b, 0, none⟩ = some (.int .u32 x) := fun o1 o2 o3 => by rw [past3 w b hb]; exact hc
  have hz3 : ∀ o1 o2 o3, (((w.alloc o1).alloc o2).alloc o3).frozen? ⟨b, 0, none⟩ = false := fun o1 o2 o3 => by rw [fpast3 w b hb]; exact hz
  have n0 : ¬ b = w.heap.size := by omega
  have n1 : ¬ b = w.heap.size + 1 := by omega
  have n2 : ¬ b = w.heap.size + 1 + 1 := by omega
  have s0 : w.heap.size < w.heap.size + 1 + 1 + 1 := by omega
  have n3 : ¬ w.heap.size = w.heap.size + 1 + 1 := by omega
  have n4 : ¬ w.heap.size + 1 + 1 = w.heap.size := by omega
  have hm := mLoad_uint32
  go_enter Tryz.func74, Tryz.ntmps74
  go_wp2
  go_region_held3 (fun w' => (w'.cell? ⟨w.heap.size, 0, none⟩ = some (.int .i64 3) ∧ w'.cell? ⟨w.heap.size, 1, none⟩ = some (.iface 77 (.pointer (some ⟨b, 0, none⟩)))) ∧ w'.cell? ⟨w.heap.size + 1, 1, none⟩ = some (.int .u64 A)) (go_keep)
    (first | (go_at_call 63; refine (aload_uint32 b x _ ?_).mono ?_; (simp [*]); rintro e w' ⟨rfl, rfl⟩) | (go_at_call 75; refine (got_uint32 _ _ _ z hzz.out).mono ?_; rintro e w' ⟨rfl, hb1⟩; obtain ⟨hq1, hf1⟩ := bcell hb1))
  go_wp2
  refine bodyPost_ret (v := .agg #[.int .u64 z, .bool true]) (by simp [results, Tryz.results74, go_sem, hq1]) rfl ⟨rfl, ?_⟩
  exact Held.other (p := ⟨w.heap.size + 1 + 1, 1, none⟩) (Held.other (p := ⟨w.heap.size + 1 + 1, 0, none⟩) ((((((Held.refl hc hz).alloc hb _).alloc hb _).alloc hb _).drew).below hb hb1) hb (show w.heap.size ≤ w.heap.size + 1 + 1 by omega) _) hb (show w.heap.size ≤ w.heap.size + 1 + 1 by omega) _

set_option maxRecDepth 100000 in
set_option maxHeartbeats 1000000 in
theorem doAdd_uint32 (b : Nat) (x A B s z : Int) (w : World) (hc : w.cell? ⟨b, 0, none⟩ = some (.int .u32 x)) (hz : w.frozen? ⟨b, 0, none⟩ = false) (hb : b < w.heap.size) (hs : Hid (IntKind.u32.wrap (x + A % 4294967296) = s)) (hzz : Hid (IntKind.u64.wrap (s) % 4294967296 = z)) :
    Calls Tryz.prog 74 #[.agg #[.int .i64 3, .iface 77 (.pointer (some ⟨b, 0, none⟩))], .agg #[.int .i64 3, .int .u64 A, .int .u64 B]] w fun e w' => e = .returned (.agg #[.int .u64 z, .bool true]) ∧ Held b (.int .u32 s) w w' := by
  have hc3 : ∀ o1 o2 o3, (((w.alloc o1).alloc o2).alloc o3).cell? ⟨b, 0, none⟩ = some (.int .u32 x) := fun o1 o2 o3 => by rw [past3 w b hb]; exact hc
  have hz3 : ∀ o1 o2 o3, (((w.alloc o1).alloc o2).alloc o3).frozen? ⟨b, 0, none⟩ = false := fun o1 o2 o3 => by rw [fpast3 w b hb]; exact hz
  have n0 : ¬ b = w.heap.size := by omega
  have n1 : ¬ b = w.heap.size + 1 := by omega
  have n2 : ¬ b = w.heap.size + 1 + 1 := by omega
  have s0 : w.heap.size < w.heap.size + 1 + 1 + 1 := by omega
  have n3 : ¬ w.heap.size = w.heap.size + 1 + 1 := by omega
  have n4 : ¬ w.heap.size + 1 + 1 = w.heap.size := by omega
  have hm := mAdd_uint32
  go_enter Tryz.func74, Tryz.ntmps74
  go_wp2
  go_region_held3 (fun w' => (w'.cell? ⟨w.heap.size, 0, none⟩ = some (.int .i64 3) ∧ w'.cell? ⟨w.heap.size, 1, none⟩ = some (.iface 77 (.pointer (some ⟨b, 0, none⟩)))) ∧ w'.cell? ⟨w.heap.size + 1, 1, none⟩ = some (.int .u64 A)) (go_keep)
    (first | (go_at_call 60; refine (aadd_uint32 b x _ _ ?_ ?_ s hs.out).mono ?_; (simp [*]); (simp [*]); rintro e w' ⟨rfl, rfl⟩) | (go_at_call 75; refine (got_uint32 _ _ _ z hzz.out).mono ?_; rintro e w' ⟨rfl, hb1⟩; obtain ⟨hq1, hf1⟩ := bcell hb1))
  go_wp2
  refine bodyPost_ret (v := .agg #[.int .u64 z, .bool true]) (by simp [results, Tryz.results74, go_sem, hq1]) rfl ⟨rfl, ?_⟩
  exact Held.other (p := ⟨w.heap.size + 1 + 1, 1, none⟩) (Held.other (p := ⟨w.heap.size + 1 + 1, 0, none⟩) (((Held.set ((((Held.refl hc hz).alloc hb _).alloc hb _).alloc hb _) _).drew).below hb hb1) hb (show w.heap.size ≤ w.heap.size + 1 + 1 by omega) _) hb (show w.heap.size ≤ w.heap.size + 1 + 1 by omega) _

set_option maxRecDepth 100000 in
set_option maxHeartbeats 1000000 in
theorem doSwap_uint32 (b : Nat) (x A B z : Int) (w : World) (hc : w.cell? ⟨b, 0, none⟩ = some (.int .u32 x)) (hz : w.frozen? ⟨b, 0, none⟩ = false) (hb : b < w.heap.size) (hzz : Hid (IntKind.u64.wrap (x) % 4294967296 = z)) :
    Calls Tryz.prog 74 #[.agg #[.int .i64 3, .iface 77 (.pointer (some ⟨b, 0, none⟩))], .agg #[.int .i64 4, .int .u64 A, .int .u64 B]] w fun e w' => e = .returned (.agg #[.int .u64 z, .bool true]) ∧ Held b (.int .u32 (A % 4294967296)) w w' := by
  have hc3 : ∀ o1 o2 o3, (((w.alloc o1).alloc o2).alloc o3).cell? ⟨b, 0, none⟩ = some (.int .u32 x) := fun o1 o2 o3 => by rw [past3 w b hb]; exact hc
  have hz3 : ∀ o1 o2 o3, (((w.alloc o1).alloc o2).alloc o3).frozen? ⟨b, 0, none⟩ = false := fun o1 o2 o3 => by rw [fpast3 w b hb]; exact hz
  have n0 : ¬ b = w.heap.size := by omega
  have n1 : ¬ b = w.heap.size + 1 := by omega
  have n2 : ¬ b = w.heap.size + 1 + 1 := by omega
  have s0 : w.heap.size < w.heap.size + 1 + 1 + 1 := by omega
  have n3 : ¬ w.heap.size = w.heap.size + 1 + 1 := by omega
  have n4 : ¬ w.heap.size + 1 + 1 = w.heap.size := by omega
  have hm := mSwap_uint32
  go_enter Tryz.func74, Tryz.ntmps74
  go_wp2
  go_region_held3 (fun w' => (w'.cell? ⟨w.heap.size, 0, none⟩ = some (.int .i64 3) ∧ w'.cell? ⟨w.heap.size, 1, none⟩ = some (.iface 77 (.pointer (some ⟨b, 0, none⟩)))) ∧ w'.cell? ⟨w.heap.size + 1, 1, none⟩ = some (.int .u64 A)) (go_keep)
    (first | (go_at_call 66; refine (aswap_uint32 b x _ _ ?_ ?_).mono ?_; (simp [*]); (simp [*]); rintro e w' ⟨rfl, rfl⟩) | (go_at_call 75; refine (got_uint32 _ _ _ z hzz.out).mono ?_; rintro e w' ⟨rfl, hb1⟩; obtain ⟨hq1, hf1⟩ := bcell hb1))
  go_wp2
  refine bodyPost_ret (v := .agg #[.int .u64 z, .bool true]) (by simp [results, Tryz.results74, go_sem, hq1]) rfl ⟨rfl, ?_⟩
  exact Held.other (p := ⟨w.heap.size + 1 + 1, 1, none⟩) (Held.other (p := ⟨w.heap.size + 1 + 1, 0, none⟩) (((Held.set ((((Held.refl hc hz).alloc hb _).alloc hb _).alloc hb _) _).drew).below hb hb1) hb (show w.heap.size ≤ w.heap.size + 1 + 1 by omega) _) hb (show w.heap.size ≤ w.heap.size + 1 + 1 by omega) _

set_option maxRecDepth 100000 in
set_option maxHeartbeats 1000000 in
theorem doAnd_uint32 (b : Nat) (x A B s z : Int) (w : World) (hc : w.cell? ⟨b, 0, none⟩ = some (.int .u32 x)) (hz : w.frozen? ⟨b, 0, none⟩ = false) (hb : b < w.heap.size) (hs : Hid (bits .and .u32 x (A % 4294967296) = s)) (hzz : Hid (IntKind.u64.wrap (x) % 4294967296 = z)) :
    Calls Tryz.prog 74 #[.agg #[.int .i64 3, .iface 77 (.pointer (some ⟨b, 0, none⟩))], .agg #[.int .i64 6, .int .u64 A, .int .u64 B]] w fun e w' => e = .returned (.agg #[.int .u64 z, .bool true]) ∧ Held b (.int .u32 s) w w' := by
  have hc3 : ∀ o1 o2 o3, (((w.alloc o1).alloc o2).alloc o3).cell? ⟨b, 0, none⟩ = some (.int .u32 x) := fun o1 o2 o3 => by rw [past3 w b hb]; exact hc
  have hz3 : ∀ o1 o2 o3, (((w.alloc o1).alloc o2).alloc o3).frozen? ⟨b, 0, none⟩ = false := fun o1 o2 o3 => by rw [fpast3 w b hb]; exact hz
  have n0 : ¬ b = w.heap.size := by omega
  have n1 : ¬ b = w.heap.size + 1 := by omega
  have n2 : ¬ b = w.heap.size + 1 + 1 := by omega
  have s0 : w.heap.size < w.heap.size + 1 + 1 + 1 := by omega
  have n3 : ¬ w.heap.size = w.heap.size + 1 + 1 := by omega
  have n4 : ¬ w.heap.size + 1 + 1 = w.heap.size := by omega
  have hm := mAnd_uint32
  go_enter Tryz.func74, Tryz.ntmps74
  go_wp2
  go_region_held3 (fun w' => (w'.cell? ⟨w.heap.size, 0, none⟩ = some (.int .i64 3) ∧ w'.cell? ⟨w.heap.size, 1, none⟩ = some (.iface 77 (.pointer (some ⟨b, 0, none⟩)))) ∧ w'.cell? ⟨w.heap.size + 1, 1, none⟩ = some (.int .u64 A)) (go_keep)
    (first | (go_at_call 61; refine (aand_uint32 b x _ _ ?_ ?_ s hs.out).mono ?_; (simp [*]); (simp [*]); rintro e w' ⟨rfl, rfl⟩) | (go_at_call 75; refine (got_uint32 _ _ _ z hzz.out).mono ?_; rintro e w' ⟨rfl, hb1⟩; obtain ⟨hq1, hf1⟩ := bcell hb1))
  go_wp2
  refine bodyPost_ret (v := .agg #[.int .u64 z, .bool true]) (by simp [results, Tryz.results74, go_sem, hq1]) rfl ⟨rfl, ?_⟩
  exact Held.other (p := ⟨w.heap.size + 1 + 1, 1, none⟩) (Held.other (p := ⟨w.heap.size + 1 + 1, 0, none⟩) (((Held.set ((((Held.refl hc hz).alloc hb _).alloc hb _).alloc hb _) _).drew).below hb hb1) hb (show w.heap.size ≤ w.heap.size + 1 + 1 by omega) _) hb (show w.heap.size ≤ w.heap.size + 1 + 1 by omega) _

set_option maxRecDepth 100000 in
set_option maxHeartbeats 1000000 in
theorem doOr_uint32 (b : Nat) (x A B s z : Int) (w : World) (hc : w.cell? ⟨b, 0, none⟩ = some (.int .u32 x)) (hz : w.frozen? ⟨b, 0, none⟩ = false) (hb : b < w.heap.size) (hs : Hid (bits .or .u32 x (A % 4294967296) = s)) (hzz : Hid (IntKind.u64.wrap (x) % 4294967296 = z)) :
    Calls Tryz.prog 74 #[.agg #[.int .i64 3, .iface 77 (.pointer (some ⟨b, 0, none⟩))], .agg #[.int .i64 7, .int .u64 A, .int .u64 B]] w fun e w' => e = .returned (.agg #[.int .u64 z, .bool true]) ∧ Held b (.int .u32 s) w w' := by
  have hc3 : ∀ o1 o2 o3, (((w.alloc o1).alloc o2).alloc o3).cell? ⟨b, 0, none⟩ = some (.int .u32 x) := fun o1 o2 o3 => by rw [past3 w b hb]; exact hc
  have hz3 : ∀ o1 o2 o3, (((w.alloc o1).alloc o2).alloc o3).frozen? ⟨b, 0, none⟩ = false := fun o1 o2 o3 => by rw [fpast3 w b hb]; exact hz
  have n0 : ¬ b = w.heap.size := by omega
  have n1 : ¬ b = w.heap.size + 1 := by omega
  have n2 : ¬ b = w.heap.size + 1 + 1 := by omega
  have s0 : w.heap.size < w.heap.size + 1 + 1 + 1 := by omega
  have n3 : ¬ w.heap.size = w.heap.size + 1 + 1 := by omega
  have n4 : ¬ w.heap.size + 1 + 1 = w.heap.size := by omega
  have hm := mOr_uint32
  go_enter Tryz.func74, Tryz.ntmps74
  go_wp2
  go_region_held3 (fun w' => (w'.cell? ⟨w.heap.size, 0, none⟩ = some (.int .i64 3) ∧ w'.cell? ⟨w.heap.size, 1, none⟩ = some (.iface 77 (.pointer (some ⟨b, 0, none⟩)))) ∧ w'.cell? ⟨w.heap.size + 1, 1, none⟩ = some (.int .u64 A)) (go_keep)
    (first | (go_at_call 64; refine (aor_uint32 b x _ _ ?_ ?_ s hs.out).mono ?_; (simp [*]); (simp [*]); rintro e w' ⟨rfl, rfl⟩) | (go_at_call 75; refine (got_uint32 _ _ _ z hzz.out).mono ?_; rintro e w' ⟨rfl, hb1⟩; obtain ⟨hq1, hf1⟩ := bcell hb1))
  go_wp2
  refine bodyPost_ret (v := .agg #[.int .u64 z, .bool true]) (by simp [results, Tryz.results74, go_sem, hq1]) rfl ⟨rfl, ?_⟩
  exact Held.other (p := ⟨w.heap.size + 1 + 1, 1, none⟩) (Held.other (p := ⟨w.heap.size + 1 + 1, 0, none⟩) (((Held.set ((((Held.refl hc hz).alloc hb _).alloc hb _).alloc hb _) _).drew).below hb hb1) hb (show w.heap.size ≤ w.heap.size + 1 + 1 by omega) _) hb (show w.heap.size ≤ w.heap.size + 1 + 1 by omega) _

set_option maxRecDepth 100000 in
set_option maxHeartbeats 1000000 in
theorem doStore_uint32 (b : Nat) (x A B : Int) (w : World) (hc : w.cell? ⟨b, 0, none⟩ = some (.int .u32 x)) (hz : w.frozen? ⟨b, 0, none⟩ = false) (hb : b < w.heap.size)  :
    Calls Tryz.prog 74 #[.agg #[.int .i64 3, .iface 77 (.pointer (some ⟨b, 0, none⟩))], .agg #[.int .i64 2, .int .u64 A, .int .u64 B]] w fun e w' => e = .returned (.agg #[.int .u64 0, .bool true]) ∧ Held b (.int .u32 (A % 4294967296)) w w' := by
  have hc3 : ∀ o1 o2 o3, (((w.alloc o1).alloc o2).alloc o3).cell? ⟨b, 0, none⟩ = some (.int .u32 x) := fun o1 o2 o3 => by rw [past3 w b hb]; exact hc
  have hz3 : ∀ o1 o2 o3, (((w.alloc o1).alloc o2).alloc o3).frozen? ⟨b, 0, none⟩ = false := fun o1 o2 o3 => by rw [fpast3 w b hb]; exact hz
  have n0 : ¬ b = w.heap.size := by omega
  have n1 : ¬ b = w.heap.size + 1 := by omega
  have n2 : ¬ b = w.heap.size + 1 + 1 := by omega
  have s0 : w.heap.size < w.heap.size + 1 + 1 + 1 := by omega
  have n3 : ¬ w.heap.size = w.heap.size + 1 + 1 := by omega
  have n4 : ¬ w.heap.size + 1 + 1 = w.heap.size := by omega
  have hm := mStore_uint32
  go_enter Tryz.func74, Tryz.ntmps74
  go_wp2_with (first | (go_at_call 65; refine (astore_uint32 b x _ _ ?_ ?_).mono ?_; (simp [*]); (simp [*]); rintro e w' ⟨rfl, rfl⟩))
  refine bodyPost_ret (v := .agg #[.int .u64 0, .bool true]) (by simp [results, Tryz.results74, go_sem, *]) rfl ⟨rfl, ?_⟩
  exact Held.other (p := ⟨w.heap.size + 1 + 1, 1, none⟩) (Held.other (p := ⟨w.heap.size + 1 + 1, 0, none⟩) (Held.set ((((Held.refl hc hz).alloc hb _).alloc hb _).alloc hb _) _) hb (show w.heap.size ≤ w.heap.size + 1 + 1 by omega) _) hb (show w.heap.size ≤ w.heap.size + 1 + 1 by omega) _

set_option maxRecDepth 100000 in
set_option maxHeartbeats 1000000 in
theorem doHit_uint32 (b : Nat) (x A B : Int) (w : World) (hc : w.cell? ⟨b, 0, none⟩ = some (.int .u32 x)) (hz : w.frozen? ⟨b, 0, none⟩ = false) (hb : b < w.heap.size) (ho : Hid (x = A % 4294967296)) :
    Calls Tryz.prog 74 #[.agg #[.int .i64 3, .iface 77 (.pointer (some ⟨b, 0, none⟩))], .agg #[.int .i64 5, .int .u64 A, .int .u64 B]] w fun e w' => e = .returned (.agg #[.int .u64 0, .bool true]) ∧ Held b (.int .u32 (B % 4294967296)) w w' := by
  have hc3 : ∀ o1 o2 o3, (((w.alloc o1).alloc o2).alloc o3).cell? ⟨b, 0, none⟩ = some (.int .u32 x) := fun o1 o2 o3 => by rw [past3 w b hb]; exact hc
  have hz3 : ∀ o1 o2 o3, (((w.alloc o1).alloc o2).alloc o3).frozen? ⟨b, 0, none⟩ = false := fun o1 o2 o3 => by rw [fpast3 w b hb]; exact hz
  have n0 : ¬ b = w.heap.size := by omega
  have n1 : ¬ b = w.heap.size + 1 := by omega
  have n2 : ¬ b = w.heap.size + 1 + 1 := by omega
  have s0 : w.heap.size < w.heap.size + 1 + 1 + 1 := by omega
  have n3 : ¬ w.heap.size = w.heap.size + 1 + 1 := by omega
  have n4 : ¬ w.heap.size + 1 + 1 = w.heap.size := by omega
  have hm := mCompareAndSwap_uint32
  go_enter Tryz.func74, Tryz.ntmps74
  go_wp2_with (first | (go_at_call 62; refine (ahit_uint32 b x _ _ _ ?_ ?_ ho.out).mono ?_; (simp [*]); (simp [*]); rintro e w' ⟨rfl, rfl⟩))
  refine bodyPost_ret (v := .agg #[.int .u64 0, .bool true]) (by simp [results, Tryz.results74, go_sem, *]) rfl ⟨rfl, ?_⟩
  exact Held.other (p := ⟨w.heap.size + 1 + 1, 1, none⟩) (Held.other (p := ⟨w.heap.size + 1 + 1, 0, none⟩) (Held.set ((((Held.refl hc hz).alloc hb _).alloc hb _).alloc hb _) _) hb (show w.heap.size ≤ w.heap.size + 1 + 1 by omega) _) hb (show w.heap.size ≤ w.heap.size + 1 + 1 by omega) _

set_option maxRecDepth 100000 in
set_option maxHeartbeats 1000000 in
theorem doMiss_uint32 (b : Nat) (x A B : Int) (w : World) (hc : w.cell? ⟨b, 0, none⟩ = some (.int .u32 x)) (hz : w.frozen? ⟨b, 0, none⟩ = false) (hb : b < w.heap.size) (ho : Hid (¬ x = A % 4294967296)) :
    Calls Tryz.prog 74 #[.agg #[.int .i64 3, .iface 77 (.pointer (some ⟨b, 0, none⟩))], .agg #[.int .i64 5, .int .u64 A, .int .u64 B]] w fun e w' => e = .returned (.agg #[.int .u64 0, .bool false]) ∧ Held b (.int .u32 x) w w' := by
  have hc3 : ∀ o1 o2 o3, (((w.alloc o1).alloc o2).alloc o3).cell? ⟨b, 0, none⟩ = some (.int .u32 x) := fun o1 o2 o3 => by rw [past3 w b hb]; exact hc
  have hz3 : ∀ o1 o2 o3, (((w.alloc o1).alloc o2).alloc o3).frozen? ⟨b, 0, none⟩ = false := fun o1 o2 o3 => by rw [fpast3 w b hb]; exact hz
  have n0 : ¬ b = w.heap.size := by omega
  have n1 : ¬ b = w.heap.size + 1 := by omega
  have n2 : ¬ b = w.heap.size + 1 + 1 := by omega
  have s0 : w.heap.size < w.heap.size + 1 + 1 + 1 := by omega
  have n3 : ¬ w.heap.size = w.heap.size + 1 + 1 := by omega
  have n4 : ¬ w.heap.size + 1 + 1 = w.heap.size := by omega
  have hm := mCompareAndSwap_uint32
  go_enter Tryz.func74, Tryz.ntmps74
  go_wp2_with (first | (go_at_call 62; refine (amiss_uint32 b x _ _ _ ?_ ?_ ho.out).mono ?_; (simp [*]); (simp [*]); rintro e w' ⟨rfl, rfl⟩))
  refine bodyPost_ret (v := .agg #[.int .u64 0, .bool false]) (by simp [results, Tryz.results74, go_sem, *]) rfl ⟨rfl, ?_⟩
  exact (((Held.refl hc hz).alloc hb _).alloc hb _).alloc hb _

end Go.Proofs.YtffnoaafmaeihaaGreat
