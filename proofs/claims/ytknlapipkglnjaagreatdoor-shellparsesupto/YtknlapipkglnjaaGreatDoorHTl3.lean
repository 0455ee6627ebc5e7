
/- Layer 28: the program's tellRet, Tell. -/

import Derived.Test.YtknlapipkglnjaaGreatDoorHTl2

namespace Go.Proofs.YtknlapipkglnjaaGreatDoor

open Go.RowKit

attribute [local go_sem ↓] Go.wp_at_zero Go.wp_at_succ

theorem st_info : (Tryz.prog.info? 9).map (fun i => (i.zero, i.size, i.bytes)) = some (some (.string ⟨#[]⟩), 1, 16) := by kernel_rfl
theorem strs_under : Tryz.prog.underlying 72 = some (.slice 9) := by kernel_rfl
def strC (l : List (List UInt8)) : List Value := l.map fun x => .string ⟨x.toArray⟩
theorem yes_len (b : Bool) : (yesL b).length ≤ 3 := by cases b <;> simp [yesL]
/-- A row of words that is ours. -/
structure Wd (w1 w : World) (v : Value) (l : List (List UInt8)) : Prop where
  own : w.ownsRow w1.heap.size 9 1 v l.length (strC l)
  below : Below w1.heap.size w1 w
theorem Wd.size {w1 w : World} {v : Value} {l : List (List UInt8)} (h : Wd w1 w v l) : w1.heap.size ≤ w.heap.size := h.below.size
theorem Wd.quiet {w1 w w' : World} {v : Value} {l : List (List UInt8)} (h : Wd w1 w v l) (hb : Below w.heap.size w w') : Wd w1 w' v l := ⟨owns_below h.own hb, h.below.trans (hb.mono h.size)⟩
theorem Wd.push {w1 w w' : World} {v v' : Value} {l : List (List UInt8)} {x : List UInt8} {o : Obj} (h : Wd w1 w v l) (hg : (w.alloc o).grownBy w' v.ownBlock) (ho : w'.ownsRow w1.heap.size 9 1 v' (l.length + 1) (strC l ++ [.string ⟨x.toArray⟩])) : Wd w1 w' v' (l ++ [x]) :=
  ⟨by rw [List.length_append, List.length_singleton, show strC (l ++ [x]) = strC l ++ [.string ⟨x.toArray⟩] by simp [strC]]; exact ho, Below.grown (h.below.alloc h.size o) hg (by have := h.size; rw [World.size_alloc]; omega) (fun k q => (owns_lt h.own k q).1)⟩
theorem Wd.to {w1 w : World} {v : Value} {l l' : List (List UInt8)} (h : Wd w1 w v l) (e : l = l') : Wd w1 w v l' := e ▸ h
theorem map_data (l : List (List UInt8)) : (l.map fun x => (⟨x.toArray⟩ : ByteArray)).map (·.data.toList) = l := by
  rw [List.map_map]
  have : ((fun b : ByteArray => b.data.toList) ∘ fun x : List UInt8 => (⟨x.toArray⟩ : ByteArray)) = id := rfl
  rw [this, List.map_id]
theorem join_any {w1 w : World} {v : Value} {x : List UInt8} {l : List (List UInt8)} (h : Wd w1 w v (x :: l)) (hlen : (x ++ blkL l).length ≤ 140737488355328) (hn : l.length + 1 ≤ 1000000000) :
    Calls Tryz.prog 63 #[v, .string ⟨#[32]⟩] w fun e w' => e = .returned (.string ⟨(x ++ blkL l).toArray⟩) ∧ Below w.heap.size w w' := by
  obtain ⟨g, cap, rfl, -, hlt, hcap, -, hcells, -⟩ := owns_some h.own (by simp)
  have hj := strings_Join g 0 cap ((x :: l).map fun x => (⟨x.toArray⟩ : ByteArray)) ⟨#[32]⟩ w (fun j y hy => by
      have hjl : j < (x :: l).length := by
        have := (List.getElem?_eq_some_iff.1 hy).1
        simpa using this
      rw [Nat.zero_add, hcells j (by omega)]
      rw [List.getElem?_map] at hy
      simp only [strC, List.getElem?_map]
      obtain ⟨z, hz, rfl⟩ := Option.map_eq_some_iff.1 hy
      rw [hz]
      rfl) hlt (by simp; omega) (by simpa using hcap) (by rw [map_data, show (⟨#[32]⟩ : ByteArray).data.toList = [32] from rfl, join_blk]; exact hlen)
  rw [map_data, show (⟨#[32]⟩ : ByteArray).data.toList = [32] from rfl, join_blk, List.length_map] at hj
  exact hj
theorem vbox4 {w z : World} {a b c d : Value} {t : TypeId} (h : Below (w.alloc (.cells #[a, b, c, d] t)).heap.size (w.alloc (.cells #[a, b, c, d] t)) z) : z.cell? ⟨w.heap.size, 0, none⟩ = some a ∧ z.cell? ⟨w.heap.size, 1, none⟩ = some b ∧ z.cell? ⟨w.heap.size, 2, none⟩ = some c ∧ z.cell? ⟨w.heap.size, 3, none⟩ = some d := by
  have hb := h.block w.heap.size (by simp)
  rw [heap_alloc_at _ _ _ rfl] at hb
  simp [World.cell?, hb]
set_option maxRecDepth 100000 in
set_option maxHeartbeats 4000000 in
theorem tellRet_1 (ok : Bool) (rk rv : Int) (pb : Option Addr) (pc n : Nat) (w : World) (hrk : In64 rk) (hrv : In64 rv) (hl : HLB w.heap.size w) :
    Calls Tryz.prog 41 #[.int .i64 1, .agg #[.bool ok, .int .i64 rk, .int .i64 rv, .slice pb n pc]] w fun e w' => e = .returned (.string ⟨(yesL ok ++ blkL [Lib.itoa rv]).toArray⟩) ∧ Below w.heap.size w w' := by
  have HL : Hid (HLB _ _) := hl
  have HRK : Hid (In64 rk) := hrk
  have HRV : Hid (In64 rv) := hrv
  have l2 := itoa_le hrv
  have l4 := pairT_len (p := (rk, rv)) hrk hrv
  have ly := yes_len ok
  obtain ⟨i0, hi0, hz0, hz1, hz2⟩ := info_parts st_info
  clear hl hrk hrv
  have B0 : Hid (Below w.heap.size w (w.alloc (.cells #[.bool ok, .int .i64 rk, .int .i64 rv, .slice pb n pc] 51))) := below_alloc _ _
  have T0 : Hid (Wd (w.alloc (.cells #[.bool ok, .int .i64 rk, .int .i64 rv, .slice pb n pc] 51)) ((w.alloc (.cells #[.bool ok, .int .i64 rk, .int .i64 rv, .slice pb n pc] 51)).alloc (.cells #[.string ⟨(yesL ok).toArray⟩] 9)) (.slice (some ⟨w.heap.size + 1, 0, none⟩) 1 1) [yesL ok]) := ⟨by rw [show w.heap.size + 1 = (w.alloc (.cells #[.bool ok, .int .i64 rk, .int .i64 rv, .slice pb n pc] 51)).heap.size by simp]; exact World.ownsRow_lit _ #[.string ⟨(yesL ok).toArray⟩] 1 (Nat.le_refl _) (by unfold maxLen; omega) rfl, below_alloc _ _⟩
  obtain ⟨s0, s1, s2, s3⟩ := vbox4 T0.out.below
  go_enter Tryz.func41, Tryz.ntmps41
  go_wp2_with (first | (go_at_call 62; refine (yes_any ok _).mono ?_; rintro e w1 ⟨rfl, rfl⟩) | (go_at_call 19; have q := T0; (refine (itoaB _ HRV.out _ (HL.out.on (B0.out.trans (T0.out.below.mono (by simp))))).mono ?_; rintro e z1 ⟨rfl, hb1⟩; have T1 : Hid (Wd (w.alloc (.cells #[.bool ok, .int .i64 rk, .int .i64 rv, .slice pb n pc] 51)) z1 _ [yesL ok]) := T0.out.quiet hb1; clear hb1 q T0)) | (at_builtin; have q := T1; (refine wpList_append_lies _ (by rfl) _ _ _ (by rfl) (w.alloc (.cells #[.bool ok, .int .i64 rk, .int .i64 rv, .slice pb n pc] 51)).heap.size 9 i0 _ 1 16 strs_under hi0 hz0 hz1 hz2 rfl (by omega) _ 1 _ (by rfl) (T1.out.own.alloc _) ⟨z1.heap.size, 0, none⟩ 1 1 [.string ⟨(Lib.itoa rv).toArray⟩] (by rfl) (by rfl) (World.news_of_block (cs := #[.string ⟨(Lib.itoa rv).toArray⟩]) (t := 9) (fr := (0, 0)) (heap_alloc_at _ _ _ (by simp))) (by simp [Value.oneCell']) (by omega) (by unfold maxLen; first | omega | (simp; omega)) (by first | omega | (simp; omega)) (by have := T1.out.size; simp at this ⊢; omega) (z1.heap.size + 1) (by simp) ?_; intro g4 p4 x4 ho hg hat hl4; have T4 : Hid (Wd (w.alloc (.cells #[.bool ok, .int .i64 rk, .int .i64 rv, .slice pb n pc] 51)) x4 _ ([yesL ok] ++ [Lib.itoa rv])) := T1.out.push hg ho; clear ho hg hat hl4 q T1)) | (go_at_call 63; (refine (join_any T4.out (by simp [blkL]; omega) (by simp)).mono ?_; rintro e w5 ⟨rfl, hb5⟩; have B5 : Hid (Below _ _ w5) := T4.out.below.trans (hb5.mono T4.out.size); clear hb5)))
  go_ret
  exact ⟨rfl, B0.out.trans (B5.out.mono (by simp))⟩
set_option maxRecDepth 100000 in
set_option maxHeartbeats 4000000 in
theorem tellRet_2 (ok : Bool) (rk rv : Int) (pb : Option Addr) (pc n : Nat) (w : World) (hrk : In64 rk) (hrv : In64 rv) (hl : HLB w.heap.size w) :
    Calls Tryz.prog 41 #[.int .i64 2, .agg #[.bool ok, .int .i64 rk, .int .i64 rv, .slice pb n pc]] w fun e w' => e = .returned (.string ⟨(yesL ok ++ blkL [Lib.itoa rv]).toArray⟩) ∧ Below w.heap.size w w' := by
  have HL : Hid (HLB _ _) := hl
  have HRK : Hid (In64 rk) := hrk
  have HRV : Hid (In64 rv) := hrv
  have l2 := itoa_le hrv
  have l4 := pairT_len (p := (rk, rv)) hrk hrv
  have ly := yes_len ok
  obtain ⟨i0, hi0, hz0, hz1, hz2⟩ := info_parts st_info
  clear hl hrk hrv
  have B0 : Hid (Below w.heap.size w (w.alloc (.cells #[.bool ok, .int .i64 rk, .int .i64 rv, .slice pb n pc] 51))) := below_alloc _ _
  have T0 : Hid (Wd (w.alloc (.cells #[.bool ok, .int .i64 rk, .int .i64 rv, .slice pb n pc] 51)) ((w.alloc (.cells #[.bool ok, .int .i64 rk, .int .i64 rv, .slice pb n pc] 51)).alloc (.cells #[.string ⟨(yesL ok).toArray⟩] 9)) (.slice (some ⟨w.heap.size + 1, 0, none⟩) 1 1) [yesL ok]) := ⟨by rw [show w.heap.size + 1 = (w.alloc (.cells #[.bool ok, .int .i64 rk, .int .i64 rv, .slice pb n pc] 51)).heap.size by simp]; exact World.ownsRow_lit _ #[.string ⟨(yesL ok).toArray⟩] 1 (Nat.le_refl _) (by unfold maxLen; omega) rfl, below_alloc _ _⟩
  obtain ⟨s0, s1, s2, s3⟩ := vbox4 T0.out.below
  go_enter Tryz.func41, Tryz.ntmps41
  go_wp2_with (first | (go_at_call 62; refine (yes_any ok _).mono ?_; rintro e w1 ⟨rfl, rfl⟩) | (go_at_call 19; have q := T0; (refine (itoaB _ HRV.out _ (HL.out.on (B0.out.trans (T0.out.below.mono (by simp))))).mono ?_; rintro e z1 ⟨rfl, hb1⟩; have T1 : Hid (Wd (w.alloc (.cells #[.bool ok, .int .i64 rk, .int .i64 rv, .slice pb n pc] 51)) z1 _ [yesL ok]) := T0.out.quiet hb1; clear hb1 q T0)) | (at_builtin; have q := T1; (refine wpList_append_lies _ (by rfl) _ _ _ (by rfl) (w.alloc (.cells #[.bool ok, .int .i64 rk, .int .i64 rv, .slice pb n pc] 51)).heap.size 9 i0 _ 1 16 strs_under hi0 hz0 hz1 hz2 rfl (by omega) _ 1 _ (by rfl) (T1.out.own.alloc _) ⟨z1.heap.size, 0, none⟩ 1 1 [.string ⟨(Lib.itoa rv).toArray⟩] (by rfl) (by rfl) (World.news_of_block (cs := #[.string ⟨(Lib.itoa rv).toArray⟩]) (t := 9) (fr := (0, 0)) (heap_alloc_at _ _ _ (by simp))) (by simp [Value.oneCell']) (by omega) (by unfold maxLen; first | omega | (simp; omega)) (by first | omega | (simp; omega)) (by have := T1.out.size; simp at this ⊢; omega) (z1.heap.size + 1) (by simp) ?_; intro g4 p4 x4 ho hg hat hl4; have T4 : Hid (Wd (w.alloc (.cells #[.bool ok, .int .i64 rk, .int .i64 rv, .slice pb n pc] 51)) x4 _ ([yesL ok] ++ [Lib.itoa rv])) := T1.out.push hg ho; clear ho hg hat hl4 q T1)) | (go_at_call 63; (refine (join_any T4.out (by simp [blkL]; omega) (by simp)).mono ?_; rintro e w5 ⟨rfl, hb5⟩; have B5 : Hid (Below _ _ w5) := T4.out.below.trans (hb5.mono T4.out.size); clear hb5)))
  go_ret
  exact ⟨rfl, B0.out.trans (B5.out.mono (by simp))⟩
set_option maxRecDepth 100000 in
set_option maxHeartbeats 4000000 in
theorem tellRet_3 (ok : Bool) (rk rv : Int) (pb : Option Addr) (pc n : Nat) (w : World) (hrk : In64 rk) (hrv : In64 rv) (hl : HLB w.heap.size w) :
    Calls Tryz.prog 41 #[.int .i64 3, .agg #[.bool ok, .int .i64 rk, .int .i64 rv, .slice pb n pc]] w fun e w' => e = .returned (.string ⟨(yesL ok ++ blkL [Lib.itoa rv]).toArray⟩) ∧ Below w.heap.size w w' := by
  have HL : Hid (HLB _ _) := hl
  have HRK : Hid (In64 rk) := hrk
  have HRV : Hid (In64 rv) := hrv
  have l2 := itoa_le hrv
  have l4 := pairT_len (p := (rk, rv)) hrk hrv
  have ly := yes_len ok
  obtain ⟨i0, hi0, hz0, hz1, hz2⟩ := info_parts st_info
  clear hl hrk hrv
  have B0 : Hid (Below w.heap.size w (w.alloc (.cells #[.bool ok, .int .i64 rk, .int .i64 rv, .slice pb n pc] 51))) := below_alloc _ _
  have T0 : Hid (Wd (w.alloc (.cells #[.bool ok, .int .i64 rk, .int .i64 rv, .slice pb n pc] 51)) ((w.alloc (.cells #[.bool ok, .int .i64 rk, .int .i64 rv, .slice pb n pc] 51)).alloc (.cells #[.string ⟨(yesL ok).toArray⟩] 9)) (.slice (some ⟨w.heap.size + 1, 0, none⟩) 1 1) [yesL ok]) := ⟨by rw [show w.heap.size + 1 = (w.alloc (.cells #[.bool ok, .int .i64 rk, .int .i64 rv, .slice pb n pc] 51)).heap.size by simp]; exact World.ownsRow_lit _ #[.string ⟨(yesL ok).toArray⟩] 1 (Nat.le_refl _) (by unfold maxLen; omega) rfl, below_alloc _ _⟩
  obtain ⟨s0, s1, s2, s3⟩ := vbox4 T0.out.below
  go_enter Tryz.func41, Tryz.ntmps41
  go_wp2_with (first | (go_at_call 62; refine (yes_any ok _).mono ?_; rintro e w1 ⟨rfl, rfl⟩) | (go_at_call 19; have q := T0; (refine (itoaB _ HRV.out _ (HL.out.on (B0.out.trans (T0.out.below.mono (by simp))))).mono ?_; rintro e z1 ⟨rfl, hb1⟩; have T1 : Hid (Wd (w.alloc (.cells #[.bool ok, .int .i64 rk, .int .i64 rv, .slice pb n pc] 51)) z1 _ [yesL ok]) := T0.out.quiet hb1; clear hb1 q T0)) | (at_builtin; have q := T1; (refine wpList_append_lies _ (by rfl) _ _ _ (by rfl) (w.alloc (.cells #[.bool ok, .int .i64 rk, .int .i64 rv, .slice pb n pc] 51)).heap.size 9 i0 _ 1 16 strs_under hi0 hz0 hz1 hz2 rfl (by omega) _ 1 _ (by rfl) (T1.out.own.alloc _) ⟨z1.heap.size, 0, none⟩ 1 1 [.string ⟨(Lib.itoa rv).toArray⟩] (by rfl) (by rfl) (World.news_of_block (cs := #[.string ⟨(Lib.itoa rv).toArray⟩]) (t := 9) (fr := (0, 0)) (heap_alloc_at _ _ _ (by simp))) (by simp [Value.oneCell']) (by omega) (by unfold maxLen; first | omega | (simp; omega)) (by first | omega | (simp; omega)) (by have := T1.out.size; simp at this ⊢; omega) (z1.heap.size + 1) (by simp) ?_; intro g4 p4 x4 ho hg hat hl4; have T4 : Hid (Wd (w.alloc (.cells #[.bool ok, .int .i64 rk, .int .i64 rv, .slice pb n pc] 51)) x4 _ ([yesL ok] ++ [Lib.itoa rv])) := T1.out.push hg ho; clear ho hg hat hl4 q T1)) | (go_at_call 63; (refine (join_any T4.out (by simp [blkL]; omega) (by simp)).mono ?_; rintro e w5 ⟨rfl, hb5⟩; have B5 : Hid (Below _ _ w5) := T4.out.below.trans (hb5.mono T4.out.size); clear hb5)))
  go_ret
  exact ⟨rfl, B0.out.trans (B5.out.mono (by simp))⟩
set_option maxRecDepth 100000 in
set_option maxHeartbeats 4000000 in
theorem tellRet_4 (ok : Bool) (rk rv : Int) (pb : Option Addr) (pc n : Nat) (w : World) (hrk : In64 rk) (hrv : In64 rv) (hl : HLB w.heap.size w) :
    Calls Tryz.prog 41 #[.int .i64 4, .agg #[.bool ok, .int .i64 rk, .int .i64 rv, .slice pb n pc]] w fun e w' => e = .returned (.string ⟨(yesL ok ++ blkL [Lib.itoa rv]).toArray⟩) ∧ Below w.heap.size w w' := by
  have HL : Hid (HLB _ _) := hl
  have HRK : Hid (In64 rk) := hrk
  have HRV : Hid (In64 rv) := hrv
  have l2 := itoa_le hrv
  have l4 := pairT_len (p := (rk, rv)) hrk hrv
  have ly := yes_len ok
  obtain ⟨i0, hi0, hz0, hz1, hz2⟩ := info_parts st_info
  clear hl hrk hrv
  have B0 : Hid (Below w.heap.size w (w.alloc (.cells #[.bool ok, .int .i64 rk, .int .i64 rv, .slice pb n pc] 51))) := below_alloc _ _
  have T0 : Hid (Wd (w.alloc (.cells #[.bool ok, .int .i64 rk, .int .i64 rv, .slice pb n pc] 51)) ((w.alloc (.cells #[.bool ok, .int .i64 rk, .int .i64 rv, .slice pb n pc] 51)).alloc (.cells #[.string ⟨(yesL ok).toArray⟩] 9)) (.slice (some ⟨w.heap.size + 1, 0, none⟩) 1 1) [yesL ok]) := ⟨by rw [show w.heap.size + 1 = (w.alloc (.cells #[.bool ok, .int .i64 rk, .int .i64 rv, .slice pb n pc] 51)).heap.size by simp]; exact World.ownsRow_lit _ #[.string ⟨(yesL ok).toArray⟩] 1 (Nat.le_refl _) (by unfold maxLen; omega) rfl, below_alloc _ _⟩
  obtain ⟨s0, s1, s2, s3⟩ := vbox4 T0.out.below
  go_enter Tryz.func41, Tryz.ntmps41
  go_wp2_with (first | (go_at_call 62; refine (yes_any ok _).mono ?_; rintro e w1 ⟨rfl, rfl⟩) | (go_at_call 19; have q := T0; (refine (itoaB _ HRV.out _ (HL.out.on (B0.out.trans (T0.out.below.mono (by simp))))).mono ?_; rintro e z1 ⟨rfl, hb1⟩; have T1 : Hid (Wd (w.alloc (.cells #[.bool ok, .int .i64 rk, .int .i64 rv, .slice pb n pc] 51)) z1 _ [yesL ok]) := T0.out.quiet hb1; clear hb1 q T0)) | (at_builtin; have q := T1; (refine wpList_append_lies _ (by rfl) _ _ _ (by rfl) (w.alloc (.cells #[.bool ok, .int .i64 rk, .int .i64 rv, .slice pb n pc] 51)).heap.size 9 i0 _ 1 16 strs_under hi0 hz0 hz1 hz2 rfl (by omega) _ 1 _ (by rfl) (T1.out.own.alloc _) ⟨z1.heap.size, 0, none⟩ 1 1 [.string ⟨(Lib.itoa rv).toArray⟩] (by rfl) (by rfl) (World.news_of_block (cs := #[.string ⟨(Lib.itoa rv).toArray⟩]) (t := 9) (fr := (0, 0)) (heap_alloc_at _ _ _ (by simp))) (by simp [Value.oneCell']) (by omega) (by unfold maxLen; first | omega | (simp; omega)) (by first | omega | (simp; omega)) (by have := T1.out.size; simp at this ⊢; omega) (z1.heap.size + 1) (by simp) ?_; intro g4 p4 x4 ho hg hat hl4; have T4 : Hid (Wd (w.alloc (.cells #[.bool ok, .int .i64 rk, .int .i64 rv, .slice pb n pc] 51)) x4 _ ([yesL ok] ++ [Lib.itoa rv])) := T1.out.push hg ho; clear ho hg hat hl4 q T1)) | (go_at_call 63; (refine (join_any T4.out (by simp [blkL]; omega) (by simp)).mono ?_; rintro e w5 ⟨rfl, hb5⟩; have B5 : Hid (Below _ _ w5) := T4.out.below.trans (hb5.mono T4.out.size); clear hb5)))
  go_ret
  exact ⟨rfl, B0.out.trans (B5.out.mono (by simp))⟩
set_option maxRecDepth 100000 in
set_option maxHeartbeats 4000000 in
theorem tellRet_5 (ok : Bool) (rk rv : Int) (pb : Option Addr) (pc n : Nat) (w : World) (hrk : In64 rk) (hrv : In64 rv) (hl : HLB w.heap.size w) :
    Calls Tryz.prog 41 #[.int .i64 5, .agg #[.bool ok, .int .i64 rk, .int .i64 rv, .slice pb n pc]] w fun e w' => e = .returned (.string ⟨(yesL ok ++ blkL [pairT (rk, rv)]).toArray⟩) ∧ Below w.heap.size w w' := by
  have HL : Hid (HLB _ _) := hl
  have HRK : Hid (In64 rk) := hrk
  have HRV : Hid (In64 rv) := hrv
  have l2 := itoa_le hrv
  have l4 := pairT_len (p := (rk, rv)) hrk hrv
  have ly := yes_len ok
  obtain ⟨i0, hi0, hz0, hz1, hz2⟩ := info_parts st_info
  clear hl hrk hrv
  have B0 : Hid (Below w.heap.size w (w.alloc (.cells #[.bool ok, .int .i64 rk, .int .i64 rv, .slice pb n pc] 51))) := below_alloc _ _
  have T0 : Hid (Wd (w.alloc (.cells #[.bool ok, .int .i64 rk, .int .i64 rv, .slice pb n pc] 51)) ((w.alloc (.cells #[.bool ok, .int .i64 rk, .int .i64 rv, .slice pb n pc] 51)).alloc (.cells #[.string ⟨(yesL ok).toArray⟩] 9)) (.slice (some ⟨w.heap.size + 1, 0, none⟩) 1 1) [yesL ok]) := ⟨by rw [show w.heap.size + 1 = (w.alloc (.cells #[.bool ok, .int .i64 rk, .int .i64 rv, .slice pb n pc] 51)).heap.size by simp]; exact World.ownsRow_lit _ #[.string ⟨(yesL ok).toArray⟩] 1 (Nat.le_refl _) (by unfold maxLen; omega) rfl, below_alloc _ _⟩
  obtain ⟨s0, s1, s2, s3⟩ := vbox4 T0.out.below
  go_enter Tryz.func41, Tryz.ntmps41
  go_wp2_with (first | (go_at_call 62; refine (yes_any ok _).mono ?_; rintro e w1 ⟨rfl, rfl⟩) | (go_at_call 39; have q := T0; (refine (tellPair_any _ _ HRK.out HRV.out _ (HL.out.on (B0.out.trans (T0.out.below.mono (by simp))))).mono ?_; rintro e z1 ⟨rfl, hb1⟩; have T1 : Hid (Wd (w.alloc (.cells #[.bool ok, .int .i64 rk, .int .i64 rv, .slice pb n pc] 51)) z1 _ [yesL ok]) := T0.out.quiet hb1; clear hb1 q T0)) | (at_builtin; have q := T1; (refine wpList_append_lies _ (by rfl) _ _ _ (by rfl) (w.alloc (.cells #[.bool ok, .int .i64 rk, .int .i64 rv, .slice pb n pc] 51)).heap.size 9 i0 _ 1 16 strs_under hi0 hz0 hz1 hz2 rfl (by omega) _ 1 _ (by rfl) (T1.out.own.alloc _) ⟨z1.heap.size, 0, none⟩ 1 1 [.string ⟨(pairT (rk, rv)).toArray⟩] (by rfl) (by rfl) (World.news_of_block (cs := #[.string ⟨(pairT (rk, rv)).toArray⟩]) (t := 9) (fr := (0, 0)) (heap_alloc_at _ _ _ (by simp))) (by simp [Value.oneCell']) (by omega) (by unfold maxLen; first | omega | (simp; omega)) (by first | omega | (simp; omega)) (by have := T1.out.size; simp at this ⊢; omega) (z1.heap.size + 1) (by simp) ?_; intro g4 p4 x4 ho hg hat hl4; have T4 : Hid (Wd (w.alloc (.cells #[.bool ok, .int .i64 rk, .int .i64 rv, .slice pb n pc] 51)) x4 _ ([yesL ok] ++ [pairT (rk, rv)])) := T1.out.push hg ho; clear ho hg hat hl4 q T1)) | (go_at_call 63; (refine (join_any T4.out (by simp [blkL]; omega) (by simp)).mono ?_; rintro e w5 ⟨rfl, hb5⟩; have B5 : Hid (Below _ _ w5) := T4.out.below.trans (hb5.mono T4.out.size); clear hb5)))
  go_ret
  exact ⟨rfl, B0.out.trans (B5.out.mono (by simp))⟩
set_option maxRecDepth 100000 in
set_option maxHeartbeats 4000000 in
theorem tellRet_6 (ok : Bool) (rk rv : Int) (pb : Option Addr) (pc n : Nat) (w : World) (hrk : In64 rk) (hrv : In64 rv) (hl : HLB w.heap.size w) :
    Calls Tryz.prog 41 #[.int .i64 6, .agg #[.bool ok, .int .i64 rk, .int .i64 rv, .slice pb n pc]] w fun e w' => e = .returned (.string ⟨(yesL ok ++ blkL [pairT (rk, rv)]).toArray⟩) ∧ Below w.heap.size w w' := by
  have HL : Hid (HLB _ _) := hl
  have HRK : Hid (In64 rk) := hrk
  have HRV : Hid (In64 rv) := hrv
  have l2 := itoa_le hrv
  have l4 := pairT_len (p := (rk, rv)) hrk hrv
  have ly := yes_len ok
  obtain ⟨i0, hi0, hz0, hz1, hz2⟩ := info_parts st_info
  clear hl hrk hrv
  have B0 : Hid (Below w.heap.size w (w.alloc (.cells #[.bool ok, .int .i64 rk, .int .i64 rv, .slice pb n pc] 51))) := below_alloc _ _
  have T0 : Hid (Wd (w.alloc (.cells #[.bool ok, .int .i64 rk, .int .i64 rv, .slice pb n pc] 51)) ((w.alloc (.cells #[.bool ok, .int .i64 rk, .int .i64 rv, .slice pb n pc] 51)).alloc (.cells #[.string ⟨(yesL ok).toArray⟩] 9)) (.slice (some ⟨w.heap.size + 1, 0, none⟩) 1 1) [yesL ok]) := ⟨by rw [show w.heap.size + 1 = (w.alloc (.cells #[.bool ok, .int .i64 rk, .int .i64 rv, .slice pb n pc] 51)).heap.size by simp]; exact World.ownsRow_lit _ #[.string ⟨(yesL ok).toArray⟩] 1 (Nat.le_refl _) (by unfold maxLen; omega) rfl, below_alloc _ _⟩
  obtain ⟨s0, s1, s2, s3⟩ := vbox4 T0.out.below
  go_enter Tryz.func41, Tryz.ntmps41
  go_wp2_with (first | (go_at_call 62; refine (yes_any ok _).mono ?_; rintro e w1 ⟨rfl, rfl⟩) | (go_at_call 39; have q := T0; (refine (tellPair_any _ _ HRK.out HRV.out _ (HL.out.on (B0.out.trans (T0.out.below.mono (by simp))))).mono ?_; rintro e z1 ⟨rfl, hb1⟩; have T1 : Hid (Wd (w.alloc (.cells #[.bool ok, .int .i64 rk, .int .i64 rv, .slice pb n pc] 51)) z1 _ [yesL ok]) := T0.out.quiet hb1; clear hb1 q T0)) | (at_builtin; have q := T1; (refine wpList_append_lies _ (by rfl) _ _ _ (by rfl) (w.alloc (.cells #[.bool ok, .int .i64 rk, .int .i64 rv, .slice pb n pc] 51)).heap.size 9 i0 _ 1 16 strs_under hi0 hz0 hz1 hz2 rfl (by omega) _ 1 _ (by rfl) (T1.out.own.alloc _) ⟨z1.heap.size, 0, none⟩ 1 1 [.string ⟨(pairT (rk, rv)).toArray⟩] (by rfl) (by rfl) (World.news_of_block (cs := #[.string ⟨(pairT (rk, rv)).toArray⟩]) (t := 9) (fr := (0, 0)) (heap_alloc_at _ _ _ (by simp))) (by simp [Value.oneCell']) (by omega) (by unfold maxLen; first | omega | (simp; omega)) (by first | omega | (simp; omega)) (by have := T1.out.size; simp at this ⊢; omega) (z1.heap.size + 1) (by simp) ?_; intro g4 p4 x4 ho hg hat hl4; have T4 : Hid (Wd (w.alloc (.cells #[.bool ok, .int .i64 rk, .int .i64 rv, .slice pb n pc] 51)) x4 _ ([yesL ok] ++ [pairT (rk, rv)])) := T1.out.push hg ho; clear ho hg hat hl4 q T1)) | (go_at_call 63; (refine (join_any T4.out (by simp [blkL]; omega) (by simp)).mono ?_; rintro e w5 ⟨rfl, hb5⟩; have B5 : Hid (Below _ _ w5) := T4.out.below.trans (hb5.mono T4.out.size); clear hb5)))
  go_ret
  exact ⟨rfl, B0.out.trans (B5.out.mono (by simp))⟩
set_option maxRecDepth 100000 in
set_option maxHeartbeats 4000000 in
theorem tellRet_7 (ok : Bool) (rk rv : Int) (pb : Option Addr) (pc n : Nat) (w : World) (hrk : In64 rk) (hrv : In64 rv) (hl : HLB w.heap.size w) :
    Calls Tryz.prog 41 #[.int .i64 7, .agg #[.bool ok, .int .i64 rk, .int .i64 rv, .slice pb n pc]] w fun e w' => e = .returned (.string ⟨(yesL ok ++ blkL [pairT (rk, rv)]).toArray⟩) ∧ Below w.heap.size w w' := by
  have HL : Hid (HLB _ _) := hl
  have HRK : Hid (In64 rk) := hrk
  have HRV : Hid (In64 rv) := hrv
  have l2 := itoa_le hrv
  have l4 := pairT_len (p := (rk, rv)) hrk hrv
  have ly := yes_len ok
  obtain ⟨i0, hi0, hz0, hz1, hz2⟩ := info_parts st_info
  clear hl hrk hrv
  have B0 : Hid (Below w.heap.size w (w.alloc (.cells #[.bool ok, .int .i64 rk, .int .i64 rv, .slice pb n pc] 51))) := below_alloc _ _
  have T0 : Hid (Wd (w.alloc (.cells #[.bool ok, .int .i64 rk, .int .i64 rv, .slice pb n pc] 51)) ((w.alloc (.cells #[.bool ok, .int .i64 rk, .int .i64 rv, .slice pb n pc] 51)).alloc (.cells #[.string ⟨(yesL ok).toArray⟩] 9)) (.slice (some ⟨w.heap.size + 1, 0, none⟩) 1 1) [yesL ok]) := ⟨by rw [show w.heap.size + 1 = (w.alloc (.cells #[.bool ok, .int .i64 rk, .int .i64 rv, .slice pb n pc] 51)).heap.size by simp]; exact World.ownsRow_lit _ #[.string ⟨(yesL ok).toArray⟩] 1 (Nat.le_refl _) (by unfold maxLen; omega) rfl, below_alloc _ _⟩
  obtain ⟨s0, s1, s2, s3⟩ := vbox4 T0.out.below
  go_enter Tryz.func41, Tryz.ntmps41
  go_wp2_with (first | (go_at_call 62; refine (yes_any ok _).mono ?_; rintro e w1 ⟨rfl, rfl⟩) | (go_at_call 39; have q := T0; (refine (tellPair_any _ _ HRK.out HRV.out _ (HL.out.on (B0.out.trans (T0.out.below.mono (by simp))))).mono ?_; rintro e z1 ⟨rfl, hb1⟩; have T1 : Hid (Wd (w.alloc (.cells #[.bool ok, .int .i64 rk, .int .i64 rv, .slice pb n pc] 51)) z1 _ [yesL ok]) := T0.out.quiet hb1; clear hb1 q T0)) | (at_builtin; have q := T1; (refine wpList_append_lies _ (by rfl) _ _ _ (by rfl) (w.alloc (.cells #[.bool ok, .int .i64 rk, .int .i64 rv, .slice pb n pc] 51)).heap.size 9 i0 _ 1 16 strs_under hi0 hz0 hz1 hz2 rfl (by omega) _ 1 _ (by rfl) (T1.out.own.alloc _) ⟨z1.heap.size, 0, none⟩ 1 1 [.string ⟨(pairT (rk, rv)).toArray⟩] (by rfl) (by rfl) (World.news_of_block (cs := #[.string ⟨(pairT (rk, rv)).toArray⟩]) (t := 9) (fr := (0, 0)) (heap_alloc_at _ _ _ (by simp))) (by simp [Value.oneCell']) (by omega) (by unfold maxLen; first | omega | (simp; omega)) (by first | omega | (simp; omega)) (by have := T1.out.size; simp at this ⊢; omega) (z1.heap.size + 1) (by simp) ?_; intro g4 p4 x4 ho hg hat hl4; have T4 : Hid (Wd (w.alloc (.cells #[.bool ok, .int .i64 rk, .int .i64 rv, .slice pb n pc] 51)) x4 _ ([yesL ok] ++ [pairT (rk, rv)])) := T1.out.push hg ho; clear ho hg hat hl4 q T1)) | (go_at_call 63; (refine (join_any T4.out (by simp [blkL]; omega) (by simp)).mono ?_; rintro e w5 ⟨rfl, hb5⟩; have B5 : Hid (Below _ _ w5) := T4.out.below.trans (hb5.mono T4.out.size); clear hb5)))
  go_ret
  exact ⟨rfl, B0.out.trans (B5.out.mono (by simp))⟩
set_option maxRecDepth 100000 in
set_option maxHeartbeats 4000000 in
theorem tellRet_8 (ok : Bool) (rk rv : Int) (pb : Option Addr) (pc n : Nat) (w : World) (hrk : In64 rk) (hrv : In64 rv) (hl : HLB w.heap.size w) :
    Calls Tryz.prog 41 #[.int .i64 8, .agg #[.bool ok, .int .i64 rk, .int .i64 rv, .slice pb n pc]] w fun e w' => e = .returned (.string ⟨(yesL ok ++ blkL [pairT (rk, rv)]).toArray⟩) ∧ Below w.heap.size w w' := by
  have HL : Hid (HLB _ _) := hl
  have HRK : Hid (In64 rk) := hrk
  have HRV : Hid (In64 rv) := hrv
  have l2 := itoa_le hrv
  have l4 := pairT_len (p := (rk, rv)) hrk hrv
  have ly := yes_len ok
  obtain ⟨i0, hi0, hz0, hz1, hz2⟩ := info_parts st_info
  clear hl hrk hrv
  have B0 : Hid (Below w.heap.size w (w.alloc (.cells #[.bool ok, .int .i64 rk, .int .i64 rv, .slice pb n pc] 51))) := below_alloc _ _
  have T0 : Hid (Wd (w.alloc (.cells #[.bool ok, .int .i64 rk, .int .i64 rv, .slice pb n pc] 51)) ((w.alloc (.cells #[.bool ok, .int .i64 rk, .int .i64 rv, .slice pb n pc] 51)).alloc (.cells #[.string ⟨(yesL ok).toArray⟩] 9)) (.slice (some ⟨w.heap.size + 1, 0, none⟩) 1 1) [yesL ok]) := ⟨by rw [show w.heap.size + 1 = (w.alloc (.cells #[.bool ok, .int .i64 rk, .int .i64 rv, .slice pb n pc] 51)).heap.size by simp]; exact World.ownsRow_lit _ #[.string ⟨(yesL ok).toArray⟩] 1 (Nat.le_refl _) (by unfold maxLen; omega) rfl, below_alloc _ _⟩
  obtain ⟨s0, s1, s2, s3⟩ := vbox4 T0.out.below
  go_enter Tryz.func41, Tryz.ntmps41
  go_wp2_with (first | (go_at_call 62; refine (yes_any ok _).mono ?_; rintro e w1 ⟨rfl, rfl⟩) | (go_at_call 39; have q := T0; (refine (tellPair_any _ _ HRK.out HRV.out _ (HL.out.on (B0.out.trans (T0.out.below.mono (by simp))))).mono ?_; rintro e z1 ⟨rfl, hb1⟩; have T1 : Hid (Wd (w.alloc (.cells #[.bool ok, .int .i64 rk, .int .i64 rv, .slice pb n pc] 51)) z1 _ [yesL ok]) := T0.out.quiet hb1; clear hb1 q T0)) | (at_builtin; have q := T1; (refine wpList_append_lies _ (by rfl) _ _ _ (by rfl) (w.alloc (.cells #[.bool ok, .int .i64 rk, .int .i64 rv, .slice pb n pc] 51)).heap.size 9 i0 _ 1 16 strs_under hi0 hz0 hz1 hz2 rfl (by omega) _ 1 _ (by rfl) (T1.out.own.alloc _) ⟨z1.heap.size, 0, none⟩ 1 1 [.string ⟨(pairT (rk, rv)).toArray⟩] (by rfl) (by rfl) (World.news_of_block (cs := #[.string ⟨(pairT (rk, rv)).toArray⟩]) (t := 9) (fr := (0, 0)) (heap_alloc_at _ _ _ (by simp))) (by simp [Value.oneCell']) (by omega) (by unfold maxLen; first | omega | (simp; omega)) (by first | omega | (simp; omega)) (by have := T1.out.size; simp at this ⊢; omega) (z1.heap.size + 1) (by simp) ?_; intro g4 p4 x4 ho hg hat hl4; have T4 : Hid (Wd (w.alloc (.cells #[.bool ok, .int .i64 rk, .int .i64 rv, .slice pb n pc] 51)) x4 _ ([yesL ok] ++ [pairT (rk, rv)])) := T1.out.push hg ho; clear ho hg hat hl4 q T1)) | (go_at_call 63; (refine (join_any T4.out (by simp [blkL]; omega) (by simp)).mono ?_; rintro e w5 ⟨rfl, hb5⟩; have B5 : Hid (Below _ _ w5) := T4.out.below.trans (hb5.mono T4.out.size); clear hb5)))
  go_ret
  exact ⟨rfl, B0.out.trans (B5.out.mono (by simp))⟩
set_option maxRecDepth 100000 in
set_option maxHeartbeats 4000000 in
theorem tellRet_c (kd : Int) (ok : Bool) (rk rv : Int) (pb : Option Addr) (pc n : Nat) (w : World) (hrk : In64 rk) (hrv : In64 rv) (hl : HLB w.heap.size w) (pg po : Nat) (ps : PL) (hp : PairsAt w pb pg po ps) (hn : n = ps.length) (hpi : ∀ i, i < ps.length → In64 (keyAt ps i) ∧ In64 (valAt ps i)) (hnl : n ≤ 1048576) (hkd : kd < 1 ∨ 8 < kd) :
    Calls Tryz.prog 41 #[.int .i64 kd, .agg #[.bool ok, .int .i64 rk, .int .i64 rv, .slice pb n pc]] w fun e w' => e = .returned (.string ⟨(yesL ok ++ blkL (ps.map pairT)).toArray⟩) ∧ Below w.heap.size w w' := by
  have e1 : (kd == 1) = false := by simp; omega
  have e2 : (kd == 2) = false := by simp; omega
  have e3 : (kd == 3) = false := by simp; omega
  have e4 : (kd == 4) = false := by simp; omega
  have e5 : (kd == 5) = false := by simp; omega
  have e6 : (kd == 6) = false := by simp; omega
  have e7 : (kd == 7) = false := by simp; omega
  have e8 : (kd == 8) = false := by simp; omega
  have HP : Hid (PairsAt w pb pg po ps) := hp
  have HN : Hid (n = ps.length) := hn
  have HPI : Hid (∀ i, i < ps.length → In64 (keyAt ps i) ∧ In64 (valAt ps i)) := hpi
  have n1 : n ≤ 1048576 := hnl
  clear hp hn hpi hnl hkd
  have HL : Hid (HLB _ _) := hl
  have HRK : Hid (In64 rk) := hrk
  have HRV : Hid (In64 rv) := hrv
  have l2 := itoa_le hrv
  have l4 := pairT_len (p := (rk, rv)) hrk hrv
  have ly := yes_len ok
  obtain ⟨i0, hi0, hz0, hz1, hz2⟩ := info_parts st_info
  clear hl hrk hrv
  have B0 : Hid (Below w.heap.size w (w.alloc (.cells #[.bool ok, .int .i64 rk, .int .i64 rv, .slice pb n pc] 51))) := below_alloc _ _
  have T0 : Hid (Wd (w.alloc (.cells #[.bool ok, .int .i64 rk, .int .i64 rv, .slice pb n pc] 51)) ((w.alloc (.cells #[.bool ok, .int .i64 rk, .int .i64 rv, .slice pb n pc] 51)).alloc (.cells #[.string ⟨(yesL ok).toArray⟩] 9)) (.slice (some ⟨w.heap.size + 1, 0, none⟩) 1 1) [yesL ok]) := ⟨by rw [show w.heap.size + 1 = (w.alloc (.cells #[.bool ok, .int .i64 rk, .int .i64 rv, .slice pb n pc] 51)).heap.size by simp]; exact World.ownsRow_lit _ #[.string ⟨(yesL ok).toArray⟩] 1 (Nat.le_refl _) (by unfold maxLen; omega) rfl, below_alloc _ _⟩
  obtain ⟨s0, s1, s2, s3⟩ := vbox4 T0.out.below
  go_enter Tryz.func41, Tryz.ntmps41
  go_wp2_with (first | (go_at_call 62; refine (yes_any ok _).mono ?_; rintro e w1 ⟨rfl, rfl⟩))
  go_loopw [5, 16] (fun vs vi wr => ∃ j : Nat, j ≤ n ∧ vi = .int .i64 j ∧ Wd (w.alloc (.cells #[.bool ok, .int .i64 rk, .int .i64 rv, .slice pb n pc] 51)) wr vs (yesL ok :: (ps.take j).map pairT)) (fun _ vi _ => n - (intOf vi).toNat)
  case atStart => exact ⟨0, Nat.zero_le _, rfl, T0.out⟩
  case round =>
    obtain ⟨j, hj, rfl, hwd⟩ := hrel
    rename World => wr
    obtain ⟨l, hle⟩ : ∃ l, l = yesL ok :: (ps.take j).map pairT := ⟨_, rfl⟩
    have HLE : Hid (l = yesL ok :: (ps.take j).map pairT) := hle
    have ll : l.length ≤ 1048577 := by rw [hle]; simp; omega
    have lp : 0 < l.length := by rw [hle]; simp
    rw [← hle] at hwd
    obtain ⟨g, cap, rfl, -, -, -, -, -, -⟩ := owns_some hwd.own lp
    have TR : Hid (Wd (w.alloc (.cells #[.bool ok, .int .i64 rk, .int .i64 rv, .slice pb n pc] 51)) wr _ l) := hwd
    have hwz := hwd.size
    have BW : Hid (Below w.heap.size w wr) := B0.out.trans (hwd.below.mono (by simp))
    clear hwd hle T0 s0 s1 s2 s3
    by_cases hjn : j < n
    · have hjl : j < ps.length := by have := HN.out; omega
      have j0 : (0 : Int) ≤ (j : Int) := Int.natCast_nonneg _
      have j1 : (j : Int) < (n : Int) := by omega
      obtain rfl := HP.out.base (by omega)
      obtain ⟨d0, d1⟩ := (HP.out.below BW.out).cells j hjl
      have HPK : Hid (In64 (keyAt ps j)) := (HPI.out j hjl).1
      have HPV : Hid (In64 (valAt ps j)) := (HPI.out j hjl).2
      have HT : Hid (yesL ok :: (ps.take (j + 1)).map pairT = l ++ [pairT (keyAt ps j, valAt ps j)]) := by
        show _ = _
        rw [HLE.out, List.take_add_one, List.getElem?_eq_getElem hjl, Option.toList_some, List.map_append, List.map_cons, List.map_nil, List.cons_append]
        simp [keyAt, valAt, List.getD_eq_getElem?_getD, hjl]
      generalize keyAt ps j = pk at *
      generalize valAt ps j = pv at *
      clear hjn hjl
      go_wp2_with (first | (go_at_call 39; have q := TR; refine (tellPair_any _ _ HPK.out HPV.out _ (HL.out.on (BW.out.alloc BW.out.size _))).mono ?_; rintro e z1 ⟨rfl, hb1⟩; have T1 : Hid (Wd _ z1 _ l) := (TR.out.quiet (below_alloc _ _)).quiet hb1; clear hb1 q TR) | (at_builtin; have q := T1; (refine wpList_append_lies _ (by rfl) _ _ _ (by rfl) _ 9 i0 _ 1 16 strs_under hi0 hz0 hz1 hz2 rfl (by omega) _ l.length _ (by rfl) (T1.out.own.alloc _) ⟨z1.heap.size, 0, none⟩ 1 1 [.string ⟨(pairT (pk, pv)).toArray⟩] (by rfl) (by rfl) (World.news_of_block (cs := #[.string ⟨(pairT (pk, pv)).toArray⟩]) (t := 9) (fr := (0, 0)) (heap_alloc_at _ _ _ (by simp))) (by simp [Value.oneCell']) (by omega) (by unfold maxLen; first | omega | (simp; omega)) (by first | omega | (simp; omega)) (by have := T1.out.size; simp at this ⊢; omega) (z1.heap.size + 1) (by simp) ?_; intro g4 p4 x4 ho hg hat hl4; have T4 : Hid (Wd _ x4 _ (l ++ [pairT (pk, pv)])) := T1.out.push hg ho; clear ho hg hat hl4 q T1)))
      refine ⟨⟨j + 1, by omega, by go_num, by rw [HT.out]; exact T4.out⟩, by simp [intOf]; omega⟩
    · obtain rfl : j = n := by omega
      have HT : Hid (l = yesL ok :: ps.map pairT) := by show _ = _; rw [HLE.out, HN.out, List.take_length]
      have T5 : Hid (Wd _ wr _ (yesL ok :: ps.map pairT)) := TR.out.to HT.out
      have HLN : Hid ((yesL ok ++ blkL (ps.map pairT)).length ≤ 50000000) := by
        show _ ≤ _
        have h1 := blkL_len (ps.map pairT) (fun x hx => by
          obtain ⟨p, hp, rfl⟩ := List.mem_map.1 hx
          obtain ⟨i, hi, rfl⟩ := List.mem_iff_getElem.1 hp
          have := HPI.out i hi
          simp only [keyAt, valAt, List.getD_eq_getElem?_getD, List.getElem?_eq_getElem hi, Option.getD_some] at this
          exact pairT_len this.1 this.2)
        have := HN.out
        simp at h1 ⊢
        omega
      have HNL : Hid ((ps.map pairT).length + 1 ≤ 1000000000) := by show _ ≤ _; have := HN.out; simp; omega
      obtain ⟨P, hP⟩ : ∃ P, P = ps.map pairT := ⟨_, rfl⟩
      rw [← hP] at T5 HLN HNL
      have HPP : Hid (P = ps.map pairT) := hP
      have hPl : P.length ≤ 1048576 := by rw [hP]; have := HN.out; simp; omega
      clear hjn hP
      go_wp2_with (first | (go_at_call 63; refine (join_any T5.out (by have := HLN.out; omega) HNL.out).mono ?_; rintro e w5 ⟨rfl, hb5⟩; have B5 : Hid (Below _ _ w5) := BW.out.trans (hb5.mono BW.out.size); clear hb5))
      go_ret
      rw [← HPP.out]
      exact ⟨rfl, B5.out⟩
end Go.Proofs.YtknlapipkglnjaaGreatDoor
