
/- Layer 28: the program's lines of an operation: Kind, numbersOf, PrintOp, tellOp; pairs. -/

import Derived.Test.YtknlapipkglnjaaGreatDoorHNum

import Derived.Test.YtknlapipkglnjaaGreatDoorHShelf

import Derived.Deep.RegionHeld3

import Derived.Deep.RegionWith

import Derived.Lib.AppendIntMem

namespace Go.Proofs.YtknlapipkglnjaaGreatDoor

open Go.RowKit

attribute [local go_sem ↓] Go.wp_at_zero Go.wp_at_succ

/-- The variables that the lines lean on. -/
structure HLaid (w : World) : Prop where
  tab : Lib.TabIs Tryz.prog w "internal/strconv.uint64pow10" .u64 Lib.pow10Tab
  lt : 0 < w.heap.size
  nm : ∀ k : Nat, k < 10 → w.cell? ⟨0, k, none⟩ = some (.string ⟨(wordL k).toArray⟩)
def HLB (B : Nat) (w : World) : Prop := ∀ w', Below B w w' → HLaid w'
theorem HLB.on {w w1 : World} (h : HLB w.heap.size w) (hb : Below w.heap.size w w1) : HLB w1.heap.size w1 := fun w' h' => h w' (hb.trans (h'.mono hb.size))
theorem below_drewB {B : Nat} {w w' : World} (h : Below B w w') : Below B w w'.drew := h.drew
theorem itoaB (n : Int) (hn : In64 n) (w : World) (h : HLB w.heap.size w) : Calls Tryz.prog 19 #[.int .i64 n] w fun e w' => e = .returned (.string ⟨(Lib.itoa n).toArray⟩) ∧ Below w.heap.size w w' := by
  refine (strconv_Itoa n hn.1 hn.2 w (h w (Below.refl _ _)).tab).mono ?_
  rintro e w' ⟨rfl, k, os, rfl⟩
  exact ⟨rfl, Lib.below_grow _ _ (Nat.le_refl _) _ _⟩
theorem yes_any (b : Bool) (w : World) : Calls Tryz.prog 62 #[.bool b] w fun e w' => e = .returned (.string ⟨(yesL b).toArray⟩) ∧ w' = w := by
  cases b
  all_goals
    go_enter Tryz.func62, Tryz.ntmps62
    go_wp2_with fail
    go_ret
    exact ⟨rfl, rfl⟩
theorem thread_any (n : Int) (hn : In64 n) (w : World) (h : HLB w.heap.size w) : Calls Tryz.prog 36 #[.int .i64 n] w fun e w' => e = .returned (.string ⟨(116 :: Lib.itoa n).toArray⟩) ∧ Below w.heap.size w w' := by
  have HL : Hid (HLB _ _) := h
  have HI : Hid (In64 n) := hn
  have l1 := itoa_le hn
  clear h hn
  go_enter Tryz.func36, Tryz.ntmps36
  go_wp2_with (first | (go_at_call 19; refine (itoaB n HI.out _ HL.out).mono ?_; rintro e w1 ⟨rfl, hb1⟩; have B1 : Hid (Below _ _ _) := hb1; clear hb1))
  go_ret
  refine ⟨?_, B1.out⟩
  show Ending.returned (.string (⟨#[116]⟩ ++ ⟨(Lib.itoa n).toArray⟩)) = _
  rw [show (⟨#[116]⟩ : ByteArray) ++ ⟨(Lib.itoa n).toArray⟩ = ⟨(116 :: Lib.itoa n).toArray⟩ from ba_app [116] _]
theorem kind_any (k : Int) (w : World) : Calls Tryz.prog 45 #[.int .i64 k] w fun e w' => e = .returned (.int .i64 (if 1 ≤ k ∧ k ≤ 9 then 0 else 5)) ∧ w' = w := by
  by_cases h1 : k < 1
  · rw [if_neg (by omega)]
    go_enter Tryz.func45, Tryz.ntmps45
    go_wp2_with fail
    go_ret
    exact ⟨rfl, rfl⟩
  · have h1' : 1 ≤ k := by omega
    clear h1
    by_cases h2 : 9 < k
    · rw [if_neg (by omega)]
      go_enter Tryz.func45, Tryz.ntmps45
      go_wp2_with fail
      go_ret
      exact ⟨rfl, rfl⟩
    · rw [if_pos (by omega)]
      have h2' : k ≤ 9 := by omega
      clear h2
      go_enter Tryz.func45, Tryz.ntmps45
      go_wp2_with fail
      go_ret
      exact ⟨rfl, rfl⟩
theorem box2 {w z : World} {a b : Int} (h : Below (w.alloc (.cells #[.int .i64 a, .int .i64 b] 49)).heap.size (w.alloc (.cells #[.int .i64 a, .int .i64 b] 49)) z) : z.cell? ⟨w.heap.size, 0, none⟩ = some (.int .i64 a) ∧ z.cell? ⟨w.heap.size, 1, none⟩ = some (.int .i64 b) := by
  have hb := h.block w.heap.size (by simp)
  rw [heap_alloc_at _ _ _ rfl] at hb
  simp [World.cell?, hb]
set_option maxRecDepth 100000 in
set_option maxHeartbeats 4000000 in
theorem tellPair_any (a b : Int) (ha : In64 a) (hb : In64 b) (w : World) (h : HLB w.heap.size w) : Calls Tryz.prog 39 #[.agg #[.int .i64 a, .int .i64 b]] w fun e w' => e = .returned (.string ⟨(pairT (a, b)).toArray⟩) ∧ Below w.heap.size w w' := by
  have HL : Hid (HLB _ _) := h
  have IA : Hid (In64 a) := ha
  have IB : Hid (In64 b) := hb
  have K0 : Hid True := trivial
  clear h ha hb
  go_enter Tryz.func39, Tryz.ntmps39
  go_wp2_with fail
  have B0 : Hid (Below w.heap.size w (w.alloc (.cells #[.int .i64 a, .int .i64 b] 49))) := below_alloc _ _
  have l1 := itoa_le IA.out
  have l2 := itoa_le IB.out
  have g1 : ¬ (9223372036854775807 < (Lib.itoa a).length + 1) := by omega
  have g2 : ¬ (9223372036854775807 < (Lib.itoa a).length + 1 + (Lib.itoa b).length) := by omega
  clear l1 l2
  go_region_held3 (fun w' => w'.cell? ⟨w.heap.size, 0, none⟩ = some (.int .i64 a) ∧ w'.cell? ⟨w.heap.size, 1, none⟩ = some (.int .i64 b))
    (first | go_keep | (with_reducible exact X1.out) | (with_reducible exact X2.out))
    (first
      | (go_at_call 19; have q := K0; refine (itoaB _ (by first | exact IA.out | exact IB.out) _ (HL.out.on (by first | exact B0.out | exact below_drewB B0.out | exact below_drewB (below_drewB B0.out)))).mono ?_; rintro e z1 ⟨rfl, hb1⟩; have B1 : Hid (Below (w.alloc (.cells #[.int .i64 a, .int .i64 b] 49)).heap.size (w.alloc (.cells #[.int .i64 a, .int .i64 b] 49)) z1) := (by first | exact hb1 | exact ⟨hb1.os, hb1.tape, hb1.output, hb1.size, hb1.block⟩); have X1 : Hid (z1.cell? ⟨w.heap.size, 0, none⟩ = some (.int .i64 a) ∧ z1.cell? ⟨w.heap.size, 1, none⟩ = some (.int .i64 b)) := box2 B1.out; clear q K0 hb1)
      | (go_at_call 19; have q := B1; refine (itoaB _ (by first | exact IB.out | exact IA.out) _ (HL.out.on (by first | exact B0.out.trans (B1.out.mono (by simp)) | exact below_drewB (B0.out.trans (B1.out.mono (by simp)))))).mono ?_; rintro e z2 ⟨rfl, hb2⟩; have B2 : Hid (Below (w.alloc (.cells #[.int .i64 a, .int .i64 b] 49)).heap.size (w.alloc (.cells #[.int .i64 a, .int .i64 b] 49)) z2) := (by first | exact B1.out.trans (hb2.mono B1.out.size) | exact B1.out.trans (Below.mono ⟨hb2.os, hb2.tape, hb2.output, hb2.size, hb2.block⟩ B1.out.size)); have X2 : Hid (z2.cell? ⟨w.heap.size, 0, none⟩ = some (.int .i64 a) ∧ z2.cell? ⟨w.heap.size, 1, none⟩ = some (.int .i64 b)) := box2 B2.out; clear q B1 X1 hb2))
  all_goals
    go_wp2_with fail
    go_ret
    refine ⟨?_, B0.out.trans (B2.out.mono (by simp))⟩
    show Ending.returned (.string (⟨(Lib.itoa a).toArray⟩ ++ ⟨#[58]⟩ ++ ⟨(Lib.itoa b).toArray⟩)) = _
    rw [show (⟨(Lib.itoa a).toArray⟩ : ByteArray) ++ ⟨#[58]⟩ ++ ⟨(Lib.itoa b).toArray⟩ = ⟨(pairT (a, b)).toArray⟩ by rw [show (⟨#[58]⟩ : ByteArray) = ⟨[58].toArray⟩ from rfl, ba_app, ba_app]; simp [pairT]]
end Go.Proofs.YtknlapipkglnjaaGreatDoor
