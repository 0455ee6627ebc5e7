
/- Layer 28: the document's word, PrintOp, pair. -/

import Derived.Test.YtknlapipkglnjaaGreatDoorHNum

import Derived.Deep.RegionHeld3

namespace Go.Proofs.YtknlapipkglnjaaGreatDoor

open Go.RowKit

attribute [local go_sem ↓] Go.wp_at_zero Go.wp_at_succ

def cntL (k : Int) : Int := if k = 1 ∨ k = 4 ∨ k = 5 ∨ k = 6 then 1 else if k = 2 ∨ k = 3 ∨ k = 9 then 2 else 0
set_option maxRecDepth 100000 in
set_option maxHeartbeats 4000000 in
theorem word_any (k : Int) (w : World) : Calls Tryz.prog 49 #[.int .i64 k] w fun e w' => e = .returned (.tuple #[.string ⟨(wordL k).toArray⟩, .int .i64 (cntL k)]) ∧ w' = w := by
  by_cases h : 1 ≤ k ∧ k ≤ 9
  · rcases (by omega : k = 1 ∨ k = 2 ∨ k = 3 ∨ k = 4 ∨ k = 5 ∨ k = 6 ∨ k = 7 ∨ k = 8 ∨ k = 9) with rfl | rfl | rfl | rfl | rfl | rfl | rfl | rfl | rfl
    all_goals
      clear h
      go_enter Tryz.func49, Tryz.ntmps49
      go_wp2_with fail
      go_ret2
      exact ⟨rfl, rfl⟩
  · have e1 : (k == 1) = false := by simp; omega
    have e2 : (k == 2) = false := by simp; omega
    have e3 : (k == 3) = false := by simp; omega
    have e4 : (k == 4) = false := by simp; omega
    have e5 : (k == 5) = false := by simp; omega
    have e6 : (k == 6) = false := by simp; omega
    have e7 : (k == 7) = false := by simp; omega
    have e8 : (k == 8) = false := by simp; omega
    have e9 : (k == 9) = false := by simp; omega
    have HW : Hid (wordL k = []) := by
      show wordL k = []
      unfold wordL
      rw [if_neg (by omega), if_neg (by omega), if_neg (by omega), if_neg (by omega), if_neg (by omega), if_neg (by omega), if_neg (by omega), if_neg (by omega), if_neg (by omega)]
    have HC : Hid (cntL k = 0) := by
      show cntL k = 0
      unfold cntL
      rw [if_neg (by omega), if_neg (by omega)]
    clear h
    go_enter Tryz.func49, Tryz.ntmps49
    go_wp2_with fail
    go_ret2
    rw [HW.out, HC.out]
    exact ⟨rfl, rfl⟩
theorem rbox2 {w z : World} {a b : Int} (h : Below (w.alloc (.cells #[.int .i64 a, .int .i64 b] 49)).heap.size (w.alloc (.cells #[.int .i64 a, .int .i64 b] 49)) z) : z.cell? ⟨w.heap.size, 0, none⟩ = some (.int .i64 a) ∧ z.cell? ⟨w.heap.size, 1, none⟩ = some (.int .i64 b) := by
  have hb := h.block w.heap.size (by simp)
  rw [heap_alloc_at _ _ _ rfl] at hb
  simp [World.cell?, hb]
theorem rbox4 {w z : World} {a b c d : Int} {t : TypeId} (h : Below (w.alloc (.cells #[.int .i64 a, .int .i64 b, .int .i64 c, .int .i64 d] t)).heap.size (w.alloc (.cells #[.int .i64 a, .int .i64 b, .int .i64 c, .int .i64 d] t)) z) : z.cell? ⟨w.heap.size, 0, none⟩ = some (.int .i64 a) ∧ z.cell? ⟨w.heap.size, 1, none⟩ = some (.int .i64 b) ∧ z.cell? ⟨w.heap.size, 2, none⟩ = some (.int .i64 c) ∧ z.cell? ⟨w.heap.size, 3, none⟩ = some (.int .i64 d) := by
  have hb := h.block w.heap.size (by simp)
  rw [heap_alloc_at _ _ _ rfl] at hb
  simp [World.cell?, hb]
theorem wordL_nil (k : Int) : (wordL k = [] ↔ ¬ (1 ≤ k ∧ k ≤ 9)) := by
  unfold wordL
  constructor
  · intro h hk
    rcases (by omega : k = 1 ∨ k = 2 ∨ k = 3 ∨ k = 4 ∨ k = 5 ∨ k = 6 ∨ k = 7 ∨ k = 8 ∨ k = 9) with rfl | rfl | rfl | rfl | rfl | rfl | rfl | rfl | rfl <;> simp at h
  · intro h
    rw [if_neg (by omega), if_neg (by omega), if_neg (by omega), if_neg (by omega), if_neg (by omega), if_neg (by omega), if_neg (by omega), if_neg (by omega), if_neg (by omega)]
/-- The reference's line, by the kind's word and its count. -/
theorem opL_zero {o : OpD} (h : o.kind = 7 ∨ o.kind = 8) : opL o = wordL o.kind ∧ cntL o.kind = 0 := by
  rcases h with h | h <;> simp [opL, wordL, numsL, sayL, cntL, h]
theorem opL_one {o : OpD} (h : o.kind = 1 ∨ o.kind = 4 ∨ o.kind = 5 ∨ o.kind = 6) : opL o = wordL o.kind ++ 32 :: Lib.itoa o.key ∧ cntL o.kind = 1 := by
  rcases h with h | h | h | h <;> simp [opL, wordL, numsL, sayL, cntL, h]
theorem opL_two {o : OpD} (h : o.kind = 2 ∨ o.kind = 3) : opL o = wordL o.kind ++ 32 :: Lib.itoa o.key ++ 32 :: Lib.itoa o.val ∧ cntL o.kind = 2 := by
  rcases h with h | h <;> simp [opL, wordL, numsL, sayL, cntL, h]
theorem opL_nine {o : OpD} (h : o.kind = 9) : opL o = wordL o.kind ++ 32 :: Lib.itoa o.key ++ 32 :: Lib.itoa o.hi ∧ cntL o.kind = 2 := by
  simp [opL, wordL, numsL, sayL, cntL, h]
theorem rword_len (k : Int) : (wordL k).length ≤ 8 := by
  unfold wordL
  repeat' split
  all_goals simp
theorem ret_str {a b : ByteArray} (h : a = b) : Ending.returned (.string a) = Ending.returned (.string b) := by rw [h]
theorem ba2 (a b : List UInt8) : (⟨a.toArray⟩ : ByteArray) ++ (⟨#[32]⟩ ++ ⟨b.toArray⟩) = ⟨(a ++ 32 :: b).toArray⟩ := by
  rw [show (⟨#[32]⟩ : ByteArray) = ⟨[32].toArray⟩ from rfl, ba_app, ba_app]
  rfl
theorem ba3 (a b : List UInt8) : (⟨a.toArray⟩ : ByteArray) ++ ⟨#[32]⟩ ++ ⟨b.toArray⟩ = ⟨(a ++ 32 :: b).toArray⟩ := by
  rw [show (⟨#[32]⟩ : ByteArray) = ⟨[32].toArray⟩ from rfl, ba_app, ba_app]
  simp
set_option maxRecDepth 100000 in
set_option maxHeartbeats 4000000 in
theorem rPrintOp_any (o : OpD) (hin : OpIn o) (w : World) :
    Calls Tryz.prog 24 #[.agg #[.int .i64 o.kind, .int .i64 o.key, .int .i64 o.val, .int .i64 o.hi]] w fun e w' => e = .returned (.string ⟨(opL o).toArray⟩) ∧ Below w.heap.size w w' := by
  have HI : Hid (OpIn o) := hin
  have l1 := itoa_le hin.2.1
  have l2 := itoa_le hin.2.2.1
  have l3 := itoa_le hin.2.2.2
  have wl := rword_len o.kind
  clear hin
  have B0 : Hid (Below (w.alloc (.cells #[.int .i64 o.kind, .int .i64 o.key, .int .i64 o.val, .int .i64 o.hi] 39)).heap.size (w.alloc (.cells #[.int .i64 o.kind, .int .i64 o.key, .int .i64 o.val, .int .i64 o.hi] 39)) (w.alloc (.cells #[.int .i64 o.kind, .int .i64 o.key, .int .i64 o.val, .int .i64 o.hi] 39))) := Below.refl _ _
  by_cases hk : 1 ≤ o.kind ∧ o.kind ≤ 9
  · obtain ⟨X, hX⟩ : ∃ X, wordL o.kind = X := ⟨_, rfl⟩
    have HX : Hid (wordL o.kind = X) := hX
    have hne : (X == []) = false := by
      have := fun h => (wordL_nil o.kind).1 h hk
      rw [hX] at this
      simpa using this
    rw [hX] at wl
    clear hX
    rcases (by omega : (o.kind = 7 ∨ o.kind = 8) ∨ (o.kind = 1 ∨ o.kind = 4 ∨ o.kind = 5 ∨ o.kind = 6) ∨ (o.kind = 2 ∨ o.kind = 3) ∨ o.kind = 9) with h | h | h | h
    · have HE : Hid _ := opL_zero h
      have k9 : (o.kind == 9) = false := by simp; omega
      clear h hk
      go_enter Tryz.func24, Tryz.ntmps24
      go_wp2_with (first | (go_at_call 49; refine (word_any _ _).mono ?_; rintro e w1 ⟨rfl, rfl⟩; rw [HE.out.2, HX.out]))
      go_ret
      rw [HE.out.1, HX.out]
      exact ⟨rfl, (below_alloc _ _).trans (B0.out.mono (by simp))⟩
    · have HE : Hid _ := opL_one h
      have k9 : (o.kind == 9) = false := by simp; omega
      clear h hk
      go_enter Tryz.func24, Tryz.ntmps24
      go_wp2_with (first | (go_at_call 49; refine (word_any _ _).mono ?_; rintro e w1 ⟨rfl, rfl⟩; rw [HE.out.2, HX.out]) | (go_at_call 23; have q := B0; refine (number_any _ HI.out.2.1 _).mono ?_; rintro e z1 ⟨rfl, hb1⟩; have B1 : Hid (Below (w.alloc (.cells #[.int .i64 o.kind, .int .i64 o.key, .int .i64 o.val, .int .i64 o.hi] 39)).heap.size (w.alloc (.cells #[.int .i64 o.kind, .int .i64 o.key, .int .i64 o.val, .int .i64 o.hi] 39)) z1) := hb1; obtain ⟨c0, c1, c2, c3⟩ := rbox4 B1.out; clear q B0 hb1))
      go_ret
      rw [HE.out.1, HX.out]
      exact ⟨ret_str (ba2 _ _), (below_alloc _ _).trans (B1.out.mono (by simp))⟩
    · have HE : Hid _ := opL_two h
      have k9 : (o.kind == 9) = false := by simp; omega
      clear h hk
      go_enter Tryz.func24, Tryz.ntmps24
      go_wp2_with (first | (go_at_call 49; refine (word_any _ _).mono ?_; rintro e w1 ⟨rfl, rfl⟩; rw [HE.out.2, HX.out]) | (go_at_call 23; have q := B0; refine (number_any _ HI.out.2.1 _).mono ?_; rintro e z1 ⟨rfl, hb1⟩; have B1 : Hid (Below (w.alloc (.cells #[.int .i64 o.kind, .int .i64 o.key, .int .i64 o.val, .int .i64 o.hi] 39)).heap.size (w.alloc (.cells #[.int .i64 o.kind, .int .i64 o.key, .int .i64 o.val, .int .i64 o.hi] 39)) z1) := hb1; obtain ⟨c0, c1, c2, c3⟩ := rbox4 B1.out; clear q B0 hb1) | (go_at_call 23; have q := B1; refine (number_any _ HI.out.2.2.1 _).mono ?_; rintro e z2 ⟨rfl, hb2⟩; have B2 : Hid (Below (w.alloc (.cells #[.int .i64 o.kind, .int .i64 o.key, .int .i64 o.val, .int .i64 o.hi] 39)).heap.size (w.alloc (.cells #[.int .i64 o.kind, .int .i64 o.key, .int .i64 o.val, .int .i64 o.hi] 39)) z2) := B1.out.trans (hb2.mono B1.out.size); clear q B1 hb2))
      go_ret
      rw [HE.out.1, HX.out]
      exact ⟨ret_str (by rw [ba2, ba3]), (below_alloc _ _).trans (B2.out.mono (by simp))⟩
    · have HE : Hid _ := opL_nine h
      have k9 : (o.kind == 9) = true := by simp; omega
      clear h hk
      go_enter Tryz.func24, Tryz.ntmps24
      go_wp2_with (first | (go_at_call 49; refine (word_any _ _).mono ?_; rintro e w1 ⟨rfl, rfl⟩; rw [HE.out.2, HX.out]) | (go_at_call 23; have q := B0; refine (number_any _ HI.out.2.1 _).mono ?_; rintro e z1 ⟨rfl, hb1⟩; have B1 : Hid (Below (w.alloc (.cells #[.int .i64 o.kind, .int .i64 o.key, .int .i64 o.val, .int .i64 o.hi] 39)).heap.size (w.alloc (.cells #[.int .i64 o.kind, .int .i64 o.key, .int .i64 o.val, .int .i64 o.hi] 39)) z1) := hb1; obtain ⟨c0, c1, c2, c3⟩ := rbox4 B1.out; clear q B0 hb1) | (go_at_call 23; have q := B1; refine (number_any _ HI.out.2.2.2 _).mono ?_; rintro e z2 ⟨rfl, hb2⟩; have B2 : Hid (Below (w.alloc (.cells #[.int .i64 o.kind, .int .i64 o.key, .int .i64 o.val, .int .i64 o.hi] 39)).heap.size (w.alloc (.cells #[.int .i64 o.kind, .int .i64 o.key, .int .i64 o.val, .int .i64 o.hi] 39)) z2) := B1.out.trans (hb2.mono B1.out.size); clear q B1 hb2))
      go_ret
      rw [HE.out.1, HX.out]
      exact ⟨ret_str (by rw [ba2, ba3]), (below_alloc _ _).trans (B2.out.mono (by simp))⟩
  · have HE : Hid (opL o = [] ∧ wordL o.kind = []) := ⟨by unfold opL; rw [if_neg hk], (wordL_nil _).2 hk⟩
    clear hk
    go_enter Tryz.func24, Tryz.ntmps24
    go_wp2_with (first | (go_at_call 49; refine (word_any _ _).mono ?_; rintro e w1 ⟨rfl, rfl⟩; rw [HE.out.2]))
    go_ret
    rw [HE.out.1]
    exact ⟨rfl, below_alloc _ _⟩
end Go.Proofs.YtknlapipkglnjaaGreatDoor
