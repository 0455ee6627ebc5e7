
/- Layer 16: the reader's key, weight and value. -/

import Derived.Test.YtegajbfefhljmaaDoorTRd2

import Derived.Deep.RegionHeld3

namespace Go.Proofs.YtegajbfefhljmaaDoor

open Go.RowKit

attribute [local go_sem ↓] Go.wp_at_zero Go.wp_at_succ

/-- A node in a block of its own. -/
def Box (w : World) (b : Nat) (d : NdD) : Prop := w.heap[b]? = some (.cells #[.int .i64 d.key, .int .i64 d.inf, .int .i64 d.wt, .int .i64 d.val, .int .i64 d.l, .int .i64 d.r] 33)
theorem Box.frozen {w : World} {b : Nat} {d : NdD} (h : Box w b d) (j : Nat) : w.frozen? ⟨b, j, none⟩ = false := by unfold Box at h; simp [World.frozen?, h]
theorem Box.lt {w : World} {b : Nat} {d : NdD} (h : Box w b d) : b < w.heap.size := (Array.getElem?_eq_some_iff.1 h).1
theorem Box.turn {S : Nat → Prop} {w w' : World} {b : Nat} {d : NdD} (h : Box w b d) (ht : Turn S w w') (hs : ¬ S b) : Box w' b d := (ht.block b h.lt hs).trans h
theorem RdAt.box_ne {w : World} {B R b : Nat} {l : List UInt8} {nv ov : Value} {N : NL} {O : List Nat} {d : NdD} (h : RdAt w B R l nv ov N O) (hb : Box w b d) : b ≠ R := blk_ne h.blk hb (by decide)
theorem RdAt.box_set {w : World} {B R b : Nat} {l : List UInt8} {nv ov : Value} {N : NL} {O : List Nat} {d : NdD} (h : RdAt w B R l nv ov N O) (hb : Box w b d) (hs : ∀ g, nv.ownBlock = some g → g ≠ b) (j : Nat) (v : Value) : RdAt (w.setCell ⟨b, j, none⟩ v) B R l nv ov N O :=
  h.turn (S := fun k => k = b) ((Turn.refl _ w).setCell b j v rfl) (fun q => h.box_ne hb q.symm) hs (fun g q r => by
    obtain ⟨c, f, h1⟩ := own_kind h.hO g q
    rw [r] at h1
    exact blk_ne h1 hb (by decide) rfl)
theorem trim_no {l p : List UInt8} (h : Lib.hasPrefix l p = false) : Lib.trimPrefix l p = l := by unfold Lib.trimPrefix; rw [h]; rfl
theorem trim_le (l p : List UInt8) : (Lib.trimPrefix l p).length ≤ l.length := by
  unfold Lib.trimPrefix
  split
  · simp
  · exact Nat.le_refl _
theorem numR_le (l : List UInt8) : (numR l).length ≤ l.length := by unfold numR; exact (List.dropWhile_sublist _).length_le

set_option maxRecDepth 100000 in
set_option maxHeartbeats 2000000 in
theorem key_any (B R b : Nat) (l : List UInt8) (nv ov : Value) (N : NL) (O : List Nat) (d : NdD) (w : World) (h : RdAt w B R l nv ov N O) (hbx : Box w b d) (hs : ∀ g, nv.ownBlock = some g → g ≠ b) (hl : l.length ≤ 8000000) (hB : B ≤ w.heap.size) (hlaid : LaidB B w) :
    Calls Tryd.prog 32 #[.pointer (some ⟨R, 0, none⟩), .pointer (some ⟨b, 0, none⟩)] w fun e w' => e = .returned (.bool (keyP l d).isSome) ∧ (∀ d' l', keyP l d = some (d', l') → RdAt w' B R l' nv ov N O ∧ Box w' b d') ∧ Turn (fun k => k = R ∨ k = b) w w' := by
  have HR : Hid (RdAt _ _ _ _ _ _ _ _) := h
  have HBX : Hid (Box _ _ _) := hbx
  have HS : Hid _ := hs
  have HL : Hid _ := hlaid
  have hbR := h.box_ne hbx
  have hlt := h.lt
  clear h hbx hs hlaid
  cases hp : Lib.hasPrefix l [105, 110, 102] with
  | true =>
    have F : Hid (keyP l d = some ({ d with inf := 1 }, Lib.trimPrefix l [105, 110, 102])) := by show keyP l d = _; unfold keyP; rw [if_pos hp]
    go_enter Tryd.func32, Tryd.ntmps32
    go_wp2_with (first | (go_at_call 31; refine (take_any B R l [105, 110, 102] nv ov N O _ HR.out).mono ?_; rintro e w1 ⟨rfl, hr1, ht1⟩; rw [hp]; have HR1 : Hid (RdAt _ _ _ _ _ _ _ _) := hr1; have HT1 : Hid (Turn _ _ _) := ht1; have BX1 : Hid (Box _ _ _) := HBX.out.turn ht1 hbR; obtain ⟨hz1, k0, k1, k2, k3, k4, k5⟩ := box_cells BX1.out; have fz := BX1.out.frozen 1; clear hr1 ht1))
    go_ret
    refine ⟨by rw [F.out]; rfl, fun d' l' he => ?_, ?_⟩
    · rw [F.out] at he
      cases he
      exact ⟨HR1.out.box_set BX1.out HS.out 1 _, by unfold Box; rw [Go.Joins.block_setCell BX1.out]; rfl⟩
    · exact (HT1.out.mono (fun k q => Or.inl q)).setCell b 1 _ (Or.inr rfl)
  | false =>
    have F : Hid (keyP l d = (numV l).map fun v => ({ d with key := v }, numR l)) := by show keyP l d = _; unfold keyP; rw [if_neg (by rw [hp]; simp)]
    go_enter Tryd.func32, Tryd.ntmps32
    go_wp2_with (first | (go_at_call 31; refine (take_any B R l [105, 110, 102] nv ov N O _ HR.out).mono ?_; rintro e w1 ⟨rfl, hr1, ht1⟩; rw [hp]; rw [trim_no hp] at hr1; have HR1 : Hid (RdAt _ _ _ _ _ _ _ _) := hr1; have HT1 : Hid (Turn _ _ _) := ht1; have BX1 : Hid (Box _ _ _) := HBX.out.turn ht1 hbR; have hz1 := ht1.size; have HBL : Hid (Below B w w1) := ht1.below (fun k q => by rw [q]; exact HR.out.lo) hB; clear hr1 ht1) | (go_at_call 38; refine (number_any B R l nv ov N O _ HR1.out hl (by omega) (LaidB.on HL.out HBL.out)).mono ?_; rintro e w2 ⟨v, rfl, hv, hr2, ht2⟩; have HV : Hid _ := hv; have HR2 : Hid (RdAt _ _ _ _ _ _ _ _) := hr2; have HT2 : Hid (Turn _ _ _) := HT1.out.trans ht2; have BX2 : Hid (Box _ _ _) := BX1.out.turn ht2 hbR; obtain ⟨hz2, k0, k1, k2, k3, k4, k5⟩ := box_cells BX2.out; have fz := BX2.out.frozen 0; clear hv hr2 ht2))
    go_ret
    refine ⟨by rw [F.out, Option.isSome_map]; rfl, fun d' l' he => ?_, ?_⟩
    · rw [F.out] at he
      obtain ⟨x, hx, he⟩ := Option.map_eq_some_iff.1 he
      cases he
      have hvx := HV.out x hx
      subst hvx
      exact ⟨HR2.out.box_set BX2.out HS.out 0 _, by unfold Box; rw [Go.Joins.block_setCell BX2.out]; rfl⟩
    · exact (HT2.out.mono (fun k q => Or.inl q)).setCell b 0 _ (Or.inr rfl)

set_option maxRecDepth 100000 in
set_option maxHeartbeats 2000000 in
theorem weight_any (B R b : Nat) (l : List UInt8) (nv ov : Value) (N : NL) (O : List Nat) (d : NdD) (w : World) (h : RdAt w B R l nv ov N O) (hbx : Box w b d) (hs : ∀ g, nv.ownBlock = some g → g ≠ b) (hl : l.length ≤ 8000000) (hB : B ≤ w.heap.size) (hlaid : LaidB B w) :
    Calls Tryd.prog 33 #[.pointer (some ⟨R, 0, none⟩), .pointer (some ⟨b, 0, none⟩)] w fun e w' => e = .returned (.bool (weightP l d).isSome) ∧ (∀ d' l', weightP l d = some (d', l') → RdAt w' B R l' nv ov N O ∧ Box w' b d') ∧ Turn (fun k => k = R ∨ k = b) w w' := by
  have HR : Hid (RdAt _ _ _ _ _ _ _ _) := h
  have HBX : Hid (Box _ _ _) := hbx
  have HS : Hid _ := hs
  have HL : Hid _ := hlaid
  have hbR := h.box_ne hbx
  have hlt := h.lt
  clear h hbx hs hlaid
  cases hn : numV l with
  | none =>
    have F : Hid (weightP l d = none) := by show weightP l d = _; unfold weightP; rw [hn]
    have HN : Hid _ := hn
    clear hn
    go_enter Tryd.func33, Tryd.ntmps33
    go_wp2_with (first | (go_at_call 38; refine (number_any B R l nv ov N O _ HR.out hl hB HL.out).mono ?_; rintro e w2 ⟨v, rfl, hv, hr2, ht2⟩; rw [HN.out]; simp only [Option.isSome_none]; have HR2 : Hid (RdAt _ _ _ _ _ _ _ _) := hr2; have HT2 : Hid (Turn _ _ _) := ht2; have BX2 : Hid (Box _ _ _) := HBX.out.turn ht2 hbR; obtain ⟨hz2, k0, k1, k2, k3, k4, k5⟩ := box_cells BX2.out; have fz := BX2.out.frozen 2; clear hv hr2 ht2))
    go_ret
    refine ⟨by rw [F.out]; rfl, fun d' l' he => ?_, ?_⟩
    · rw [F.out] at he; cases he
    · exact (HT2.out.mono (fun k q => Or.inl q)).setCell b 2 _ (Or.inr rfl)
  | some x =>
    have HN : Hid _ := hn
    by_cases hx : 0 ≤ x ∧ x ≤ 1000000
    · have F : Hid (weightP l d = some ({ d with wt := x }, numR l)) := by show weightP l d = _; unfold weightP; rw [hn]; simp only; rw [if_pos hx]
      obtain ⟨x0, x1⟩ := hx
      clear hn
      go_enter Tryd.func33, Tryd.ntmps33
      go_wp2_with (first | (go_at_call 38; refine (number_any B R l nv ov N O _ HR.out hl hB HL.out).mono ?_; rintro e w2 ⟨v, rfl, hv, hr2, ht2⟩; obtain rfl := hv x HN.out; rw [HN.out]; simp only [Option.isSome_some]; have HR2 : Hid (RdAt _ _ _ _ _ _ _ _) := hr2; have HT2 : Hid (Turn _ _ _) := ht2; have BX2 : Hid (Box _ _ _) := HBX.out.turn ht2 hbR; obtain ⟨hz2, k0, k1, k2, k3, k4, k5⟩ := box_cells BX2.out; have fz := BX2.out.frozen 2; clear hv hr2 ht2))
      go_ret
      refine ⟨by rw [F.out]; first | rfl | simp [x0, x1], fun d' l' he => ?_, ?_⟩
      · rw [F.out] at he
        cases he
        exact ⟨HR2.out.box_set BX2.out HS.out 2 _, by unfold Box; rw [Go.Joins.block_setCell BX2.out]; rfl⟩
      · exact (HT2.out.mono (fun k q => Or.inl q)).setCell b 2 _ (Or.inr rfl)
    · have F : Hid (weightP l d = none) := by show weightP l d = _; unfold weightP; rw [hn]; simp only; rw [if_neg hx]
      clear hn
      rcases (show x < 0 ∨ 0 ≤ x by omega) with x0 | x0
      · clear hx
        go_enter Tryd.func33, Tryd.ntmps33
        go_wp2_with (first | (go_at_call 38; refine (number_any B R l nv ov N O _ HR.out hl hB HL.out).mono ?_; rintro e w2 ⟨v, rfl, hv, hr2, ht2⟩; obtain rfl := hv x HN.out; rw [HN.out]; simp only [Option.isSome_some]; have HT2 : Hid (Turn _ _ _) := ht2; have BX2 : Hid (Box _ _ _) := HBX.out.turn ht2 hbR; obtain ⟨hz2, k0, k1, k2, k3, k4, k5⟩ := box_cells BX2.out; have fz := BX2.out.frozen 2; clear hv hr2 ht2))
        go_ret
        refine ⟨by rw [F.out]; rfl, fun d' l' he => ?_, ?_⟩
        · rw [F.out] at he; cases he
        · exact (HT2.out.mono (fun k q => Or.inl q)).setCell b 2 _ (Or.inr rfl)
      · have x1 : (1000000 : Int) < x := by omega
        have x2 : decide (x ≤ 1000000) = false := by simp; omega
        clear hx
        go_enter Tryd.func33, Tryd.ntmps33
        go_wp2_with (first | (go_at_call 38; refine (number_any B R l nv ov N O _ HR.out hl hB HL.out).mono ?_; rintro e w2 ⟨v, rfl, hv, hr2, ht2⟩; obtain rfl := hv x HN.out; rw [HN.out]; simp only [Option.isSome_some]; have HT2 : Hid (Turn _ _ _) := ht2; have BX2 : Hid (Box _ _ _) := HBX.out.turn ht2 hbR; obtain ⟨hz2, k0, k1, k2, k3, k4, k5⟩ := box_cells BX2.out; have fz := BX2.out.frozen 2; clear hv hr2 ht2))
        go_ret
        refine ⟨by rw [F.out]; first | rfl | simp [x2], fun d' l' he => ?_, ?_⟩
        · rw [F.out] at he; cases he
        · exact (HT2.out.mono (fun k q => Or.inl q)).setCell b 2 _ (Or.inr rfl)
end Go.Proofs.YtegajbfefhljmaaDoor
