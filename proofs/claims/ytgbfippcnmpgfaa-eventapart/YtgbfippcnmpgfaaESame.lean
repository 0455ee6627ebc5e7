
/- Layer 5: the reference's sameEvent and SameEvents; the law's are. -/

import Derived.Test.YtgbfippcnmpgfaaECallsP

namespace Go.Proofs.Ytgbfippcnmpgfaa

open Go.RowKit

attribute [local go_sem ↓] Go.wp_at_zero Go.wp_at_succ

theorem retEq_iff {a b : RetD} : retEq a b = true ↔ a = b := by
  obtain ⟨a1, a2, a3, a4⟩ := a
  obtain ⟨b1, b2, b3, b4⟩ := b
  simp [retEq, plEq]
def evEq (a b : EvD) : Bool := decide (a.th = b.th) && ((a.ret == b.ret) && (opEq a.op b.op && retEq a.rt b.rt))
theorem evEq_iff {a b : EvD} : evEq a b = true ↔ a = b := by
  obtain ⟨a1, a2, a3, a4⟩ := a
  obtain ⟨b1, b2, b3, b4⟩ := b
  simp [evEq, opEq_iff, retEq_iff]
theorem evAt_ext {a b : List EvD} (hl : a.length = b.length) (h : ∀ i, i < a.length → evAt a i = evAt b i) : a = b := by
  apply List.ext_getElem?
  intro i
  by_cases hi : i < a.length
  · have := h i hi
    unfold evAt at this
    rw [List.getD_eq_getElem?_getD, List.getD_eq_getElem?_getD, List.getElem?_eq_getElem hi, List.getElem?_eq_getElem (by omega)] at this
    rw [List.getElem?_eq_getElem hi, List.getElem?_eq_getElem (by omega)]
    exact congrArg some this
  · rw [List.getElem?_eq_none (by omega), List.getElem?_eq_none (by omega)]

set_option maxRecDepth 100000 in
set_option maxHeartbeats 1000000 in
theorem sameEvent_any (ba bb : Option Addr) (ga oa ca gb ob cb : Nat) (x y : EvD) (w : World) (ha : PairsAt w ba ga oa x.rt.pairs) (hb : PairsAt w bb gb ob y.rt.pairs) :
    Calls Try.prog 31 #[.agg #[.int .i64 x.th, .bool x.ret, .int .i64 x.op.kind, .int .i64 x.op.key, .int .i64 x.op.val, .int .i64 x.op.hi, .bool x.rt.ok, .int .i64 x.rt.key, .int .i64 x.rt.val, .slice ba x.rt.pairs.length ca], .agg #[.int .i64 y.th, .bool y.ret, .int .i64 y.op.kind, .int .i64 y.op.key, .int .i64 y.op.val, .int .i64 y.op.hi, .bool y.rt.ok, .int .i64 y.rt.key, .int .i64 y.rt.val, .slice bb y.rt.pairs.length cb]] w fun e w' => e = .returned (.bool (evEq x y)) ∧ Below w.heap.size w w' := by
  have HA : Hid _ := ha
  have HB : Hid _ := hb
  clear ha hb
  have hop := op_eql
  obtain ⟨xt, xr, xo, xx⟩ := x
  obtain ⟨yt, yr, yo, yy⟩ := y
  simp only at HA HB ⊢
  unfold evEq
  simp only
  by_cases h1 : xt = yt
  · subst h1
    by_cases h2 : (xr == yr) = true
    · cases h3 : opEq xo yo
      · go_enter Try.func31, Try.ntmps31
        go_wp2_with fail
        go_ret
        exact ⟨by simp, (below_alloc _ _).alloc (by simp) _⟩
      · go_enter Try.func31, Try.ntmps31
        go_wp2_with fail
        refine (sameRet_any ba bb ga oa ca gb ob cb xx yy _ (HA.out.below ((below_alloc _ _).alloc (by simp) _)) (HB.out.below ((below_alloc _ _).alloc (by simp) _))).mono ?_
        rintro e w1 ⟨rfl, hb⟩
        go_wp2_with fail
        go_ret
        exact ⟨by simp [h2], ((below_alloc _ _).alloc (by simp) _).trans (hb.mono (by simp; omega))⟩
    · have h4 : (xr == yr) = false := by simpa using h2
      clear h2
      go_enter Try.func31, Try.ntmps31
      go_wp2_with fail
      go_ret
      exact ⟨by simp [h4], (below_alloc _ _).alloc (by simp) _⟩
  · have h4 : (xt == yt) = false := by rw [beq_eq_false_iff_ne]; exact h1
    go_enter Try.func31, Try.ntmps31
    go_wp2_with fail
    go_ret
    exact ⟨by simp [h1], (below_alloc _ _).alloc (by simp) _⟩

set_option maxRecDepth 100000 in
set_option maxHeartbeats 2000000 in
theorem sameEvents_any (a1 a2 : Option Addr) (b1 o1 c1 b2 o2 c2 : Nat) (x y : List EvD) (pb qb : Nat → Option Addr) (pc pg po qc qg qo : Nat → Nat) (w : World) (hx : EvsAt w a1 b1 o1 x pb pc pg po) (hy : EvsAt w a2 b2 o2 y qb qc qg qo) :
    Calls Try.prog 11 #[.slice a1 x.length c1, .slice a2 y.length c2] w fun e w' => ∃ r, e = .returned (.bool r) ∧ Below w.heap.size w w' ∧ (r = true ↔ x = y) := by
  have lx := hx.len
  have ly := hy.len
  unfold maxLen at lx ly
  have HX : Hid _ := hx
  have HY : Hid _ := hy
  clear hx hy
  by_cases hl : x.length = y.length
  · have hd : ((x.length : Int) != (y.length : Int)) = false := by simp [hl]
    have HL : Hid _ := hl
    clear hl
    go_enter Try.func11, Try.ntmps11
    go_wp2_with fail
    go_loopw [5] (fun i wr => ∃ j : Nat, j ≤ x.length ∧ i = .int .i64 j ∧ (∀ k, k < j → evAt x k = evAt y k) ∧ Below w.heap.size w wr) (fun i _ => x.length - (intOf i).toNat)
    case atStart => exact ⟨0, Nat.zero_le _, rfl, fun k hk => by omega, Below.refl _ _⟩
    case round =>
      obtain ⟨j, hj, rfl, hall, hbw⟩ := hrel
      have HAL : Hid _ := hall
      have HW : Hid _ := hbw
      clear hall
      by_cases hlt : j < x.length
      · have hlb : j < y.length := by have := HL.out; omega
        obtain rfl : a1 = some ⟨b1, o1, none⟩ := HX.out.base (by omega)
        obtain rfl : a2 = some ⟨b2, o2, none⟩ := HY.out.base (by omega)
        have EX := HX.out.below hbw
        have EY := HY.out.below hbw
        have zx : b1 < wr.heap.size := EX.lt (by omega)
        have zy : b2 < wr.heap.size := EY.lt (by omega)
        obtain ⟨d0, d1⟩ := EX.c0 j hlt
        obtain ⟨d2, d3, d4, d5⟩ := EX.c1 j hlt
        obtain ⟨d6, d7, d8, d9⟩ := EX.c2 j hlt
        obtain ⟨e0, e1⟩ := EY.c0 j hlb
        obtain ⟨e2, e3, e4, e5⟩ := EY.c1 j hlb
        obtain ⟨e6, e7, e8, e9⟩ := EY.c2 j hlb
        have y0 := BelowBy.cell zx d0
        have y1 := BelowBy.cell zx d1
        have y2 := BelowBy.cell zx d2
        have y3 := BelowBy.cell zx d3
        have y4 := BelowBy.cell zx d4
        have y5 := BelowBy.cell zx d5
        have y6 := BelowBy.cell zx d6
        have y7 := BelowBy.cell zx d7
        have y8 := BelowBy.cell zx d8
        have y9 := BelowBy.cell zx d9
        have z0 := BelowBy.cell zy e0
        have z1 := BelowBy.cell zy e1
        have z2 := BelowBy.cell zy e2
        have z3 := BelowBy.cell zy e3
        have z4 := BelowBy.cell zy e4
        have z5 := BelowBy.cell zy e5
        have z6 := BelowBy.cell zy e6
        have z7 := BelowBy.cell zy e7
        have z8 := BelowBy.cell zy e8
        have z9 := BelowBy.cell zy e9
        have SE : Hid (∀ p : BelowBy wr, Calls Try.prog 31 #[.agg #[.int .i64 (evAt x j).th, .bool (evAt x j).ret, .int .i64 (evAt x j).op.kind, .int .i64 (evAt x j).op.key, .int .i64 (evAt x j).op.val, .int .i64 (evAt x j).op.hi, .bool (evAt x j).rt.ok, .int .i64 (evAt x j).rt.key, .int .i64 (evAt x j).rt.val, .slice (pb j) (evAt x j).rt.pairs.length (pc j)], .agg #[.int .i64 (evAt y j).th, .bool (evAt y j).ret, .int .i64 (evAt y j).op.kind, .int .i64 (evAt y j).op.key, .int .i64 (evAt y j).op.val, .int .i64 (evAt y j).op.hi, .bool (evAt y j).rt.ok, .int .i64 (evAt y j).rt.key, .int .i64 (evAt y j).rt.val, .slice (qb j) (evAt y j).rt.pairs.length (qc j)]] p.W fun e w' => e = .returned (.bool (evEq (evAt x j) (evAt y j))) ∧ Below p.W.heap.size p.W w') := fun p => sameEvent_any (pb j) (qb j) (pg j) (po j) (pc j) (qg j) (qo j) (qc j) (evAt x j) (evAt y j) _ ((EX.prs j hlt).1.below p.h) ((EY.prs j hlb).1.below p.h)
        have j0 : (0 : Int) ≤ (j : Int) := Int.natCast_nonneg _
        have j1 : (j : Int) < (x.length : Int) := by omega
        have j2 : (j : Int) < (y.length : Int) := by omega
        clear EX EY hbw d0 d1 d2 d3 d4 d5 d6 d7 d8 d9 e0 e1 e2 e3 e4 e5 e6 e7 e8 e9
        go_wp2_with fail
        refine wp_region_below (by kernel_rfl) (by kernel_rfl) ?_
        repeat (go_big_quiet_step ((go_at_call 31; exact below_call (SE.out _))))
        refine wpQuiet_nil ?_
        rintro _ ⟨p, rfl⟩
        have PB : Hid (Below wr.heap.size wr p.W) := p.h
        clear y0 y1 y2 y3 y4 y5 y6 y7 y8 y9 z0 z1 z2 z3 z4 z5 z6 z7 z8 z9
        cases hq : evEq (evAt x j) (evAt y j)
        · have BAD : Hid (¬ x = y) := by
            intro e
            rw [e, evEq_iff.2 rfl] at hq
            cases hq
          go_wp2_with fail
          go_ret
          exact ⟨false, rfl, HW.out.trans (PB.out.mono HW.out.size), ⟨(fun h => by cases h), fun h => absurd h BAD.out⟩⟩
        · have HQ : Hid _ := evEq_iff.1 hq
          go_wp2_with fail
          refine ⟨⟨j + 1, by omega, by go_num, fun k hk => ?_, HW.out.trans (PB.out.mono HW.out.size)⟩, by simp [intOf]; omega⟩
          by_cases e : k = j
          · subst e; exact HQ.out
          · exact HAL.out k (by omega)
      · have OK : Hid (x = y) := evAt_ext HL.out (fun i hi => HAL.out i (by omega))
        clear hbw
        go_wp2_with fail
        go_ret
        exact ⟨true, rfl, HW.out, ⟨fun _ => OK.out, fun _ => rfl⟩⟩
  · have hd : ((x.length : Int) != (y.length : Int)) = true := by simp; omega
    have BAD : Hid (¬ x = y) := fun e => hl (by rw [e])
    clear hl
    go_enter Try.func11, Try.ntmps11
    go_wp2_with fail
    go_ret
    exact ⟨false, rfl, Below.refl _ _, ⟨(fun h => by cases h), fun h => absurd h BAD.out⟩⟩
end Go.Proofs.Ytgbfippcnmpgfaa
