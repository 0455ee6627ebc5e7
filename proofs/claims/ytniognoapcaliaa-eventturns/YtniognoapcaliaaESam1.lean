/- Layer 5: the program's isSameRet, isSameEvent; slices.EqualFunc at events. -/
import Derived.Test.YtniognoapcaliaaERParts
namespace Go.Proofs.Ytniognoapcaliaa
open Go.RowKit
attribute [local go_sem ↓] Go.wp_at_zero Go.wp_at_succ

set_option maxRecDepth 100000 in
set_option maxHeartbeats 1000000 in
theorem equalP_any (ba bb : Option Addr) (ga oa ca gb ob cb : Nat) (a b : PL) (w : World) (ha : PairsAt w ba ga oa a) (hb : PairsAt w bb gb ob b) :
    Calls Try.prog 110 #[.slice ba a.length ca, .slice bb b.length cb] w fun e w' => e = .returned (.bool (plEq a b)) ∧ Below w.heap.size w w' := by
  have la := ha.len
  have lb := hb.len
  unfold maxLen at la lb
  have HA : Hid _ := ha
  have HB : Hid _ := hb
  clear ha hb
  have hpn := pair_neq
  by_cases hl : a.length = b.length
  · have hd : ((a.length : Int) != (b.length : Int)) = false := by simp [hl]
    have HL : Hid _ := hl
    clear hl
    go_enter Try.func110, Try.ntmps110
    go_wp2_with fail
    go_loopw [13] (fun i wr => ∃ j : Nat, j ≤ a.length ∧ i = .int .i64 j ∧ (∀ k, k < j → keyAt a k = keyAt b k ∧ valAt a k = valAt b k) ∧ Below w.heap.size w wr) (fun i _ => a.length - (intOf i).toNat)
    case atStart => exact ⟨0, Nat.zero_le _, rfl, fun k hk => by omega, Below.refl _ _⟩
    case round =>
      obtain ⟨j, hj, rfl, hall, hbw⟩ := hrel
      have HAL : Hid _ := hall
      clear hall
      by_cases hlt : j < a.length
      · have hlb : j < b.length := by have := HL.out; omega
        obtain rfl : ba = some ⟨ga, oa, none⟩ := HA.out.base (by omega)
        obtain rfl : bb = some ⟨gb, ob, none⟩ := HB.out.base (by omega)
        obtain ⟨c0, c1⟩ := (HA.out.below hbw).cells j hlt
        obtain ⟨c2, c3⟩ := (HB.out.below hbw).cells j hlb
        have j0 : (0 : Int) ≤ (j : Int) := Int.natCast_nonneg _
        have j1 : (j : Int) < (a.length : Int) := by omega
        have j2 : (j : Int) < (b.length : Int) := by omega
        by_cases hq : keyAt a j = keyAt b j ∧ valAt a j = valAt b j
        · have hx : (decide (keyAt a j = keyAt b j) && decide (valAt a j = valAt b j)) = true := by simp [hq.1, hq.2]
          have HQ : Hid _ := hq
          clear hq
          go_wp2_with fail
          go_quiet (fail)
          go_wp2_with fail
          refine ⟨⟨j + 1, by omega, by go_num, fun k hk => ?_, below_drewN hbw _⟩, by simp [intOf]; omega⟩
          by_cases e : k = j
          · subst e; exact HQ.out
          · exact HAL.out k (by omega)
        · have hx : (decide (keyAt a j = keyAt b j) && decide (valAt a j = valAt b j)) = false := by simp; intro h1 h2; exact hq ⟨h1, h2⟩
          have F : Hid (plEq a b = false) := by
            show plEq a b = false
            unfold plEq
            simp only [decide_eq_false_iff_not]
            intro h
            exact hq (by rw [h]; exact ⟨rfl, rfl⟩)
          clear hq
          go_wp2_with fail
          go_quiet (fail)
          go_wp2_with fail
          go_ret
          exact ⟨by rw [F.out]; rfl, below_drewN hbw _⟩
      · have F : Hid (plEq a b = true) := by
          show plEq a b = true
          unfold plEq
          simp only [decide_eq_true_eq]
          exact pl_ext HL.out (fun i hi => HAL.out i (by omega))
        go_wp2_with fail
        go_ret
        exact ⟨by rw [F.out]; rfl, hbw⟩
  · have hd : ((a.length : Int) != (b.length : Int)) = true := by simp; omega
    have F : Hid (plEq a b = false) := by
      show plEq a b = false
      unfold plEq
      simp only [decide_eq_false_iff_not]
      intro h
      exact hl (by rw [h])
    clear hl
    go_enter Try.func110, Try.ntmps110
    go_wp2_with fail
    go_ret
    exact ⟨by rw [F.out]; rfl, Below.refl _ _⟩



set_option maxRecDepth 100000 in
set_option maxHeartbeats 1000000 in
theorem isRet_any (ba bb : Option Addr) (ga oa ca gb ob cb : Nat) (a b : RetD) (w : World) (ha : PairsAt w ba ga oa a.pairs) (hb : PairsAt w bb gb ob b.pairs) :
    Calls Try.prog 96 #[.agg #[.bool a.ok, .int .i64 a.key, .int .i64 a.val, .slice ba a.pairs.length ca], .agg #[.bool b.ok, .int .i64 b.key, .int .i64 b.val, .slice bb b.pairs.length cb]] w fun e w' => e = .returned (.bool (retEq a b)) ∧ Below w.heap.size w w' := by
  have HA : Hid _ := ha
  have HB : Hid _ := hb
  clear ha hb
  obtain ⟨ok, key, val, ps⟩ := a
  obtain ⟨ok', key', val', ps'⟩ := b
  unfold retEq
  simp only at HA HB ⊢
  by_cases h1 : (ok == ok') = true
  · by_cases h2 : key = key'
    · by_cases h3 : val = val'
      · subst h2 h3
        go_enter Try.func96, Try.ntmps96
        go_wp2_with fail
        refine (equalP_any _ _ ga oa _ gb ob _ ps ps' _ (HA.out.below ((below_alloc _ _).alloc (by simp) _)) (HB.out.below ((below_alloc _ _).alloc (by simp) _))).mono ?_
        rintro e w1 ⟨rfl, hb⟩
        go_wp2_with fail
        go_ret
        exact ⟨by simp [h1], ((below_alloc _ _).alloc (by simp) _).trans (hb.mono (by simp; omega))⟩
      · have h4 : (val == val') = false := by rw [beq_eq_false_iff_ne]; exact h3
        subst h2
        go_enter Try.func96, Try.ntmps96
        go_wp2_with fail
        go_ret
        exact ⟨by simp [h3], (below_alloc _ _).alloc (by simp) _⟩
    · have h4 : (key == key') = false := by rw [beq_eq_false_iff_ne]; exact h2
      go_enter Try.func96, Try.ntmps96
      go_wp2_with fail
      go_ret
      exact ⟨by simp [h2], (below_alloc _ _).alloc (by simp) _⟩
  · have h4 : (ok == ok') = false := by simpa using h1
    clear h1
    go_enter Try.func96, Try.ntmps96
    go_wp2_with fail
    go_ret
    exact ⟨by simp [h4], (below_alloc _ _).alloc (by simp) _⟩

set_option maxRecDepth 100000 in
set_option maxHeartbeats 1000000 in
theorem isEv_any (ba bb : Option Addr) (ga oa ca gb ob cb : Nat) (x y : EvD) (w : World) (ha : PairsAt w ba ga oa x.rt.pairs) (hb : PairsAt w bb gb ob y.rt.pairs) :
    Calls Try.prog 71 #[.agg #[.int .i64 x.th, .bool x.ret, .int .i64 x.op.kind, .int .i64 x.op.key, .int .i64 x.op.val, .int .i64 x.op.hi, .bool x.rt.ok, .int .i64 x.rt.key, .int .i64 x.rt.val, .slice ba x.rt.pairs.length ca], .agg #[.int .i64 y.th, .bool y.ret, .int .i64 y.op.kind, .int .i64 y.op.key, .int .i64 y.op.val, .int .i64 y.op.hi, .bool y.rt.ok, .int .i64 y.rt.key, .int .i64 y.rt.val, .slice bb y.rt.pairs.length cb]] w fun e w' => e = .returned (.bool (evEq x y)) ∧ Below w.heap.size w w' := by
  have HA : Hid _ := ha
  have HB : Hid _ := hb
  clear ha hb
  have hop := op_eql
  obtain ⟨xt, xr, xo, xx⟩ := x
  obtain ⟨yt, yr, yo, yy⟩ := y
  simp only at HA HB ⊢
  unfold evEq
  simp only
  by_cases h1 : xt = yt
  · subst h1
    by_cases h2 : (xr == yr) = true
    · cases h3 : opEq xo yo
      · go_enter Try.func71, Try.ntmps71
        go_wp2_with fail
        go_ret
        exact ⟨by simp, (below_alloc _ _).alloc (by simp) _⟩
      · go_enter Try.func71, Try.ntmps71
        go_wp2_with fail
        refine (isRet_any ba bb ga oa ca gb ob cb xx yy _ (HA.out.below ((below_alloc _ _).alloc (by simp) _)) (HB.out.below ((below_alloc _ _).alloc (by simp) _))).mono ?_
        rintro e w1 ⟨rfl, hb⟩
        go_wp2_with fail
        go_ret
        exact ⟨by simp [h2], ((below_alloc _ _).alloc (by simp) _).trans (hb.mono (by simp; omega))⟩
    · have h4 : (xr == yr) = false := by simpa using h2
      clear h2
      go_enter Try.func71, Try.ntmps71
      go_wp2_with fail
      go_ret
      exact ⟨by simp [h4], (below_alloc _ _).alloc (by simp) _⟩
  · have h4 : (xt == yt) = false := by rw [beq_eq_false_iff_ne]; exact h1
    go_enter Try.func71, Try.ntmps71
    go_wp2_with fail
    go_ret
    exact ⟨by simp [h1], (below_alloc _ _).alloc (by simp) _⟩


set_option maxRecDepth 100000 in
set_option maxHeartbeats 2000000 in
theorem equalEvs_any (a1 a2 : Option Addr) (b1 o1 c1 b2 o2 c2 : Nat) (x y : List EvD) (pb qb : Nat → Option Addr) (pc pg po qc qg qo : Nat → Nat) (w : World) (hx : EvsAt w a1 b1 o1 x pb pc pg po) (hy : EvsAt w a2 b2 o2 y qb qc qg qo) :
    Calls Try.prog 69 #[.slice a1 x.length c1, .slice a2 y.length c2, .func (.func 71) #[] #[]] w fun e w' => ∃ r, e = .returned (.bool r) ∧ Below w.heap.size w w' ∧ (r = true ↔ x = y) := by
  have lx := hx.len
  have ly := hy.len
  unfold maxLen at lx ly
  have HX : Hid _ := hx
  have HY : Hid _ := hy
  clear hx hy
  by_cases hl : x.length = y.length
  · have hd : ((x.length : Int) != (y.length : Int)) = false := by simp [hl]
    have HL : Hid _ := hl
    clear hl
    go_enter Try.func69, Try.ntmps69
    go_wp2_with fail
    go_loopw [17] (fun i wr => ∃ j : Nat, j ≤ x.length ∧ i = .int .i64 j ∧ (∀ k, k < j → evAt x k = evAt y k) ∧ Below w.heap.size w wr) (fun i _ => x.length - (intOf i).toNat)
    case atStart => exact ⟨0, Nat.zero_le _, rfl, fun k hk => by omega, Below.refl _ _⟩
    case round =>
      obtain ⟨j, hj, rfl, hall, hbw⟩ := hrel
      have HAL : Hid _ := hall
      have HW : Hid _ := hbw
      clear hall
      by_cases hlt : j < x.length
      · have hlb : j < y.length := by have := HL.out; omega
        obtain rfl : a1 = some ⟨b1, o1, none⟩ := HX.out.base (by omega)
        obtain rfl : a2 = some ⟨b2, o2, none⟩ := HY.out.base (by omega)
        have EX := HX.out.below hbw
        have EY := HY.out.below hbw
        have zx : b1 < wr.heap.size := EX.lt (by omega)
        have zy : b2 < wr.heap.size := EY.lt (by omega)
        obtain ⟨d0, d1⟩ := EX.c0 j hlt
        obtain ⟨d2, d3, d4, d5⟩ := EX.c1 j hlt
        obtain ⟨d6, d7, d8, d9⟩ := EX.c2 j hlt
        obtain ⟨e0, e1⟩ := EY.c0 j hlb
        obtain ⟨e2, e3, e4, e5⟩ := EY.c1 j hlb
        obtain ⟨e6, e7, e8, e9⟩ := EY.c2 j hlb
        have PX : Hid _ := EX.prs j hlt
        have PY : Hid _ := EY.prs j hlb
        have j0 : (0 : Int) ≤ (j : Int) := Int.natCast_nonneg _
        have j1 : (j : Int) < (x.length : Int) := by omega
        have j2 : (j : Int) < (y.length : Int) := by omega
        clear EX EY hbw
        go_wp2_with fail
        refine (isEv_any (pb j) (qb j) (pg j) (po j) (pc j) (qg j) (qo j) (qc j) (evAt x j) (evAt y j) _ (PX.out.1.below ((below_alloc _ _).alloc (by simp) _)) (PY.out.1.below ((below_alloc _ _).alloc (by simp) _))).mono ?_
        rintro e w2 ⟨rfl, hb2⟩
        have B2 : Hid (Below w.heap.size w w2) := ((HW.out.alloc HW.out.size _).alloc (by have := HW.out.size; simp; omega) _).trans (hb2.mono (by have := HW.out.size; simp; omega))
        clear hb2 d0 d1 d2 d3 d4 d5 d6 d7 d8 d9 e0 e1 e2 e3 e4 e5 e6 e7 e8 e9
        cases hq : evEq (evAt x j) (evAt y j)
        · have BAD : Hid (¬ x = y) := by
            intro e
            rw [e, evEq_iff.2 rfl] at hq
            cases hq
          go_wp2_with fail
          go_ret
          exact ⟨false, rfl, B2.out, ⟨(fun h => by cases h), fun h => absurd h BAD.out⟩⟩
        · have HQ : Hid _ := evEq_iff.1 hq
          go_wp2_with fail
          refine ⟨⟨j + 1, by omega, by go_num, fun k hk => ?_, B2.out⟩, by simp [intOf]; omega⟩
          by_cases e : k = j
          · subst e; exact HQ.out
          · exact HAL.out k (by omega)
      · have OK : Hid (x = y) := evAt_ext HL.out (fun i hi => HAL.out i (by omega))
        clear hbw
        go_wp2_with fail
        go_ret
        exact ⟨true, rfl, HW.out, ⟨fun _ => OK.out, fun _ => rfl⟩⟩
  · have hd : ((x.length : Int) != (y.length : Int)) = true := by simp; omega
    have BAD : Hid (¬ x = y) := fun e => hl (by rw [e])
    clear hl
    go_enter Try.func69, Try.ntmps69
    go_wp2_with fail
    go_ret
    exact ⟨false, rfl, Below.refl _ _, ⟨(fun h => by cases h), fun h => absurd h BAD.out⟩⟩
end Go.Proofs.Ytniognoapcaliaa
