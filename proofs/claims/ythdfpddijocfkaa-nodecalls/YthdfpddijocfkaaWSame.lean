
/- Layer 17: SameInts. -/

import Derived.Test.YthdfpddijocfkaaWHeavy

import Derived.Test.YthdfpddijocfkaaTUp

namespace Go.Proofs.Ythdfpddijocfkaa

open Go.RowKit

attribute [local go_sem ↓] Go.wp_at_zero Go.wp_at_succ

set_option maxRecDepth 100000 in
set_option maxHeartbeats 1000000 in
theorem sameInts_any (ba bb : Option Addr) (ga oa ca gb ob cb : Nat) (a b : List Int) (w : World) (ha : WsAt w ba ga oa a) (hb : WsAt w bb gb ob b) :
    Calls Try.prog 12 #[.slice ba a.length ca, .slice bb b.length cb] w fun e w' => e = .returned (.bool (isEq a b)) ∧ Below w.heap.size w w' := by
  have la := ha.len
  have lb := hb.len
  unfold maxLen at la lb
  have HA : Hid (WsAt _ _ _ _ _) := ha
  have HB : Hid (WsAt _ _ _ _ _) := hb
  clear ha hb
  by_cases hl : a.length = b.length
  · have hd : ((a.length : Int) != (b.length : Int)) = false := by simp [hl]
    have HL : Hid _ := hl
    clear hl
    go_enter Try.func12, Try.ntmps12
    go_wp2_with fail
    go_loopw [5] (fun i wr => ∃ j : Nat, j ≤ a.length ∧ i = .int .i64 j ∧ (∀ k, k < j → a.getD k 0 = b.getD k 0) ∧ Below w.heap.size w wr) (fun i _ => a.length - (intOf i).toNat)
    case atStart => exact ⟨0, Nat.zero_le _, rfl, fun k hk => by omega, Below.refl _ _⟩
    case round =>
      obtain ⟨j, hj, rfl, hall, hbw⟩ := hrel
      have HAL : Hid _ := hall
      clear hall
      by_cases hlt : j < a.length
      · have hlb : j < b.length := by have := HL.out; omega
        obtain rfl : ba = some ⟨ga, oa, none⟩ := HA.out.base (by omega)
        obtain rfl : bb = some ⟨gb, ob, none⟩ := HB.out.base (by omega)
        have c0 := (HA.out.below hbw).cells j hlt
        have c1 := (HB.out.below hbw).cells j hlb
        have j0 : (0 : Int) ≤ (j : Int) := Int.natCast_nonneg _
        have j1 : (j : Int) < (a.length : Int) := by omega
        have j2 : (j : Int) < (b.length : Int) := by omega
        by_cases hq : a.getD j 0 = b.getD j 0
        · have HQ : Hid _ := hq
          have hx : (a.getD j 0 != b.getD j 0) = false := by rw [hq]; exact bne_self_eq_false _
          have hx2 : decide (a.getD j 0 ≠ b.getD j 0) = false := decide_eq_false (fun q => q hq)
          clear hq
          generalize a.getD j 0 = x at c0 hx hx2
          generalize b.getD j 0 = y at c1 hx hx2
          go_wp2_with fail
          go_quiet (fail)
          go_wp2_with fail
          refine ⟨⟨j + 1, by omega, by go_num, fun k hk => ?_, below_drewN hbw _⟩, by simp [intOf]; omega⟩
          by_cases e : k = j
          · subst e; exact HQ.out
          · exact HAL.out k (by omega)
        · have F : Hid (isEq a b = false) := by
            show isEq a b = false
            unfold isEq
            simp only [decide_eq_false_iff_not]
            intro h
            exact hq (by rw [h])
          have hx : (a.getD j 0 != b.getD j 0) = true := by simp only [bne_iff_ne]; exact hq
          have hx2 : decide (a.getD j 0 ≠ b.getD j 0) = true := decide_eq_true hq
          clear hq
          generalize a.getD j 0 = x at c0 hx hx2
          generalize b.getD j 0 = y at c1 hx hx2
          go_wp2_with fail
          go_quiet (fail)
          go_wp2_with fail
          go_ret
          exact ⟨by rw [F.out]; rfl, below_drewN hbw _⟩
      · have F : Hid (isEq a b = true) := by
          show isEq a b = true
          unfold isEq
          simp only [decide_eq_true_eq]
          exact is_ext HL.out (fun i hi => HAL.out i (by omega))
        go_wp2_with fail
        go_ret
        exact ⟨by rw [F.out]; rfl, hbw⟩
  · have hd : ((a.length : Int) != (b.length : Int)) = true := by simp; omega
    have F : Hid (isEq a b = false) := by
      show isEq a b = false
      unfold isEq
      simp only [decide_eq_false_iff_not]
      intro h
      exact hl (by rw [h])
    clear hl
    go_enter Try.func12, Try.ntmps12
    go_wp2_with fail
    go_ret
    exact ⟨by rw [F.out]; rfl, Below.refl _ _⟩

end Go.Proofs.Ythdfpddijocfkaa
