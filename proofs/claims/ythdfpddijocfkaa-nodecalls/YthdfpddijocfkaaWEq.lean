
/- Layer 17: Same. -/

import Derived.Test.YthdfpddijocfkaaTEq

namespace Go.Proofs.Ythdfpddijocfkaa

open Go.RowKit

attribute [local go_sem ↓] Go.wp_at_zero Go.wp_at_succ

set_option maxRecDepth 100000 in
set_option maxHeartbeats 1000000 in
theorem vSame_any (ba bb : Option Addr) (ga oa ca gb ob cb : Nat) (a b : NL) (w : World) (ha : NodesAt w ba ga oa a) (hb : NodesAt w bb gb ob b) :
    Calls Try.prog 11 #[.slice ba a.length ca, .slice bb b.length cb] w fun e w' => e = .returned (.bool (nlEq a b)) ∧ Below w.heap.size w w' := by
  have la := ha.len
  have lb := hb.len
  unfold maxLen at la lb
  have HA : Hid _ := ha
  have HB : Hid _ := hb
  clear ha hb
  have hpn := nd_neq
  by_cases hl : a.length = b.length
  · have hd : ((a.length : Int) != (b.length : Int)) = false := by simp [hl]
    have HL : Hid _ := hl
    clear hl
    go_enter Try.func11, Try.ntmps11
    go_wp2_with fail
    go_loopw [5] (fun i wr => ∃ j : Nat, j ≤ a.length ∧ i = .int .i64 j ∧ (∀ k, k < j → ndAt a k = ndAt b k) ∧ Below w.heap.size w wr) (fun i _ => a.length - (intOf i).toNat)
    case atStart => exact ⟨0, Nat.zero_le _, rfl, fun k hk => by omega, Below.refl _ _⟩
    case round =>
      obtain ⟨j, hj, rfl, hall, hbw⟩ := hrel
      have HAL : Hid _ := hall
      clear hall
      by_cases hlt : j < a.length
      · have hlb : j < b.length := by have := HL.out; omega
        obtain rfl : ba = some ⟨ga, oa, none⟩ := HA.out.base (by omega)
        obtain rfl : bb = some ⟨gb, ob, none⟩ := HB.out.base (by omega)
        have HC : Hid _ := (HA.out.below hbw).cells j hlt
        have HD : Hid _ := (HB.out.below hbw).cells j hlb
        have j0 : (0 : Int) ≤ (j : Int) := Int.natCast_nonneg _
        have j1 : (j : Int) < (a.length : Int) := by omega
        have j2 : (j : Int) < (b.length : Int) := by omega
        by_cases hq : ndAt a j = ndAt b j
        · have HQ : Hid _ := hq
          have HX : Hid _ := ndEq_yes.2 hq
          clear hq
          generalize ndAt a j = x at HC HX
          generalize ndAt b j = y at HD HX
          obtain ⟨x0, x1, x2, x3, x4, x5⟩ := x
          obtain ⟨y0, y1, y2, y3, y4, y5⟩ := y
          simp only at HC HD
          obtain ⟨c0, c1, c2, c3, c4, c5⟩ := HC.out
          obtain ⟨d0, d1, d2, d3, d4, d5⟩ := HD.out
          have hx := HX.out
          clear HC HD HX
          go_wp2_with fail
          go_quiet (fail)
          go_wp2_with fail
          refine ⟨⟨j + 1, by omega, by go_num, fun k hk => ?_, below_drewN hbw _⟩, by simp [intOf]; omega⟩
          by_cases e : k = j
          · subst e; exact HQ.out
          · exact HAL.out k (by omega)
        · have HX : Hid _ := ndEq_no hq
          have F : Hid (nlEq a b = false) := by
            show nlEq a b = false
            unfold nlEq
            simp only [decide_eq_false_iff_not]
            intro h
            exact hq (by rw [h])
          clear hq
          generalize ndAt a j = x at HC HX
          generalize ndAt b j = y at HD HX
          obtain ⟨x0, x1, x2, x3, x4, x5⟩ := x
          obtain ⟨y0, y1, y2, y3, y4, y5⟩ := y
          simp only at HC HD
          obtain ⟨c0, c1, c2, c3, c4, c5⟩ := HC.out
          obtain ⟨d0, d1, d2, d3, d4, d5⟩ := HD.out
          have hx := HX.out
          clear HC HD HX
          go_wp2_with fail
          go_quiet (fail)
          go_wp2_with fail
          go_ret
          exact ⟨by rw [F.out]; rfl, below_drewN hbw _⟩
      · have F : Hid (nlEq a b = true) := by
          show nlEq a b = true
          unfold nlEq
          simp only [decide_eq_true_eq]
          exact nl_ext HL.out (fun i hi => HAL.out i (by omega))
        go_wp2_with fail
        go_ret
        exact ⟨by rw [F.out]; rfl, hbw⟩
  · have hd : ((a.length : Int) != (b.length : Int)) = true := by simp; omega
    have F : Hid (nlEq a b = false) := by
      show nlEq a b = false
      unfold nlEq
      simp only [decide_eq_false_iff_not]
      intro h
      exact hl (by rw [h])
    clear hl
    go_enter Try.func11, Try.ntmps11
    go_wp2_with fail
    go_ret
    exact ⟨by rw [F.out]; rfl, Below.refl _ _⟩
end Go.Proofs.Ythdfpddijocfkaa
