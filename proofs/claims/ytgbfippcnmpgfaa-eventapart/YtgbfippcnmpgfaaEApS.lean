
/- Layer 5: the law's spoil: numbers are written over. -/

import Derived.Test.YtgbfippcnmpgfaaEApM

namespace Go.Proofs.Ytgbfippcnmpgfaa

open Go.RowKit

attribute [local go_sem ↓] Go.wp_at_zero Go.wp_at_succ

set_option maxRecDepth 100000 in
set_option maxHeartbeats 2000000 in
theorem spoil_any (KS : Nat → Prop) (base : Option Addr) (b o c : Nat) (hs : List EvD) (pb : Nat → Option Addr) (pc pg po : Nat → Nat) (w : World) (h : EvsAt w base b o hs pb pc pg po) (hk : hs.length ≠ 0 → KS b) (hp : ∀ i, i < hs.length → (evAt hs i).rt.pairs.length ≠ 0 → KS (pg i)) :
    Calls Try.prog 17 #[.slice base hs.length c] w fun e w' => e = .returned (.tuple #[]) ∧ Spo KS w w' := by
  have HA : Hid _ := h
  have HK : Hid (hs.length ≠ 0 → KS b) := hk
  have HP : Hid (∀ i, i < hs.length → (evAt hs i).rt.pairs.length ≠ 0 → KS (pg i)) := hp
  have lx := h.len
  unfold maxLen at lx
  clear h hk hp
  go_enter Try.func17, Try.ntmps17
  go_wp2_with fail
  go_loopw [2] (fun i wr => ∃ j : Nat, j ≤ hs.length ∧ i = .int .i64 j ∧ Spo KS w wr) (fun i _ => hs.length - (intOf i).toNat)
  case atStart => exact ⟨0, Nat.zero_le _, rfl, Spo.refl _ _⟩
  case round =>
    obtain ⟨j, hj, rfl, hspo⟩ := hrel
    rename World => wr
    have HS : Hid (Spo KS w wr) := hspo
    by_cases hlt : j < hs.length
    · obtain rfl : base = some ⟨b, o, none⟩ := HA.out.base (by omega)
      obtain ⟨hs', hl', hp', hE'⟩ := HA.out.turn hspo
      have EV : Hid _ := hE'
      have HL : Hid (∀ i, i < hs.length → (evAt hs' i).rt.pairs.length = (evAt hs i).rt.pairs.length) := hp'
      obtain ⟨_, _, d4, _⟩ := hE'.c1 j (by omega)
      have f4 : wr.frozen? ⟨b, o + (j * 10 + 4), none⟩ = false := hE'.thaw (j * 10 + 4) (by omega)
      have e4 : wr.frozen? ⟨b, o + j * 10 + 4, none⟩ = false := by rw [Nat.add_assoc]; exact f4
      have j0 : (0 : Int) ≤ (j : Int) := Int.natCast_nonneg _
      have j1 : (j : Int) < (hs.length : Int) := by omega
      have S4 : Hid (∀ y : Int, Spo KS w (wr.setCell ⟨b, o + j * 10 + 4, none⟩ (.int .i64 y))) := fun y => hspo.set (HK.out (by omega)) y d4
      clear hspo hE' hl' hp' f4
      go_wp2_with fail
      go_loopw [3] (fun k wr2 => ∃ m : Nat, m ≤ (evAt hs j).rt.pairs.length ∧ k = .int .i64 m ∧ Spo KS w wr2) (fun k _ => (evAt hs j).rt.pairs.length - (intOf k).toNat)
      case atStart => exact ⟨0, Nat.zero_le _, rfl, S4.out _⟩
      case round =>
        clear d4 e4 S4 HL EV
        obtain ⟨m, hm, rfl, hspo2⟩ := hrel
        rename World => wr2
        have HS2 : Hid (Spo KS w wr2) := hspo2
        obtain ⟨hs2, hl2, hp2, hE2⟩ := HA.out.turn hspo2
        obtain ⟨_, _, _, d9⟩ := hE2.c2 j (by omega)
        rw [hp2 j hlt] at d9
        have PX : Hid _ := (hE2.prs j (by omega)).1
        have HQ : Hid ((evAt hs2 j).rt.pairs.length = (evAt hs j).rt.pairs.length) := hp2 j hlt
        have lm : (evAt hs j).rt.pairs.length ≤ 281474976710656 := by have := (HA.out.prs j hlt).2.2; omega
        clear hspo2 hE2 hl2 hp2
        by_cases hmt : m < (evAt hs j).rt.pairs.length
        · obtain ⟨g, hg⟩ : ∃ g, g = pg j := ⟨_, rfl⟩
          have hb : pb j = some ⟨pg j, po j, none⟩ := PX.out.base (by rw [HQ.out]; omega)
          rw [hb] at d9
          obtain ⟨_, c1⟩ := PX.out.cells m (by rw [HQ.out]; exact hmt)
          have f1 : wr2.frozen? ⟨pg j, po j + (m * 2 + 1), none⟩ = false := PX.out.thaw (m * 2 + 1) (by rw [HQ.out]; omega)
          have e1 : wr2.frozen? ⟨pg j, po j + m * 2 + 1, none⟩ = false := by rw [Nat.add_assoc]; exact f1
          have S1 : Hid (∀ y : Int, Spo KS w (wr2.setCell ⟨pg j, po j + m * 2 + 1, none⟩ (.int .i64 y))) := fun y => HS2.out.set (HP.out j hlt (by omega)) y c1
          have m0 : (0 : Int) ≤ (m : Int) := Int.natCast_nonneg _
          have m1 : (m : Int) < ((evAt hs j).rt.pairs.length : Int) := by omega
          clear f1 hb hg g
          go_wp2_with fail
          refine ⟨⟨m + 1, by omega, by go_num, S1.out _⟩, by simp [intOf]; omega⟩
        · obtain rfl : m = (evAt hs j).rt.pairs.length := by omega
          go_wp2_with fail
          refine ⟨⟨j + 1, by omega, by go_num, HS2.out⟩, by simp [intOf]; omega⟩
    · obtain rfl : j = hs.length := by omega
      clear hspo
      go_wp2_with fail
      refine bodyPost_end (results_none rfl _ _ _) rfl ?_
      exact ⟨rfl, HS.out⟩
end Go.Proofs.Ytgbfippcnmpgfaa
