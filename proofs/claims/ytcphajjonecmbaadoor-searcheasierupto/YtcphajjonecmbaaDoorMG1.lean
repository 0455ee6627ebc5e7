
/- Layer 6: the program's Check, Kind, place. -/

import Derived.Test.YtcphajjonecmbaaDoorMR4

import Derived.Deep.LoopGhost

namespace Go.Proofs.YtcphajjonecmbaaDoor

open Go.RowKit

set_option maxRecDepth 100000 in
set_option maxHeartbeats 1000000 in
theorem pcheck_any (base : Option Addr) (b o c : Nat) (ps : PL) (w : World) (h : PairsAt w base b o ps) :
    Calls Tryd.prog 87 #[.slice base ps.length c] w fun e w' => e = .returned (.int .i64 (ckErr ps)) ∧ Below w.heap.size w w' := by
  have hl := h.len
  unfold maxLen at hl
  have HA : Hid _ := h
  clear h
  go_enter Tryd.func87, Tryd.ntmps87
  go_wp2_with fail
  go_loopw [3] (fun i wr => ∃ j : Nat, 1 ≤ j ∧ (j ≤ ps.length ∨ j = 1) ∧ i = .int .i64 j ∧ rises ps j = true ∧ Below w.heap.size w wr) (fun i _ => ps.length - (intOf i).toNat)
  case atStart => exact ⟨1, Nat.le_refl _, Or.inr rfl, rfl, rfl, Below.refl _ _⟩
  case round =>
    obtain ⟨j, hj1, hj, rfl, hr, hbw⟩ := hrel
    have HR : Hid _ := hr
    clear hr
    by_cases hlt : j < ps.length
    · obtain rfl : base = some ⟨b, o, none⟩ := HA.out.base (by omega)
      obtain ⟨k, rfl⟩ : ∃ k, j = k + 1 := ⟨j - 1, by omega⟩
      obtain ⟨c0, _⟩ := (HA.out.below hbw).cells (k + 1) hlt
      obtain ⟨c1, _⟩ := (HA.out.below hbw).cells k (by omega)
      have j0 : (0 : Int) ≤ ((k + 1 : Nat) : Int) := Int.natCast_nonneg _
      have j1 : ((k + 1 : Nat) : Int) < (ps.length : Int) := by omega
      have k0 : (0 : Int) ≤ (k : Int) := Int.natCast_nonneg _
      have k1 : (k : Int) < (ps.length : Int) := by omega
      have hw : IntKind.i64.wrap (((k + 1 : Nat) : Int) - 1) = (k : Int) := by rw [show ((k + 1 : Nat) : Int) - 1 = (k : Int) by omega, IntKind.wrap_i64] <;> omega
      have HW : Hid _ := hbw
      clear hbw
      generalize hq : k + 1 = q at *
      by_cases hd : keyAt ps q ≤ keyAt ps k
      · have hd1 : decide (keyAt ps q ≤ keyAt ps k) = true := decide_eq_true hd
        have F : Hid (ckErr ps = 11) := by
          show ckErr ps = 11
          unfold ckErr
          rw [rises_not (j := k) (by omega) (by rw [hq]; omega)]
          rfl
        clear hd
        go_wp2_with fail
        go_quiet (fail)
        go_wp2_with fail
        go_ret
        exact ⟨by rw [F.out]; rfl, below_drewN HW.out _⟩
      · have hd1 : decide (keyAt ps q ≤ keyAt ps k) = false := decide_eq_false hd
        have R2 : Hid (rises ps (q + 1) = true) := by
          show rises ps (q + 1) = true
          subst hq
          show (rises ps (k + 1) && decide (keyAt ps k < keyAt ps (k + 1))) = true
          rw [HR.out, Bool.true_and]
          exact decide_eq_true (by omega)
        clear hd
        go_wp2_with fail
        go_quiet (fail)
        go_wp2_with fail
        exact ⟨⟨q + 1, by omega, Or.inl (by omega), by go_num, R2.out, below_drewN HW.out _⟩, by simp [intOf]; omega⟩
    · have F : Hid (ckErr ps = 0) := by
        show ckErr ps = 0
        unfold ckErr
        rcases hj with q | q
        · have : j = ps.length := by omega
          rw [← this, HR.out]; rfl
        · have : ps.length = 0 ∨ ps.length = 1 := by omega
          rcases this with z | z <;> rw [z] <;> rfl
      go_wp2_with fail
      go_ret
      exact ⟨by rw [F.out]; rfl, hbw⟩

theorem pkind_any (k : Int) (w : World) : Calls Tryd.prog 75 #[.int .i64 k] w fun e w' => e = .returned (.int .i64 (kdErr k)) ∧ w = w' := by
  unfold kdErr
  by_cases h1 : k < 1
  · rw [if_pos (Or.inl h1)]
    go_enter Tryd.func75, Tryd.ntmps75
    go_wp2_with fail
    go_ret
    exact ⟨rfl, rfl⟩
  · by_cases h2 : 9 < k
    · rw [if_pos (Or.inr h2)]
      go_enter Tryd.func75, Tryd.ntmps75
      go_wp2_with fail
      go_ret
      exact ⟨rfl, rfl⟩
    · rw [if_neg (by omega)]
      go_enter Tryd.func75, Tryd.ntmps75
      go_wp2_with fail
      go_ret
      exact ⟨rfl, rfl⟩


theorem nan_any (a : Int) (w : World) : Calls Tryd.prog 103 #[.int .i64 a] w fun e w' => e = .returned (.bool false) ∧ w = w' := by
  go_enter Tryd.func103, Tryd.ntmps103
  go_wp2_with fail
  go_ret
  exact ⟨by simp, rfl⟩
def cmpI (a b : Int) : Int := if a < b then -1 else if b < a then 1 else 0
theorem cmp_any (a b : Int) (w : World) : Calls Tryd.prog 81 #[.int .i64 a, .int .i64 b] w fun e w' => e = .returned (.int .i64 (cmpI a b)) ∧ w = w' := by
  unfold cmpI
  by_cases h1 : a < b
  · rw [if_pos h1]
    go_enter Tryd.func81, Tryd.ntmps81
    go_wp2_with fail
    refine (nan_any a _).mono ?_
    rintro e w1 ⟨rfl, rfl⟩
    go_wp2_with fail
    refine (nan_any b _).mono ?_
    rintro e w1 ⟨rfl, rfl⟩
    go_wp2_with fail
    go_ret
    exact ⟨rfl, rfl⟩
  · rw [if_neg h1]
    by_cases h2 : b < a
    · rw [if_pos h2]
      go_enter Tryd.func81, Tryd.ntmps81
      go_wp2_with fail
      refine (nan_any a _).mono ?_
      rintro e w1 ⟨rfl, rfl⟩
      go_wp2_with fail
      refine (nan_any b _).mono ?_
      rintro e w1 ⟨rfl, rfl⟩
      go_wp2_with fail
      go_ret
      exact ⟨rfl, rfl⟩
    · rw [if_neg h2]
      go_enter Tryd.func81, Tryd.ntmps81
      go_wp2_with fail
      refine (nan_any a _).mono ?_
      rintro e w1 ⟨rfl, rfl⟩
      go_wp2_with fail
      refine (nan_any b _).mono ?_
      rintro e w1 ⟨rfl, rfl⟩
      go_wp2_with fail
      go_ret
      exact ⟨rfl, rfl⟩
theorem clo_any (k v key : Int) (w : World) : Calls Tryd.prog 123 #[.agg #[.int .i64 k, .int .i64 v], .int .i64 key] w fun e w' => e = .returned (.int .i64 (cmpI k key)) ∧ Below w.heap.size w w' := by
  go_enter Tryd.func123, Tryd.ntmps123
  go_wp2_with fail
  refine (cmp_any k key _).mono ?_
  rintro e w1 ⟨rfl, rfl⟩
  go_wp2_with fail
  go_ret
  exact ⟨rfl, below_allocM _ _⟩
theorem cmpI_neg {a b : Int} : cmpI a b < 0 ↔ a < b := by unfold cmpI; split <;> (try split) <;> omega
theorem cmpI_zero {a b : Int} : cmpI a b = 0 ↔ a = b := by unfold cmpI; split <;> (try split) <;> omega
end Go.Proofs.YtcphajjonecmbaaDoor
