
/- Layer 17: even, Even, Sound. -/

import Derived.Test.YtiencggnijfjoaaWOvs

namespace Go.Proofs.Ytiencggnijfjoaa

open Go.RowKit

attribute [local go_sem ↓] Go.wp_at_zero Go.wp_at_succ

set_option maxRecDepth 100000 in
set_option maxHeartbeats 1000000 in
theorem slMax_any (a1 : Option Addr) (g o c1 : Nat) (L : List Int) (w : World) (hx : WsAt w a1 g o L) (hl : 0 < L.length) :
    Calls Try.prog 72 #[.slice a1 L.length c1] w fun e w' => e = .returned (.int .i64 (maxN L (L.length - 1))) ∧ Below w.heap.size w w' := by
  have lx := hx.len
  unfold maxLen at lx
  obtain rfl : a1 = some ⟨g, o, none⟩ := hx.base (by omega)
  have hg := hx.lt (by omega)
  have HX : Hid (WsAt _ _ _ _ _) := hx
  have s0 := hx.cells 0 hl
  rw [Nat.add_zero] at s0
  have HM0 : Hid (maxN L 0 = L.getD 0 0) := rfl
  have HMS : Hid (∀ m, maxN L (m + 1) = max (maxN L m) (L.getD (m + 1) 0)) := fun _ => rfl
  have z1 : decide ((L.length : Int) < 1) = false := decide_eq_false (by omega)
  have z2 : (0 : Int) < (L.length : Int) := by omega
  clear hx
  generalize hy : L.getD 0 0 = y at s0 HM0
  clear hy
  go_enter Try.func72, Try.ntmps72
  go_wp2_with fail
  go_loopw [3, 4] (fun v i wr => ∃ m : Nat, m < L.length ∧ i = .int .i64 ((m + 1 : Nat) : Int) ∧ v = .int .i64 (maxN L m) ∧ Below w.heap.size w wr) (fun _ i _ => L.length + 1 - (intOf i).toNat)
  case atStart => exact ⟨0, hl, rfl, by rw [HM0.out], Below.refl _ _⟩
  case round =>
    obtain ⟨m, hm, rfl, rfl, hb⟩ := hrel
    have BW : Hid (Below w.heap.size w wr) := hb
    by_cases hlm : m + 1 < L.length
    · have s1 := (HX.out.below hb).cells (m + 1) hlm
      have hgr : g < wr.heap.size := by have := hb.size; omega
      have HS : Hid _ := HMS.out m
      have i0 : (0 : Int) ≤ ((m + 1 : Nat) : Int) := Int.natCast_nonneg _
      have i1 : ((m + 1 : Nat) : Int) < (L.length : Int) := by omega
      clear hb s0
      generalize L.getD (m + 1) 0 = q at *
      generalize maxN L m = u at *
      generalize hi : m + 1 = i at *
      go_wp2_with fail
      exact ⟨⟨i, by omega, by go_num, by rw [HS.out], BW.out⟩, by simp [intOf]; omega⟩
    · have e : m = L.length - 1 := by omega
      have HE : Hid (maxN L m = maxN L (L.length - 1)) := by show _ = _; rw [e]
      have n1 : decide (((m + 1 : Nat) : Int) < (L.length : Int)) = false := decide_eq_false (by omega)
      have n2 : decide (m + 1 < L.length) = false := decide_eq_false (by omega)
      clear hb e s0
      go_wp2_with fail
      go_ret
      exact ⟨by rw [← HE.out]; rfl, BW.out⟩
/-- even's answer. -/
def evS (L : List Int) : Int := if L.length = 0 then 0 else if minN L (L.length - 1) = maxN L (L.length - 1) then L.getD 0 0 else 0
def evB (L : List Int) : Bool := if L.length = 0 then true else decide (minN L (L.length - 1) = maxN L (L.length - 1))
theorem wsumsO_any (base : Option Addr) (b o c : Nat) (t : NL) (k : Option BT) (w : World) (h : NodesAt w base b o (keysA t)) (hk : Keyed t k) :
    Calls Try.prog 45 #[.slice base (keysA t).length c] w fun e w' => ∃ v, e = .returned v ∧ w'.ownsRow w.heap.size 3 1 v (sumsO k).length (isC (sumsO k)) ∧ Below w.heap.size w w' := by
  cases k with
  | none =>
    have hkk : keysA t = [] := hk
    rw [hkk]
    refine (wsums_none base c w).mono ?_
    rintro e w' ⟨rfl, hb⟩
    exact ⟨_, rfl, World.ownsRow_nil _ _ _ _, hb⟩
  | some B => exact wsums_any base b o c B (keysA t) w h hk.2.1 hk.2.2.1 hk.2.2.2
set_option maxRecDepth 100000 in
set_option maxHeartbeats 1000000 in
theorem weven_any (base : Option Addr) (b o c : Nat) (t : NL) (k : Option BT) (w : World) (h : NodesAt w base b o (keysA t)) (hk : Keyed t k) :
    Calls Try.prog 49 #[.slice base (keysA t).length c] w fun e w' => e = .returned (.tuple #[.int .i64 (evS (sumsO k)), .bool (evB (sumsO k))]) ∧ Below w.heap.size w w' := by
  have HC : Hid (Calls _ _ _ _ _) := wsumsO_any base b o c t k w h hk
  clear h hk
  generalize (keysA t).length = kl at *
  generalize sumsO k = L at *
  go_enter Try.func49, Try.ntmps49
  go_wp2_with fail
  refine HC.out.mono ?_
  rintro e w1 ⟨v1, rfl, ho1, hb1⟩
  obtain ⟨a1, c1, g1, rfl, -, -, hs1⟩ := ws_of_owns ho1
  have S1 : Hid (WsAt w1 a1 g1 0 L) := hs1
  have B1 : Hid (Below w.heap.size w w1) := hb1
  clear ho1 hs1 hb1
  by_cases hl : L.length = 0
  · have F1 : Hid (evS L = 0) := by show evS L = _; unfold evS; rw [if_pos hl]
    have F2 : Hid (evB L = true) := by show evB L = _; unfold evB; rw [if_pos hl]
    have d : ((L.length : Int) == 0) = true := by simp [hl]
    clear hl
    go_wp2_with fail
    go_ret2
    exact ⟨by rw [F1.out, F2.out]; rfl, B1.out⟩
  · have hpos : 0 < L.length := by omega
    have d : ((L.length : Int) == 0) = false := beq_eq_false_iff_ne.2 (by omega)
    obtain rfl : a1 = some ⟨g1, 0, none⟩ := S1.out.base (by omega)
    have z2 : (0 : Int) < (L.length : Int) := by omega
    by_cases hq : minN L (L.length - 1) = maxN L (L.length - 1)
    · have F0 : evS L = L.getD 0 0 := by unfold evS; rw [if_neg hl, if_pos hq]
      obtain ⟨y, hy⟩ : ∃ y, L.getD 0 0 = y := ⟨_, rfl⟩
      have HY : Hid (L.getD 0 0 = y) := hy
      have F1 : Hid (evS L = y) := by show _ = _; rw [F0, hy]
      clear F0 hy
      have F2 : Hid (evB L = true) := by show evB L = _; unfold evB; rw [if_neg hl]; exact decide_eq_true hq
      obtain ⟨d1, d2, -⟩ := eqB hq
      clear hl hq
      go_wp2_with (first | (go_at_call 71; refine (slMin_any _ g1 0 c1 L _ S1.out hpos).mono ?_; rintro e w2 ⟨rfl, hb2⟩; have S2 : Hid (WsAt w2 (some ⟨g1, 0, none⟩) g1 0 L) := S1.out.below hb2; have B2 : Hid (Below w.heap.size w w2) := B1.out.trans (hb2.mono B1.out.size); clear hb2) | (go_at_call 72; refine (slMax_any _ g1 0 c1 L _ S2.out hpos).mono ?_; rintro e w3 ⟨rfl, hb3⟩; have B3 : Hid (Below w.heap.size w w3) := B2.out.trans (hb3.mono B2.out.size); have s0 := (S2.out.below hb3).cells 0 hpos; rw [Nat.add_zero, HY.out] at s0; have gl3 := (S2.out.below hb3).lt (by omega); clear hb3))
      go_ret2
      exact ⟨by rw [F1.out, F2.out]; rfl, B3.out⟩
    · have F1 : Hid (evS L = 0) := by show evS L = _; unfold evS; rw [if_neg hl, if_neg hq]
      have F2 : Hid (evB L = false) := by show evB L = _; unfold evB; rw [if_neg hl]; exact decide_eq_false hq
      obtain ⟨d1, d2, -⟩ := neB hq
      clear hl hq
      go_wp2_with (first | (go_at_call 71; refine (slMin_any _ g1 0 c1 L _ S1.out hpos).mono ?_; rintro e w2 ⟨rfl, hb2⟩; have S2 : Hid (WsAt w2 (some ⟨g1, 0, none⟩) g1 0 L) := S1.out.below hb2; have B2 : Hid (Below w.heap.size w w2) := B1.out.trans (hb2.mono B1.out.size); clear hb2) | (go_at_call 72; refine (slMax_any _ g1 0 c1 L _ S2.out hpos).mono ?_; rintro e w3 ⟨rfl, hb3⟩; have B3 : Hid (Below w.heap.size w w3) := B2.out.trans (hb3.mono B2.out.size); clear hb3))
      go_ret2
      exact ⟨by rw [F1.out, F2.out]; rfl, B3.out⟩
end Go.Proofs.Ytiencggnijfjoaa
