
/- Layer 17: Sound. -/

import Derived.Test.YtiencggnijfjoaaWSound

namespace Go.Proofs.Ytiencggnijfjoaa

open Go.RowKit

attribute [local go_sem ↓] Go.wp_at_zero Go.wp_at_succ

noncomputable def sndB (t : NL) (k : Option BT) : Bool := if keyE t ≠ 0 then false else if (keysA t).length = 0 then true else evB (sumsO k) && ((ndAt (keysA t) 0).wt == 1 && !lightN (keysA t) (keysA t).length)
set_option maxRecDepth 100000 in
set_option maxHeartbeats 1000000 in
theorem Sound_any (base : Option Addr) (b o c : Nat) (t : NL) (k : Option BT) (w : World) (h : NodesAt w base b o t) (hk : Keyed t k) :
    Calls Try.prog 15 #[.slice base t.length c] w fun e w' => e = .returned (.tuple #[.bool (sndB t k), .int .i64 (keyE t)]) ∧ Below w.heap.size w w' := by
  have HA : Hid (NodesAt _ _ _ _ _) := h
  have HK : Hid (Keyed t k) := hk
  clear h hk
  by_cases he : keyE t = 0
  · have d : (keyE t != 0) = false := by simp [he]
    have d' : (keyE t == 0) = true := by simp [he]
    have HE : Hid (keyE t = 0) := he
    go_enter Try.func15, Try.ntmps15
    go_wp2_with fail
    refine (keysOf_any base b o c t _ HA.out).mono ?_
    rintro e w1 ⟨v1, rfl, ho1, hb1⟩
    obtain ⟨bs1, cp1, g1, rfl, -, -, hn1⟩ := nodes_of_owns ho1
    have N1 : Hid (NodesAt _ _ _ _ _) := hn1
    have B1 : Hid (Below w.heap.size w w1) := hb1
    clear ho1 hb1
    by_cases hl : (keysA t).length = 0
    · have F : Hid (sndB t k = true) := by show sndB t k = _; unfold sndB; rw [if_neg (by simp [he]), if_pos hl]
      have z : (((keysA t).length : Int) == 0) = true := by simp [hl]
      clear hl he hn1
      generalize (keysA t).length = kl at *
      go_wp2_with fail
      go_ret2
      exact ⟨by rw [F.out, HE.out]; rfl, B1.out⟩
    · have F : Hid (sndB t k = (evB (sumsO k) && ((ndAt (keysA t) 0).wt == 1 && !lightN (keysA t) (keysA t).length))) := by show sndB t k = _; unfold sndB; rw [if_neg (by simp [he]), if_neg hl]
      have z : (((keysA t).length : Int) == 0) = false := beq_eq_false_iff_ne.2 (by omega)
      have HC : Hid (Calls _ _ _ _ _) := weven_any bs1 g1 0 cp1 t k w1 hn1 HK.out
      have hpos : 0 < (keysA t).length := by omega
      have z2 : (0 : Int) < ((keysA t).length : Int) := by omega
      obtain rfl : bs1 = some ⟨g1, 0, none⟩ := hn1.base hl
      clear hl he hn1
      generalize keysA t = K at *
      go_wp2_with fail
      refine HC.out.mono ?_
      rintro e w2 ⟨rfl, hb2⟩
      have B2 : Hid (Below w.heap.size w w2) := B1.out.trans (hb2.mono B1.out.size)
      have N2 : Hid (NodesAt w2 (some ⟨g1, 0, none⟩) g1 0 K) := N1.out.below hb2
      have gl := N2.out.lt (by omega)
      have s0 := (N2.out.cells 0 hpos).2.2.1
      simp only [Nat.zero_mul, Nat.add_zero, Nat.zero_add] at s0
      clear hb2
      cases hv : evB (sumsO k)
      · have F' : Hid (sndB t k = false) := by show sndB t k = _; rw [F.out, hv]; rfl
        clear hv
        go_wp2_with fail
        go_ret2
        exact ⟨by rw [F'.out, HE.out]; rfl, B2.out⟩
      · by_cases hq : (ndAt K 0).wt = 1
        · have F' : Hid (sndB t k = !lightN K K.length) := by show sndB t k = _; rw [F.out, hv, hq]; rfl
          have q : ((ndAt K 0).wt == 1) = true := by simp [hq]
          clear hv hq
          generalize (ndAt K 0).wt = y at *
          go_wp2_with (first | (go_at_call 50; refine (containsN_any _ g1 0 cp1 K _ N2.out).mono ?_; rintro e w3 ⟨rfl, hb3⟩; have B3 : Hid (Below w.heap.size w w3) := B2.out.trans (hb3.mono B2.out.size); clear hb3))
          go_ret2
          exact ⟨by rw [F'.out, HE.out]; rfl, B3.out⟩
        · have F' : Hid (sndB t k = false) := by show sndB t k = _; rw [F.out, hv]; simp [hq]
          have q : ((ndAt K 0).wt == 1) = false := by simp [hq]
          clear hv hq
          generalize (ndAt K 0).wt = y at *
          go_wp2_with fail
          go_ret2
          exact ⟨by rw [F'.out, HE.out]; rfl, B2.out⟩
  · have d : (keyE t != 0) = true := by simp [he]
    have d' : (keyE t == 0) = false := by simp [he]
    have F : Hid (sndB t k = false) := by show sndB t k = _; unfold sndB; rw [if_pos he]
    clear he
    go_enter Try.func15, Try.ntmps15
    go_wp2_with (first | (go_at_call 44; refine (keysOf_any base b o c t _ HA.out).mono ?_; rintro e w1 ⟨v1, rfl, ho1, hb1⟩; obtain ⟨bs1, cp1, rfl⟩ := own_slice ho1; have B1 : Hid (Below w.heap.size w w1) := hb1; clear ho1 hb1))
    go_ret2
    exact ⟨by rw [F.out]; rfl, B1.out⟩
end Go.Proofs.Ytiencggnijfjoaa
