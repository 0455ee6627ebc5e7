
/- slices.symMergeCmpFunc, whole. -/

import Derived.Test.YtljidfaeljpnpaaSPSym

import Derived.Deep.CutRange

namespace Go.Proofs.Ytljidfaeljpnpaa

open Go.RowKit

attribute [local go_sem ↓] Go.wp_at_zero Go.wp_at_succ

set_option maxRecDepth 100000 in
set_option maxHeartbeats 8000000 in
theorem symMidP (len g n cap a m b : Nat) (d : Nat → PrX) (w : World) (IH : SymP len) (hlen : b - a ≤ len + 1) (hr : RowP w g n d) (hg : g < w.heap.size) (ham : a < m) (hmb : m < b) (hb : b ≤ n) (hn : n ≤ 1000000) (hL : SortedOn keyP PrX.pos a m d) (hR : SortedOn keyP PrX.pos m b d) (hA : Apart PrX.pos a m b d) (h1m : m ≠ a + 1) (h2m : b ≠ m + 1) :
    Calls Try.prog 101 #[.slice (some ⟨g, 0, none⟩) n cap, .int .i64 a, .int .i64 m, .int .i64 b, .func (.func 70) #[] #[]] w fun e w' => e = .returned (.tuple #[]) ∧ ∃ d', RowP w' g n d' ∧ w.grownBy w' (some g) ∧ Swaps a b d d' ∧ SortedOn keyP PrX.pos a b d' := by
  have HR0 : Hid (RowP _ _ _ _) := hr
  have HL : Hid (SortedOn _ _ _ _ _) := hL
  have HRR : Hid (SortedOn _ _ _ _ _) := hR
  have HA : Hid (Apart _ _ _ _ _) := hA
  have IHH : Hid (SymP len) := IH
  clear hr hL hR hA IH
  have t1 : ((m : Int) - (a : Int) == 1) = false := by rw [beq_eq_false_iff_ne]; omega
  have t2 : ((b : Int) - (m : Int) == 1) = false := by rw [beq_eq_false_iff_ne]; omega
  obtain ⟨mid, q1, q2, h0, h1, hlo, hhi⟩ := half_factsP (i := a) (j := b) (n := n) (by omega) hb hn
  have HMID : Hid (mid = (a + b) / 2) := by show mid = (a + b) / 2; omega
  obtain ⟨P, hP⟩ : ∃ P, P = mid + m - 1 := ⟨_, rfl⟩
  have HP : Hid _ := hP
  have HPN : Hid ((mid : Int) + (m : Int) - 1 = (P : Int)) := by show _ = _; omega
  have MI : Hid (MidInv keyP a m b d (loM a m b) (hiM a m b)) := ⟨Nat.le_refl _, (mid_le ham hmb).1, Nat.le_refl _, fun c k1 k2 => by omega, fun c k1 k2 => by omega⟩
  have LOV : Hid (mid < m → loM a m b = mid + m - b ∧ hiM a m b = mid ∧ b ≤ mid + m) := by
    intro q
    have e := HMID.out
    unfold loM hiM
    rw [if_pos (by omega), if_pos (by omega)]
    omega
  have LOW : Hid (¬ mid < m → loM a m b = a ∧ hiM a m b = m) := by
    intro q
    have e := HMID.out
    unfold loM hiM
    rw [if_neg (by omega), if_neg (by omega)]
    exact ⟨rfl, rfl⟩
  clear hP h1m h2m
  by_cases hmm : mid < m
  · have zz : (mid : Int) < (m : Int) := by omega
    go_enter Try.func101, Try.ntmps101
    go_upto_region 33 with fail
    rw [HPN.out]
    go_loopw [20, 21] (fun sv rv wr => ∃ s r : Nat, sv = .int .i64 s ∧ rv = .int .i64 r ∧ RowP wr g n d ∧ w.grownBy wr (some g) ∧ MidInv keyP a m b d s r) (fun sv rv _ => (intOf rv).toNat - (intOf sv).toNat)
    case atStart => exact ⟨loM a m b, hiM a m b, by rw [(LOV.out hmm).1]; congr 1; have := (LOV.out hmm).2.2; omega, by rw [(LOV.out hmm).2.1], HR0.out, grown_reflM _ _, MI.out⟩
    case round =>
      obtain ⟨s, r, rfl, rfl, hrow, hgr, hmi⟩ := hrel
      have HR : Hid (RowP _ _ _ _) := hrow
      have HG : Hid _ := hgr
      have HM : Hid _ := hmi
      have hgw : g < wr.heap.size := by have := hgr.size; omega
      have hsr := hmi.le
      have hrm : r ≤ m := Nat.le_trans hmi.hi (mid_le ham hmb).2.2
      clear hrow hgr hmi
      by_cases hlt : s < r
      · have hltz : (s : Int) < (r : Int) := by omega
        obtain ⟨c, q1, q2, h0, h1, hlo, hhi⟩ := half_factsP (i := s) (j := r) (n := n) hlt (by omega) hn
        have MB := mid_bounds ham hmb (Nat.le_trans HM.out.lo hlo) (Nat.lt_of_lt_of_le hhi HM.out.hi)
        have HMB : Hid _ := MB
        rw [← HMID.out, ← HP.out] at MB
        have p0 : (0 : Int) ≤ (P : Int) - (c : Int) := by omega
        have p1 : (P : Int) - (c : Int) < (n : Int) := by omega
        have p2 : ((P : Int) - (c : Int)).toNat = P - c := by omega
        have p3 : IntKind.i64.wrap ((P : Int) - (c : Int)) = (P : Int) - (c : Int) := by rw [IntKind.wrap_i64] <;> omega
        obtain ⟨v, hv⟩ : ∃ v, cmpS (keyP (d (P - c))) (keyP (d c)) = v := ⟨_, rfl⟩
        have HV : Hid _ := hv
        by_cases hk : keyP (d (P - c)) < keyP (d c)
        · have hv0 : v < 0 := by rw [← hv]; exact cmpS_neg.2 hk
          have hv2 : decide (v < 0) = true := by rw [decide_eq_true_iff]; exact hv0
          have NX : Hid (MidInv keyP a m b d s c) := HM.out.down ham hmb HL.out HRR.out hlo hhi (by rw [← HMID.out, ← HP.out]; exact hk)
          clear hv hk
          have p0 : wr.cell? ⟨g, (P - c) * 2, none⟩ = some (.int .i64 (d (P - c)).k) := (HR.out.cell (i := P - c) (by omega) (c := 0) (by omega)).1
          have p1 : wr.cell? ⟨g, (P - c) * 2 + 1, none⟩ = some (.int .i64 (d (P - c)).v) := (HR.out.cell (i := P - c) (by omega) (c := 1) (by omega)).1
          have q0 : wr.cell? ⟨g, c * 2, none⟩ = some (.int .i64 (d c).k) := (HR.out.cell (i := c) (by omega) (c := 0) (by omega)).1
          have q1 : wr.cell? ⟨g, c * 2 + 1, none⟩ = some (.int .i64 (d c).v) := (HR.out.cell (i := c) (by omega) (c := 1) (by omega)).1
          have y0 := BelowByM.cell hgw p0
          have z0 := BelowByM.cell hgw q0
          have y1 := BelowByM.cell hgw p1
          have z1 := BelowByM.cell hgw q1
          have SE : Hid (∀ p : BelowByM wr, Calls Try.prog 70 #[.agg #[.int .i64 (d (P - c)).k, .int .i64 (d (P - c)).v], .agg #[.int .i64 (d c).k, .int .i64 (d c).v]] p.W fun e w' => e = .returned (.int .i64 v) ∧ Below p.W.heap.size p.W w') := fun p => by rw [← HV.out]; exact closP_any (d (P - c)) (d c) p.W
          clear p0 q0 p1 q1
          go_wp2_with fail
          refine wp_region_belowM (by kernel_rfl) (by kernel_rfl) ?_
          repeat (go_big_quiet_step ((go_at_call 70; exact below_callM (SE.out _))))
          refine wpQuiet_nil ?_
          rintro _ ⟨p, rfl⟩
          have PB : Hid (Below wr.heap.size wr p.W) := p.h
          have HRp : Hid (RowP p.W g n d) := HR.out.below hgw p.h
          have zp := p.h.size
          clear SE y0 z0 y1 z1
          generalize p.W = wp at *
          clear p
          go_wp2_with fail
          exact ⟨⟨s, c, rfl, rfl, HRp.out, grown_trP HG.out (grown_of_belowP _ PB.out), NX.out⟩, by simp [intOf] <;> omega⟩
        · have hv0 : 0 ≤ v := by rw [← hv]; have := mt cmpS_neg.1 hk; omega
          have hv1 : ¬ v < 0 := by omega
          have hv2 : decide (v < 0) = false := by rw [decide_eq_false_iff_not]; omega
          have NX : Hid (MidInv keyP a m b d (c + 1) r) := HM.out.up ham hmb HL.out HRR.out hlo hhi (by rw [← HMID.out, ← HP.out]; exact hk)
          clear hv hk
          have p0 : wr.cell? ⟨g, (P - c) * 2, none⟩ = some (.int .i64 (d (P - c)).k) := (HR.out.cell (i := P - c) (by omega) (c := 0) (by omega)).1
          have p1 : wr.cell? ⟨g, (P - c) * 2 + 1, none⟩ = some (.int .i64 (d (P - c)).v) := (HR.out.cell (i := P - c) (by omega) (c := 1) (by omega)).1
          have q0 : wr.cell? ⟨g, c * 2, none⟩ = some (.int .i64 (d c).k) := (HR.out.cell (i := c) (by omega) (c := 0) (by omega)).1
          have q1 : wr.cell? ⟨g, c * 2 + 1, none⟩ = some (.int .i64 (d c).v) := (HR.out.cell (i := c) (by omega) (c := 1) (by omega)).1
          have y0 := BelowByM.cell hgw p0
          have z0 := BelowByM.cell hgw q0
          have y1 := BelowByM.cell hgw p1
          have z1 := BelowByM.cell hgw q1
          have SE : Hid (∀ p : BelowByM wr, Calls Try.prog 70 #[.agg #[.int .i64 (d (P - c)).k, .int .i64 (d (P - c)).v], .agg #[.int .i64 (d c).k, .int .i64 (d c).v]] p.W fun e w' => e = .returned (.int .i64 v) ∧ Below p.W.heap.size p.W w') := fun p => by rw [← HV.out]; exact closP_any (d (P - c)) (d c) p.W
          clear p0 q0 p1 q1
          go_wp2_with fail
          refine wp_region_belowM (by kernel_rfl) (by kernel_rfl) ?_
          repeat (go_big_quiet_step ((go_at_call 70; exact below_callM (SE.out _))))
          refine wpQuiet_nil ?_
          rintro _ ⟨p, rfl⟩
          have PB : Hid (Below wr.heap.size wr p.W) := p.h
          have HRp : Hid (RowP p.W g n d) := HR.out.below hgw p.h
          have zp := p.h.size
          clear SE y0 z0 y1 z1
          generalize p.W = wp at *
          clear p
          go_wp2_with fail
          exact ⟨⟨c + 1, r, by go_num, rfl, HRp.out, grown_trP HG.out (grown_of_belowP _ PB.out), NX.out⟩, by simp [intOf] <;> omega⟩
      · obtain rfl : s = r := by omega
        have hltz : ¬ (s : Int) < (s : Int) := by omega
        obtain ⟨e, he⟩ : ∃ e, e = mid + m - s := ⟨_, rfl⟩
        obtain ⟨e1, e2, e3, e4, e5, e6, e7, e8⟩ := HM.out.ends ham hmb
        rw [← HMID.out] at e3 e4 e5 e6 e7 e8
        rw [← he] at e3 e4 e5 e7 e8
        have hen : (mid : Int) + (m : Int) - (s : Int) = (e : Int) := by omega
        have PARTS0 := rot_parts (key := keyP) (pos := PrX.pos) HL.out HRR.out HA.out e1 e2 e3 e4
        have CROSS0 := rot_cross (key := keyP) (pos := PrX.pos) HL.out HRR.out HA.out e1 e2 e3 e4 e7 e8
        rw [e5] at PARTS0 CROSS0
        have PARTS : Hid _ := PARTS0
        have CROSS : Hid _ := CROSS0
        have hms : s ≤ mid := by omega
        have hme : mid ≤ e := by omega
        have HEN : Hid _ := hen
        clear PARTS0 CROSS0 e5 e7 e8 he HM hen
        generalize wr = W0 at *
        have HR0' : Hid (RowP _ _ _ _) := HR.out
        have HG0 : Hid _ := HG.out
        clear HR HG
        go_upto_region 39 with fail
        rw [HEN.out]
        by_cases c1 : s < m ∧ m < e
        · have z1 : (s : Int) < (m : Int) := by omega
          have z2 : (m : Int) < (e : Int) := by omega
          have C1 : Hid (Calls _ _ _ _ _) := rotateP_any g n cap s m e (.func (.func 70) #[] #[]) d W0 HR0'.out (by have := HG0.out.size; omega) c1.1 c1.2 (by omega) hn
          go_wp2_with fail
          refine C1.out.mono ?_
          rintro e0 W1 ⟨rfl, r1, g1, s1⟩
          have HR1 : Hid (RowP _ _ _ _) := r1
          have HG1 : Hid _ := grown_trP HG0.out g1
          have SW1 : Hid (Swaps a b d (rotF d s m e)) := s1.mono e1 e4
          clear r1 g1 s1 c1 C1 z1 z2
          generalize rotF d s m e = d1 at *
          go_upto_region 41 with fail
          by_cases c2 : a < s ∧ s < mid
          · have z1 : (a : Int) < (s : Int) := by omega
            have z2 : (s : Int) < (mid : Int) := by omega
            have C2 : Hid (Calls _ _ _ _ _) := IHH.out g n cap a s mid d1 W1 (by omega) HR1.out (by have := HG1.out.size; omega) c2.1 c2.2 (by omega) hn PARTS.out.1 PARTS.out.2.1 PARTS.out.2.2.1
            go_wp2_with fail
            refine C2.out.mono ?_
            rintro e0 W2 ⟨rfl, d2, r9, g9, s9, o9⟩
            have HR2 : Hid (RowP _ _ _ _) := r9
            have HG2 : Hid _ := grown_trP HG1.out g9
            have SW2 : Hid (Swaps a b d d2) := SW1.out.trans (s9.mono (Nat.le_refl _) (by omega))
            have M1 : Hid (SortedOn keyP PrX.pos mid e d2) := PARTS.out.2.2.2.1.out s9 (by omega)
            have M2 : Hid (SortedOn keyP PrX.pos e b d2) := PARTS.out.2.2.2.2.1.out s9 (by omega)
            have M3 : Hid (Apart PrX.pos mid e b d2) := PARTS.out.2.2.2.2.2.swaps s9 (by omega)
            have JOIN : Hid (∀ d9, Swaps mid b d2 d9 → SortedOn keyP PrX.pos mid b d9 → SortedOn keyP PrX.pos a b d9) := fun d9 q1 q2 => join_sorted CROSS.out s9 q1 o9 q2
            clear r9 g9 s9 o9 c2 C2 z1 z2
            by_cases c3 : mid < e ∧ e < b
            · have z1 : (mid : Int) < (e : Int) := by omega
              have z2 : (e : Int) < (b : Int) := by omega
              have C3 : Hid (Calls _ _ _ _ _) := IHH.out g n cap mid e b d2 W2 (by omega) HR2.out (by have := HG2.out.size; omega) c3.1 c3.2 hb hn M1.out M2.out M3.out
              go_wp2_with fail
              refine C3.out.mono ?_
              rintro e0 w9 ⟨rfl, d9, r9, g9, s9, o9⟩
              have R9 : Hid (RowP _ _ _ _) := r9
              have FIN : Hid (Swaps a b d d9 ∧ SortedOn keyP PrX.pos a b d9) := ⟨SW2.out.trans (s9.mono (by omega) (Nat.le_refl _)), JOIN.out d9 s9 o9⟩
              have G9 : Hid _ := grown_trP HG2.out g9
              clear r9 g9 s9 o9
              go_wp2_with fail
              all_goals (go_end0; exact ⟨rfl, d9, R9.out, G9.out, FIN.out.1, FIN.out.2⟩)
            · have FIN : Hid (Swaps a b d d2 ∧ SortedOn keyP PrX.pos a b d2) := ⟨SW2.out, JOIN.out d2 (Swaps.refl _) (by
                by_cases c4 : mid < e
                · have : e = b := by omega
                  rw [← this]; exact M1.out
                · have : e = mid := by omega
                  rw [← this]; exact M2.out)⟩
              by_cases c4 : mid < e
              · have z1 : (mid : Int) < (e : Int) := by omega
                have z2 : ¬ (e : Int) < (b : Int) := by omega
                go_wp2_with fail
                all_goals (go_end0; exact ⟨rfl, d2, HR2.out, HG2.out, FIN.out.1, FIN.out.2⟩)
              · have z1 : ¬ (mid : Int) < (e : Int) := by omega
                go_wp2_with fail
                all_goals (go_end0; exact ⟨rfl, d2, HR2.out, HG2.out, FIN.out.1, FIN.out.2⟩)
          · have SS : Hid (SortedOn keyP PrX.pos a mid d1) := by
              by_cases c4 : a < s
              · have : s = mid := by omega
                rw [← this]; exact PARTS.out.1
              · have : s = a := by omega
                have q := PARTS.out.2.1
                rw [this] at q
                exact q
            have M1 : Hid (SortedOn keyP PrX.pos mid e d1) := PARTS.out.2.2.2.1
            have M2 : Hid (SortedOn keyP PrX.pos e b d1) := PARTS.out.2.2.2.2.1
            have M3 : Hid (Apart PrX.pos mid e b d1) := PARTS.out.2.2.2.2.2
            have JOIN : Hid (∀ d9, Swaps mid b d1 d9 → SortedOn keyP PrX.pos mid b d9 → SortedOn keyP PrX.pos a b d9) := fun d9 q1 q2 => join_sorted CROSS.out (Swaps.refl _) q1 SS.out q2
            by_cases c4 : a < s
            · have z1 : (a : Int) < (s : Int) := by omega
              have z2 : ¬ (s : Int) < (mid : Int) := by omega
              clear c2
              go_upto_region 43 with fail
              by_cases c3 : mid < e ∧ e < b
              · have z1 : (mid : Int) < (e : Int) := by omega
                have z2 : (e : Int) < (b : Int) := by omega
                have C3 : Hid (Calls _ _ _ _ _) := IHH.out g n cap mid e b d1 W1 (by omega) HR1.out (by have := HG1.out.size; omega) c3.1 c3.2 hb hn M1.out M2.out M3.out
                go_wp2_with fail
                refine C3.out.mono ?_
                rintro e0 w9 ⟨rfl, d9, r9, g9, s9, o9⟩
                have R9 : Hid (RowP _ _ _ _) := r9
                have FIN : Hid (Swaps a b d d9 ∧ SortedOn keyP PrX.pos a b d9) := ⟨SW1.out.trans (s9.mono (by omega) (Nat.le_refl _)), JOIN.out d9 s9 o9⟩
                have G9 : Hid _ := grown_trP HG1.out g9
                clear r9 g9 s9 o9
                go_wp2_with fail
                all_goals (go_end0; exact ⟨rfl, d9, R9.out, G9.out, FIN.out.1, FIN.out.2⟩)
              · have FIN : Hid (Swaps a b d d1 ∧ SortedOn keyP PrX.pos a b d1) := ⟨SW1.out, JOIN.out d1 (Swaps.refl _) (by
                  by_cases c4 : mid < e
                  · have : e = b := by omega
                    rw [← this]; exact M1.out
                  · have : e = mid := by omega
                    rw [← this]; exact M2.out)⟩
                by_cases c4 : mid < e
                · have z1 : (mid : Int) < (e : Int) := by omega
                  have z2 : ¬ (e : Int) < (b : Int) := by omega
                  go_wp2_with fail
                  all_goals (go_end0; exact ⟨rfl, d1, HR1.out, HG1.out, FIN.out.1, FIN.out.2⟩)
                · have z1 : ¬ (mid : Int) < (e : Int) := by omega
                  go_wp2_with fail
                  all_goals (go_end0; exact ⟨rfl, d1, HR1.out, HG1.out, FIN.out.1, FIN.out.2⟩)
            · have z1 : ¬ (a : Int) < (s : Int) := by omega
              clear c2
              go_upto_region 43 with fail
              by_cases c3 : mid < e ∧ e < b
              · have z1 : (mid : Int) < (e : Int) := by omega
                have z2 : (e : Int) < (b : Int) := by omega
                have C3 : Hid (Calls _ _ _ _ _) := IHH.out g n cap mid e b d1 W1 (by omega) HR1.out (by have := HG1.out.size; omega) c3.1 c3.2 hb hn M1.out M2.out M3.out
                go_wp2_with fail
                refine C3.out.mono ?_
                rintro e0 w9 ⟨rfl, d9, r9, g9, s9, o9⟩
                have R9 : Hid (RowP _ _ _ _) := r9
                have FIN : Hid (Swaps a b d d9 ∧ SortedOn keyP PrX.pos a b d9) := ⟨SW1.out.trans (s9.mono (by omega) (Nat.le_refl _)), JOIN.out d9 s9 o9⟩
                have G9 : Hid _ := grown_trP HG1.out g9
                clear r9 g9 s9 o9
                go_wp2_with fail
                all_goals (go_end0; exact ⟨rfl, d9, R9.out, G9.out, FIN.out.1, FIN.out.2⟩)
              · have FIN : Hid (Swaps a b d d1 ∧ SortedOn keyP PrX.pos a b d1) := ⟨SW1.out, JOIN.out d1 (Swaps.refl _) (by
                  by_cases c4 : mid < e
                  · have : e = b := by omega
                    rw [← this]; exact M1.out
                  · have : e = mid := by omega
                    rw [← this]; exact M2.out)⟩
                by_cases c4 : mid < e
                · have z1 : (mid : Int) < (e : Int) := by omega
                  have z2 : ¬ (e : Int) < (b : Int) := by omega
                  go_wp2_with fail
                  all_goals (go_end0; exact ⟨rfl, d1, HR1.out, HG1.out, FIN.out.1, FIN.out.2⟩)
                · have z1 : ¬ (mid : Int) < (e : Int) := by omega
                  go_wp2_with fail
                  all_goals (go_end0; exact ⟨rfl, d1, HR1.out, HG1.out, FIN.out.1, FIN.out.2⟩)
        · have hrt : rotF d s m e = d := rotF_none e2 e3 (by omega)
          rw [hrt] at PARTS CROSS
          obtain ⟨d1, hd1⟩ : ∃ d1, d1 = d := ⟨_, rfl⟩
          have HR1 : Hid (RowP W0 g n d1) := by rw [hd1]; exact HR0'.out
          have SW1 : Hid (Swaps a b d d1) := by rw [hd1]; exact Swaps.refl _
          rw [← hd1] at PARTS CROSS
          have HG1 : Hid _ := HG0.out
          clear hrt hd1 HR0'
          generalize W0 = W1 at *
          by_cases c4 : s < m
          · have z1 : (s : Int) < (m : Int) := by omega
            have z2 : ¬ (m : Int) < (e : Int) := by omega
            clear c1
            go_upto_region 41 with fail
            clear z1 z2
            by_cases c2 : a < s ∧ s < mid
            · have z1 : (a : Int) < (s : Int) := by omega
              have z2 : (s : Int) < (mid : Int) := by omega
              have C2 : Hid (Calls _ _ _ _ _) := IHH.out g n cap a s mid d1 W1 (by omega) HR1.out (by have := HG1.out.size; omega) c2.1 c2.2 (by omega) hn PARTS.out.1 PARTS.out.2.1 PARTS.out.2.2.1
              go_wp2_with fail
              refine C2.out.mono ?_
              rintro e0 W2 ⟨rfl, d2, r9, g9, s9, o9⟩
              have HR2 : Hid (RowP _ _ _ _) := r9
              have HG2 : Hid _ := grown_trP HG1.out g9
              have SW2 : Hid (Swaps a b d d2) := SW1.out.trans (s9.mono (Nat.le_refl _) (by omega))
              have M1 : Hid (SortedOn keyP PrX.pos mid e d2) := PARTS.out.2.2.2.1.out s9 (by omega)
              have M2 : Hid (SortedOn keyP PrX.pos e b d2) := PARTS.out.2.2.2.2.1.out s9 (by omega)
              have M3 : Hid (Apart PrX.pos mid e b d2) := PARTS.out.2.2.2.2.2.swaps s9 (by omega)
              have JOIN : Hid (∀ d9, Swaps mid b d2 d9 → SortedOn keyP PrX.pos mid b d9 → SortedOn keyP PrX.pos a b d9) := fun d9 q1 q2 => join_sorted CROSS.out s9 q1 o9 q2
              clear r9 g9 s9 o9 c2 C2 z1 z2
              by_cases c3 : mid < e ∧ e < b
              · have z1 : (mid : Int) < (e : Int) := by omega
                have z2 : (e : Int) < (b : Int) := by omega
                have C3 : Hid (Calls _ _ _ _ _) := IHH.out g n cap mid e b d2 W2 (by omega) HR2.out (by have := HG2.out.size; omega) c3.1 c3.2 hb hn M1.out M2.out M3.out
                go_wp2_with fail
                refine C3.out.mono ?_
                rintro e0 w9 ⟨rfl, d9, r9, g9, s9, o9⟩
                have R9 : Hid (RowP _ _ _ _) := r9
                have FIN : Hid (Swaps a b d d9 ∧ SortedOn keyP PrX.pos a b d9) := ⟨SW2.out.trans (s9.mono (by omega) (Nat.le_refl _)), JOIN.out d9 s9 o9⟩
                have G9 : Hid _ := grown_trP HG2.out g9
                clear r9 g9 s9 o9
                go_wp2_with fail
                all_goals (go_end0; exact ⟨rfl, d9, R9.out, G9.out, FIN.out.1, FIN.out.2⟩)
              · have FIN : Hid (Swaps a b d d2 ∧ SortedOn keyP PrX.pos a b d2) := ⟨SW2.out, JOIN.out d2 (Swaps.refl _) (by
                  by_cases c4 : mid < e
                  · have : e = b := by omega
                    rw [← this]; exact M1.out
                  · have : e = mid := by omega
                    rw [← this]; exact M2.out)⟩
                by_cases c4 : mid < e
                · have z1 : (mid : Int) < (e : Int) := by omega
                  have z2 : ¬ (e : Int) < (b : Int) := by omega
                  go_wp2_with fail
                  all_goals (go_end0; exact ⟨rfl, d2, HR2.out, HG2.out, FIN.out.1, FIN.out.2⟩)
                · have z1 : ¬ (mid : Int) < (e : Int) := by omega
                  go_wp2_with fail
                  all_goals (go_end0; exact ⟨rfl, d2, HR2.out, HG2.out, FIN.out.1, FIN.out.2⟩)
            · have SS : Hid (SortedOn keyP PrX.pos a mid d1) := by
                by_cases c4 : a < s
                · have : s = mid := by omega
                  rw [← this]; exact PARTS.out.1
                · have : s = a := by omega
                  have q := PARTS.out.2.1
                  rw [this] at q
                  exact q
              have M1 : Hid (SortedOn keyP PrX.pos mid e d1) := PARTS.out.2.2.2.1
              have M2 : Hid (SortedOn keyP PrX.pos e b d1) := PARTS.out.2.2.2.2.1
              have M3 : Hid (Apart PrX.pos mid e b d1) := PARTS.out.2.2.2.2.2
              have JOIN : Hid (∀ d9, Swaps mid b d1 d9 → SortedOn keyP PrX.pos mid b d9 → SortedOn keyP PrX.pos a b d9) := fun d9 q1 q2 => join_sorted CROSS.out (Swaps.refl _) q1 SS.out q2
              by_cases c4 : a < s
              · have z1 : (a : Int) < (s : Int) := by omega
                have z2 : ¬ (s : Int) < (mid : Int) := by omega
                clear c2
                go_upto_region 43 with fail
                by_cases c3 : mid < e ∧ e < b
                · have z1 : (mid : Int) < (e : Int) := by omega
                  have z2 : (e : Int) < (b : Int) := by omega
                  have C3 : Hid (Calls _ _ _ _ _) := IHH.out g n cap mid e b d1 W1 (by omega) HR1.out (by have := HG1.out.size; omega) c3.1 c3.2 hb hn M1.out M2.out M3.out
                  go_wp2_with fail
                  refine C3.out.mono ?_
                  rintro e0 w9 ⟨rfl, d9, r9, g9, s9, o9⟩
                  have R9 : Hid (RowP _ _ _ _) := r9
                  have FIN : Hid (Swaps a b d d9 ∧ SortedOn keyP PrX.pos a b d9) := ⟨SW1.out.trans (s9.mono (by omega) (Nat.le_refl _)), JOIN.out d9 s9 o9⟩
                  have G9 : Hid _ := grown_trP HG1.out g9
                  clear r9 g9 s9 o9
                  go_wp2_with fail
                  all_goals (go_end0; exact ⟨rfl, d9, R9.out, G9.out, FIN.out.1, FIN.out.2⟩)
                · have FIN : Hid (Swaps a b d d1 ∧ SortedOn keyP PrX.pos a b d1) := ⟨SW1.out, JOIN.out d1 (Swaps.refl _) (by
                    by_cases c4 : mid < e
                    · have : e = b := by omega
                      rw [← this]; exact M1.out
                    · have : e = mid := by omega
                      rw [← this]; exact M2.out)⟩
                  by_cases c4 : mid < e
                  · have z1 : (mid : Int) < (e : Int) := by omega
                    have z2 : ¬ (e : Int) < (b : Int) := by omega
                    go_wp2_with fail
                    all_goals (go_end0; exact ⟨rfl, d1, HR1.out, HG1.out, FIN.out.1, FIN.out.2⟩)
                  · have z1 : ¬ (mid : Int) < (e : Int) := by omega
                    go_wp2_with fail
                    all_goals (go_end0; exact ⟨rfl, d1, HR1.out, HG1.out, FIN.out.1, FIN.out.2⟩)
              · have z1 : ¬ (a : Int) < (s : Int) := by omega
                clear c2
                go_upto_region 43 with fail
                by_cases c3 : mid < e ∧ e < b
                · have z1 : (mid : Int) < (e : Int) := by omega
                  have z2 : (e : Int) < (b : Int) := by omega
                  have C3 : Hid (Calls _ _ _ _ _) := IHH.out g n cap mid e b d1 W1 (by omega) HR1.out (by have := HG1.out.size; omega) c3.1 c3.2 hb hn M1.out M2.out M3.out
                  go_wp2_with fail
                  refine C3.out.mono ?_
                  rintro e0 w9 ⟨rfl, d9, r9, g9, s9, o9⟩
                  have R9 : Hid (RowP _ _ _ _) := r9
                  have FIN : Hid (Swaps a b d d9 ∧ SortedOn keyP PrX.pos a b d9) := ⟨SW1.out.trans (s9.mono (by omega) (Nat.le_refl _)), JOIN.out d9 s9 o9⟩
                  have G9 : Hid _ := grown_trP HG1.out g9
                  clear r9 g9 s9 o9
                  go_wp2_with fail
                  all_goals (go_end0; exact ⟨rfl, d9, R9.out, G9.out, FIN.out.1, FIN.out.2⟩)
                · have FIN : Hid (Swaps a b d d1 ∧ SortedOn keyP PrX.pos a b d1) := ⟨SW1.out, JOIN.out d1 (Swaps.refl _) (by
                    by_cases c4 : mid < e
                    · have : e = b := by omega
                      rw [← this]; exact M1.out
                    · have : e = mid := by omega
                      rw [← this]; exact M2.out)⟩
                  by_cases c4 : mid < e
                  · have z1 : (mid : Int) < (e : Int) := by omega
                    have z2 : ¬ (e : Int) < (b : Int) := by omega
                    go_wp2_with fail
                    all_goals (go_end0; exact ⟨rfl, d1, HR1.out, HG1.out, FIN.out.1, FIN.out.2⟩)
                  · have z1 : ¬ (mid : Int) < (e : Int) := by omega
                    go_wp2_with fail
                    all_goals (go_end0; exact ⟨rfl, d1, HR1.out, HG1.out, FIN.out.1, FIN.out.2⟩)
          · have z1 : ¬ (s : Int) < (m : Int) := by omega
            clear c1
            go_upto_region 41 with fail
            clear z1
            by_cases c2 : a < s ∧ s < mid
            · have z1 : (a : Int) < (s : Int) := by omega
              have z2 : (s : Int) < (mid : Int) := by omega
              have C2 : Hid (Calls _ _ _ _ _) := IHH.out g n cap a s mid d1 W1 (by omega) HR1.out (by have := HG1.out.size; omega) c2.1 c2.2 (by omega) hn PARTS.out.1 PARTS.out.2.1 PARTS.out.2.2.1
              go_wp2_with fail
              refine C2.out.mono ?_
              rintro e0 W2 ⟨rfl, d2, r9, g9, s9, o9⟩
              have HR2 : Hid (RowP _ _ _ _) := r9
              have HG2 : Hid _ := grown_trP HG1.out g9
              have SW2 : Hid (Swaps a b d d2) := SW1.out.trans (s9.mono (Nat.le_refl _) (by omega))
              have M1 : Hid (SortedOn keyP PrX.pos mid e d2) := PARTS.out.2.2.2.1.out s9 (by omega)
              have M2 : Hid (SortedOn keyP PrX.pos e b d2) := PARTS.out.2.2.2.2.1.out s9 (by omega)
              have M3 : Hid (Apart PrX.pos mid e b d2) := PARTS.out.2.2.2.2.2.swaps s9 (by omega)
              have JOIN : Hid (∀ d9, Swaps mid b d2 d9 → SortedOn keyP PrX.pos mid b d9 → SortedOn keyP PrX.pos a b d9) := fun d9 q1 q2 => join_sorted CROSS.out s9 q1 o9 q2
              clear r9 g9 s9 o9 c2 C2 z1 z2
              by_cases c3 : mid < e ∧ e < b
              · have z1 : (mid : Int) < (e : Int) := by omega
                have z2 : (e : Int) < (b : Int) := by omega
                have C3 : Hid (Calls _ _ _ _ _) := IHH.out g n cap mid e b d2 W2 (by omega) HR2.out (by have := HG2.out.size; omega) c3.1 c3.2 hb hn M1.out M2.out M3.out
                go_wp2_with fail
                refine C3.out.mono ?_
                rintro e0 w9 ⟨rfl, d9, r9, g9, s9, o9⟩
                have R9 : Hid (RowP _ _ _ _) := r9
                have FIN : Hid (Swaps a b d d9 ∧ SortedOn keyP PrX.pos a b d9) := ⟨SW2.out.trans (s9.mono (by omega) (Nat.le_refl _)), JOIN.out d9 s9 o9⟩
                have G9 : Hid _ := grown_trP HG2.out g9
                clear r9 g9 s9 o9
                go_wp2_with fail
                all_goals (go_end0; exact ⟨rfl, d9, R9.out, G9.out, FIN.out.1, FIN.out.2⟩)
              · have FIN : Hid (Swaps a b d d2 ∧ SortedOn keyP PrX.pos a b d2) := ⟨SW2.out, JOIN.out d2 (Swaps.refl _) (by
                  by_cases c4 : mid < e
                  · have : e = b := by omega
                    rw [← this]; exact M1.out
                  · have : e = mid := by omega
                    rw [← this]; exact M2.out)⟩
                by_cases c4 : mid < e
                · have z1 : (mid : Int) < (e : Int) := by omega
                  have z2 : ¬ (e : Int) < (b : Int) := by omega
                  go_wp2_with fail
                  all_goals (go_end0; exact ⟨rfl, d2, HR2.out, HG2.out, FIN.out.1, FIN.out.2⟩)
                · have z1 : ¬ (mid : Int) < (e : Int) := by omega
                  go_wp2_with fail
                  all_goals (go_end0; exact ⟨rfl, d2, HR2.out, HG2.out, FIN.out.1, FIN.out.2⟩)
            · have SS : Hid (SortedOn keyP PrX.pos a mid d1) := by
                by_cases c4 : a < s
                · have : s = mid := by omega
                  rw [← this]; exact PARTS.out.1
                · have : s = a := by omega
                  have q := PARTS.out.2.1
                  rw [this] at q
                  exact q
              have M1 : Hid (SortedOn keyP PrX.pos mid e d1) := PARTS.out.2.2.2.1
              have M2 : Hid (SortedOn keyP PrX.pos e b d1) := PARTS.out.2.2.2.2.1
              have M3 : Hid (Apart PrX.pos mid e b d1) := PARTS.out.2.2.2.2.2
              have JOIN : Hid (∀ d9, Swaps mid b d1 d9 → SortedOn keyP PrX.pos mid b d9 → SortedOn keyP PrX.pos a b d9) := fun d9 q1 q2 => join_sorted CROSS.out (Swaps.refl _) q1 SS.out q2
              by_cases c4 : a < s
              · have z1 : (a : Int) < (s : Int) := by omega
                have z2 : ¬ (s : Int) < (mid : Int) := by omega
                clear c2
                go_upto_region 43 with fail
                by_cases c3 : mid < e ∧ e < b
                · have z1 : (mid : Int) < (e : Int) := by omega
                  have z2 : (e : Int) < (b : Int) := by omega
                  have C3 : Hid (Calls _ _ _ _ _) := IHH.out g n cap mid e b d1 W1 (by omega) HR1.out (by have := HG1.out.size; omega) c3.1 c3.2 hb hn M1.out M2.out M3.out
                  go_wp2_with fail
                  refine C3.out.mono ?_
                  rintro e0 w9 ⟨rfl, d9, r9, g9, s9, o9⟩
                  have R9 : Hid (RowP _ _ _ _) := r9
                  have FIN : Hid (Swaps a b d d9 ∧ SortedOn keyP PrX.pos a b d9) := ⟨SW1.out.trans (s9.mono (by omega) (Nat.le_refl _)), JOIN.out d9 s9 o9⟩
                  have G9 : Hid _ := grown_trP HG1.out g9
                  clear r9 g9 s9 o9
                  go_wp2_with fail
                  all_goals (go_end0; exact ⟨rfl, d9, R9.out, G9.out, FIN.out.1, FIN.out.2⟩)
                · have FIN : Hid (Swaps a b d d1 ∧ SortedOn keyP PrX.pos a b d1) := ⟨SW1.out, JOIN.out d1 (Swaps.refl _) (by
                    by_cases c4 : mid < e
                    · have : e = b := by omega
                      rw [← this]; exact M1.out
                    · have : e = mid := by omega
                      rw [← this]; exact M2.out)⟩
                  by_cases c4 : mid < e
                  · have z1 : (mid : Int) < (e : Int) := by omega
                    have z2 : ¬ (e : Int) < (b : Int) := by omega
                    go_wp2_with fail
                    all_goals (go_end0; exact ⟨rfl, d1, HR1.out, HG1.out, FIN.out.1, FIN.out.2⟩)
                  · have z1 : ¬ (mid : Int) < (e : Int) := by omega
                    go_wp2_with fail
                    all_goals (go_end0; exact ⟨rfl, d1, HR1.out, HG1.out, FIN.out.1, FIN.out.2⟩)
              · have z1 : ¬ (a : Int) < (s : Int) := by omega
                clear c2
                go_upto_region 43 with fail
                by_cases c3 : mid < e ∧ e < b
                · have z1 : (mid : Int) < (e : Int) := by omega
                  have z2 : (e : Int) < (b : Int) := by omega
                  have C3 : Hid (Calls _ _ _ _ _) := IHH.out g n cap mid e b d1 W1 (by omega) HR1.out (by have := HG1.out.size; omega) c3.1 c3.2 hb hn M1.out M2.out M3.out
                  go_wp2_with fail
                  refine C3.out.mono ?_
                  rintro e0 w9 ⟨rfl, d9, r9, g9, s9, o9⟩
                  have R9 : Hid (RowP _ _ _ _) := r9
                  have FIN : Hid (Swaps a b d d9 ∧ SortedOn keyP PrX.pos a b d9) := ⟨SW1.out.trans (s9.mono (by omega) (Nat.le_refl _)), JOIN.out d9 s9 o9⟩
                  have G9 : Hid _ := grown_trP HG1.out g9
                  clear r9 g9 s9 o9
                  go_wp2_with fail
                  all_goals (go_end0; exact ⟨rfl, d9, R9.out, G9.out, FIN.out.1, FIN.out.2⟩)
                · have FIN : Hid (Swaps a b d d1 ∧ SortedOn keyP PrX.pos a b d1) := ⟨SW1.out, JOIN.out d1 (Swaps.refl _) (by
                    by_cases c4 : mid < e
                    · have : e = b := by omega
                      rw [← this]; exact M1.out
                    · have : e = mid := by omega
                      rw [← this]; exact M2.out)⟩
                  by_cases c4 : mid < e
                  · have z1 : (mid : Int) < (e : Int) := by omega
                    have z2 : ¬ (e : Int) < (b : Int) := by omega
                    go_wp2_with fail
                    all_goals (go_end0; exact ⟨rfl, d1, HR1.out, HG1.out, FIN.out.1, FIN.out.2⟩)
                  · have z1 : ¬ (mid : Int) < (e : Int) := by omega
                    go_wp2_with fail
                    all_goals (go_end0; exact ⟨rfl, d1, HR1.out, HG1.out, FIN.out.1, FIN.out.2⟩)
  · have zz : ¬ (mid : Int) < (m : Int) := by omega
    have zz2 : (m : Int) ≤ (mid : Int) := by omega
    go_enter Try.func101, Try.ntmps101
    go_upto_region 33 with fail
    rw [HPN.out]
    go_loopw [20, 21] (fun sv rv wr => ∃ s r : Nat, sv = .int .i64 s ∧ rv = .int .i64 r ∧ RowP wr g n d ∧ w.grownBy wr (some g) ∧ MidInv keyP a m b d s r) (fun sv rv _ => (intOf rv).toNat - (intOf sv).toNat)
    case atStart => exact ⟨loM a m b, hiM a m b, by rw [(LOW.out hmm).1], by rw [(LOW.out hmm).2], HR0.out, grown_reflM _ _, MI.out⟩
    case round =>
      obtain ⟨s, r, rfl, rfl, hrow, hgr, hmi⟩ := hrel
      have HR : Hid (RowP _ _ _ _) := hrow
      have HG : Hid _ := hgr
      have HM : Hid _ := hmi
      have hgw : g < wr.heap.size := by have := hgr.size; omega
      have hsr := hmi.le
      have hrm : r ≤ m := Nat.le_trans hmi.hi (mid_le ham hmb).2.2
      clear hrow hgr hmi
      by_cases hlt : s < r
      · have hltz : (s : Int) < (r : Int) := by omega
        obtain ⟨c, q1, q2, h0, h1, hlo, hhi⟩ := half_factsP (i := s) (j := r) (n := n) hlt (by omega) hn
        have MB := mid_bounds ham hmb (Nat.le_trans HM.out.lo hlo) (Nat.lt_of_lt_of_le hhi HM.out.hi)
        have HMB : Hid _ := MB
        rw [← HMID.out, ← HP.out] at MB
        have p0 : (0 : Int) ≤ (P : Int) - (c : Int) := by omega
        have p1 : (P : Int) - (c : Int) < (n : Int) := by omega
        have p2 : ((P : Int) - (c : Int)).toNat = P - c := by omega
        have p3 : IntKind.i64.wrap ((P : Int) - (c : Int)) = (P : Int) - (c : Int) := by rw [IntKind.wrap_i64] <;> omega
        obtain ⟨v, hv⟩ : ∃ v, cmpS (keyP (d (P - c))) (keyP (d c)) = v := ⟨_, rfl⟩
        have HV : Hid _ := hv
        by_cases hk : keyP (d (P - c)) < keyP (d c)
        · have hv0 : v < 0 := by rw [← hv]; exact cmpS_neg.2 hk
          have hv2 : decide (v < 0) = true := by rw [decide_eq_true_iff]; exact hv0
          have NX : Hid (MidInv keyP a m b d s c) := HM.out.down ham hmb HL.out HRR.out hlo hhi (by rw [← HMID.out, ← HP.out]; exact hk)
          clear hv hk
          have p0 : wr.cell? ⟨g, (P - c) * 2, none⟩ = some (.int .i64 (d (P - c)).k) := (HR.out.cell (i := P - c) (by omega) (c := 0) (by omega)).1
          have p1 : wr.cell? ⟨g, (P - c) * 2 + 1, none⟩ = some (.int .i64 (d (P - c)).v) := (HR.out.cell (i := P - c) (by omega) (c := 1) (by omega)).1
          have q0 : wr.cell? ⟨g, c * 2, none⟩ = some (.int .i64 (d c).k) := (HR.out.cell (i := c) (by omega) (c := 0) (by omega)).1
          have q1 : wr.cell? ⟨g, c * 2 + 1, none⟩ = some (.int .i64 (d c).v) := (HR.out.cell (i := c) (by omega) (c := 1) (by omega)).1
          have y0 := BelowByM.cell hgw p0
          have z0 := BelowByM.cell hgw q0
          have y1 := BelowByM.cell hgw p1
          have z1 := BelowByM.cell hgw q1
          have SE : Hid (∀ p : BelowByM wr, Calls Try.prog 70 #[.agg #[.int .i64 (d (P - c)).k, .int .i64 (d (P - c)).v], .agg #[.int .i64 (d c).k, .int .i64 (d c).v]] p.W fun e w' => e = .returned (.int .i64 v) ∧ Below p.W.heap.size p.W w') := fun p => by rw [← HV.out]; exact closP_any (d (P - c)) (d c) p.W
          clear p0 q0 p1 q1
          go_wp2_with fail
          refine wp_region_belowM (by kernel_rfl) (by kernel_rfl) ?_
          repeat (go_big_quiet_step ((go_at_call 70; exact below_callM (SE.out _))))
          refine wpQuiet_nil ?_
          rintro _ ⟨p, rfl⟩
          have PB : Hid (Below wr.heap.size wr p.W) := p.h
          have HRp : Hid (RowP p.W g n d) := HR.out.below hgw p.h
          have zp := p.h.size
          clear SE y0 z0 y1 z1
          generalize p.W = wp at *
          clear p
          go_wp2_with fail
          exact ⟨⟨s, c, rfl, rfl, HRp.out, grown_trP HG.out (grown_of_belowP _ PB.out), NX.out⟩, by simp [intOf] <;> omega⟩
        · have hv0 : 0 ≤ v := by rw [← hv]; have := mt cmpS_neg.1 hk; omega
          have hv1 : ¬ v < 0 := by omega
          have hv2 : decide (v < 0) = false := by rw [decide_eq_false_iff_not]; omega
          have NX : Hid (MidInv keyP a m b d (c + 1) r) := HM.out.up ham hmb HL.out HRR.out hlo hhi (by rw [← HMID.out, ← HP.out]; exact hk)
          clear hv hk
          have p0 : wr.cell? ⟨g, (P - c) * 2, none⟩ = some (.int .i64 (d (P - c)).k) := (HR.out.cell (i := P - c) (by omega) (c := 0) (by omega)).1
          have p1 : wr.cell? ⟨g, (P - c) * 2 + 1, none⟩ = some (.int .i64 (d (P - c)).v) := (HR.out.cell (i := P - c) (by omega) (c := 1) (by omega)).1
          have q0 : wr.cell? ⟨g, c * 2, none⟩ = some (.int .i64 (d c).k) := (HR.out.cell (i := c) (by omega) (c := 0) (by omega)).1
          have q1 : wr.cell? ⟨g, c * 2 + 1, none⟩ = some (.int .i64 (d c).v) := (HR.out.cell (i := c) (by omega) (c := 1) (by omega)).1
          have y0 := BelowByM.cell hgw p0
          have z0 := BelowByM.cell hgw q0
          have y1 := BelowByM.cell hgw p1
          have z1 := BelowByM.cell hgw q1
          have SE : Hid (∀ p : BelowByM wr, Calls Try.prog 70 #[.agg #[.int .i64 (d (P - c)).k, .int .i64 (d (P - c)).v], .agg #[.int .i64 (d c).k, .int .i64 (d c).v]] p.W fun e w' => e = .returned (.int .i64 v) ∧ Below p.W.heap.size p.W w') := fun p => by rw [← HV.out]; exact closP_any (d (P - c)) (d c) p.W
          clear p0 q0 p1 q1
          go_wp2_with fail
          refine wp_region_belowM (by kernel_rfl) (by kernel_rfl) ?_
          repeat (go_big_quiet_step ((go_at_call 70; exact below_callM (SE.out _))))
          refine wpQuiet_nil ?_
          rintro _ ⟨p, rfl⟩
          have PB : Hid (Below wr.heap.size wr p.W) := p.h
          have HRp : Hid (RowP p.W g n d) := HR.out.below hgw p.h
          have zp := p.h.size
          clear SE y0 z0 y1 z1
          generalize p.W = wp at *
          clear p
          go_wp2_with fail
          exact ⟨⟨c + 1, r, by go_num, rfl, HRp.out, grown_trP HG.out (grown_of_belowP _ PB.out), NX.out⟩, by simp [intOf] <;> omega⟩
      · obtain rfl : s = r := by omega
        have hltz : ¬ (s : Int) < (s : Int) := by omega
        obtain ⟨e, he⟩ : ∃ e, e = mid + m - s := ⟨_, rfl⟩
        obtain ⟨e1, e2, e3, e4, e5, e6, e7, e8⟩ := HM.out.ends ham hmb
        rw [← HMID.out] at e3 e4 e5 e6 e7 e8
        rw [← he] at e3 e4 e5 e7 e8
        have hen : (mid : Int) + (m : Int) - (s : Int) = (e : Int) := by omega
        have PARTS0 := rot_parts (key := keyP) (pos := PrX.pos) HL.out HRR.out HA.out e1 e2 e3 e4
        have CROSS0 := rot_cross (key := keyP) (pos := PrX.pos) HL.out HRR.out HA.out e1 e2 e3 e4 e7 e8
        rw [e5] at PARTS0 CROSS0
        have PARTS : Hid _ := PARTS0
        have CROSS : Hid _ := CROSS0
        have hms : s ≤ mid := by omega
        have hme : mid ≤ e := by omega
        have HEN : Hid _ := hen
        clear PARTS0 CROSS0 e5 e7 e8 he HM hen
        generalize wr = W0 at *
        have HR0' : Hid (RowP _ _ _ _) := HR.out
        have HG0 : Hid _ := HG.out
        clear HR HG
        go_upto_region 39 with fail
        rw [HEN.out]
        by_cases c1 : s < m ∧ m < e
        · have z1 : (s : Int) < (m : Int) := by omega
          have z2 : (m : Int) < (e : Int) := by omega
          have C1 : Hid (Calls _ _ _ _ _) := rotateP_any g n cap s m e (.func (.func 70) #[] #[]) d W0 HR0'.out (by have := HG0.out.size; omega) c1.1 c1.2 (by omega) hn
          go_wp2_with fail
          refine C1.out.mono ?_
          rintro e0 W1 ⟨rfl, r1, g1, s1⟩
          have HR1 : Hid (RowP _ _ _ _) := r1
          have HG1 : Hid _ := grown_trP HG0.out g1
          have SW1 : Hid (Swaps a b d (rotF d s m e)) := s1.mono e1 e4
          clear r1 g1 s1 c1 C1 z1 z2
          generalize rotF d s m e = d1 at *
          go_upto_region 41 with fail
          by_cases c2 : a < s ∧ s < mid
          · have z1 : (a : Int) < (s : Int) := by omega
            have z2 : (s : Int) < (mid : Int) := by omega
            have C2 : Hid (Calls _ _ _ _ _) := IHH.out g n cap a s mid d1 W1 (by omega) HR1.out (by have := HG1.out.size; omega) c2.1 c2.2 (by omega) hn PARTS.out.1 PARTS.out.2.1 PARTS.out.2.2.1
            go_wp2_with fail
            refine C2.out.mono ?_
            rintro e0 W2 ⟨rfl, d2, r9, g9, s9, o9⟩
            have HR2 : Hid (RowP _ _ _ _) := r9
            have HG2 : Hid _ := grown_trP HG1.out g9
            have SW2 : Hid (Swaps a b d d2) := SW1.out.trans (s9.mono (Nat.le_refl _) (by omega))
            have M1 : Hid (SortedOn keyP PrX.pos mid e d2) := PARTS.out.2.2.2.1.out s9 (by omega)
            have M2 : Hid (SortedOn keyP PrX.pos e b d2) := PARTS.out.2.2.2.2.1.out s9 (by omega)
            have M3 : Hid (Apart PrX.pos mid e b d2) := PARTS.out.2.2.2.2.2.swaps s9 (by omega)
            have JOIN : Hid (∀ d9, Swaps mid b d2 d9 → SortedOn keyP PrX.pos mid b d9 → SortedOn keyP PrX.pos a b d9) := fun d9 q1 q2 => join_sorted CROSS.out s9 q1 o9 q2
            clear r9 g9 s9 o9 c2 C2 z1 z2
            by_cases c3 : mid < e ∧ e < b
            · have z1 : (mid : Int) < (e : Int) := by omega
              have z2 : (e : Int) < (b : Int) := by omega
              have C3 : Hid (Calls _ _ _ _ _) := IHH.out g n cap mid e b d2 W2 (by omega) HR2.out (by have := HG2.out.size; omega) c3.1 c3.2 hb hn M1.out M2.out M3.out
              go_wp2_with fail
              refine C3.out.mono ?_
              rintro e0 w9 ⟨rfl, d9, r9, g9, s9, o9⟩
              have R9 : Hid (RowP _ _ _ _) := r9
              have FIN : Hid (Swaps a b d d9 ∧ SortedOn keyP PrX.pos a b d9) := ⟨SW2.out.trans (s9.mono (by omega) (Nat.le_refl _)), JOIN.out d9 s9 o9⟩
              have G9 : Hid _ := grown_trP HG2.out g9
              clear r9 g9 s9 o9
              go_wp2_with fail
              all_goals (go_end0; exact ⟨rfl, d9, R9.out, G9.out, FIN.out.1, FIN.out.2⟩)
            · have FIN : Hid (Swaps a b d d2 ∧ SortedOn keyP PrX.pos a b d2) := ⟨SW2.out, JOIN.out d2 (Swaps.refl _) (by
                by_cases c4 : mid < e
                · have : e = b := by omega
                  rw [← this]; exact M1.out
                · have : e = mid := by omega
                  rw [← this]; exact M2.out)⟩
              by_cases c4 : mid < e
              · have z1 : (mid : Int) < (e : Int) := by omega
                have z2 : ¬ (e : Int) < (b : Int) := by omega
                go_wp2_with fail
                all_goals (go_end0; exact ⟨rfl, d2, HR2.out, HG2.out, FIN.out.1, FIN.out.2⟩)
              · have z1 : ¬ (mid : Int) < (e : Int) := by omega
                go_wp2_with fail
                all_goals (go_end0; exact ⟨rfl, d2, HR2.out, HG2.out, FIN.out.1, FIN.out.2⟩)
          · have SS : Hid (SortedOn keyP PrX.pos a mid d1) := by
              by_cases c4 : a < s
              · have : s = mid := by omega
                rw [← this]; exact PARTS.out.1
              · have : s = a := by omega
                have q := PARTS.out.2.1
                rw [this] at q
                exact q
            have M1 : Hid (SortedOn keyP PrX.pos mid e d1) := PARTS.out.2.2.2.1
            have M2 : Hid (SortedOn keyP PrX.pos e b d1) := PARTS.out.2.2.2.2.1
            have M3 : Hid (Apart PrX.pos mid e b d1) := PARTS.out.2.2.2.2.2
            have JOIN : Hid (∀ d9, Swaps mid b d1 d9 → SortedOn keyP PrX.pos mid b d9 → SortedOn keyP PrX.pos a b d9) := fun d9 q1 q2 => join_sorted CROSS.out (Swaps.refl _) q1 SS.out q2
            by_cases c4 : a < s
            · have z1 : (a : Int) < (s : Int) := by omega
              have z2 : ¬ (s : Int) < (mid : Int) := by omega
              clear c2
              go_upto_region 43 with fail
              by_cases c3 : mid < e ∧ e < b
              · have z1 : (mid : Int) < (e : Int) := by omega
                have z2 : (e : Int) < (b : Int) := by omega
                have C3 : Hid (Calls _ _ _ _ _) := IHH.out g n cap mid e b d1 W1 (by omega) HR1.out (by have := HG1.out.size; omega) c3.1 c3.2 hb hn M1.out M2.out M3.out
                go_wp2_with fail
                refine C3.out.mono ?_
                rintro e0 w9 ⟨rfl, d9, r9, g9, s9, o9⟩
                have R9 : Hid (RowP _ _ _ _) := r9
                have FIN : Hid (Swaps a b d d9 ∧ SortedOn keyP PrX.pos a b d9) := ⟨SW1.out.trans (s9.mono (by omega) (Nat.le_refl _)), JOIN.out d9 s9 o9⟩
                have G9 : Hid _ := grown_trP HG1.out g9
                clear r9 g9 s9 o9
                go_wp2_with fail
                all_goals (go_end0; exact ⟨rfl, d9, R9.out, G9.out, FIN.out.1, FIN.out.2⟩)
              · have FIN : Hid (Swaps a b d d1 ∧ SortedOn keyP PrX.pos a b d1) := ⟨SW1.out, JOIN.out d1 (Swaps.refl _) (by
                  by_cases c4 : mid < e
                  · have : e = b := by omega
                    rw [← this]; exact M1.out
                  · have : e = mid := by omega
                    rw [← this]; exact M2.out)⟩
                by_cases c4 : mid < e
                · have z1 : (mid : Int) < (e : Int) := by omega
                  have z2 : ¬ (e : Int) < (b : Int) := by omega
                  go_wp2_with fail
                  all_goals (go_end0; exact ⟨rfl, d1, HR1.out, HG1.out, FIN.out.1, FIN.out.2⟩)
                · have z1 : ¬ (mid : Int) < (e : Int) := by omega
                  go_wp2_with fail
                  all_goals (go_end0; exact ⟨rfl, d1, HR1.out, HG1.out, FIN.out.1, FIN.out.2⟩)
            · have z1 : ¬ (a : Int) < (s : Int) := by omega
              clear c2
              go_upto_region 43 with fail
              by_cases c3 : mid < e ∧ e < b
              · have z1 : (mid : Int) < (e : Int) := by omega
                have z2 : (e : Int) < (b : Int) := by omega
                have C3 : Hid (Calls _ _ _ _ _) := IHH.out g n cap mid e b d1 W1 (by omega) HR1.out (by have := HG1.out.size; omega) c3.1 c3.2 hb hn M1.out M2.out M3.out
                go_wp2_with fail
                refine C3.out.mono ?_
                rintro e0 w9 ⟨rfl, d9, r9, g9, s9, o9⟩
                have R9 : Hid (RowP _ _ _ _) := r9
                have FIN : Hid (Swaps a b d d9 ∧ SortedOn keyP PrX.pos a b d9) := ⟨SW1.out.trans (s9.mono (by omega) (Nat.le_refl _)), JOIN.out d9 s9 o9⟩
                have G9 : Hid _ := grown_trP HG1.out g9
                clear r9 g9 s9 o9
                go_wp2_with fail
                all_goals (go_end0; exact ⟨rfl, d9, R9.out, G9.out, FIN.out.1, FIN.out.2⟩)
              · have FIN : Hid (Swaps a b d d1 ∧ SortedOn keyP PrX.pos a b d1) := ⟨SW1.out, JOIN.out d1 (Swaps.refl _) (by
                  by_cases c4 : mid < e
                  · have : e = b := by omega
                    rw [← this]; exact M1.out
                  · have : e = mid := by omega
                    rw [← this]; exact M2.out)⟩
                by_cases c4 : mid < e
                · have z1 : (mid : Int) < (e : Int) := by omega
                  have z2 : ¬ (e : Int) < (b : Int) := by omega
                  go_wp2_with fail
                  all_goals (go_end0; exact ⟨rfl, d1, HR1.out, HG1.out, FIN.out.1, FIN.out.2⟩)
                · have z1 : ¬ (mid : Int) < (e : Int) := by omega
                  go_wp2_with fail
                  all_goals (go_end0; exact ⟨rfl, d1, HR1.out, HG1.out, FIN.out.1, FIN.out.2⟩)
        · have hrt : rotF d s m e = d := rotF_none e2 e3 (by omega)
          rw [hrt] at PARTS CROSS
          obtain ⟨d1, hd1⟩ : ∃ d1, d1 = d := ⟨_, rfl⟩
          have HR1 : Hid (RowP W0 g n d1) := by rw [hd1]; exact HR0'.out
          have SW1 : Hid (Swaps a b d d1) := by rw [hd1]; exact Swaps.refl _
          rw [← hd1] at PARTS CROSS
          have HG1 : Hid _ := HG0.out
          clear hrt hd1 HR0'
          generalize W0 = W1 at *
          by_cases c4 : s < m
          · have z1 : (s : Int) < (m : Int) := by omega
            have z2 : ¬ (m : Int) < (e : Int) := by omega
            clear c1
            go_upto_region 41 with fail
            clear z1 z2
            by_cases c2 : a < s ∧ s < mid
            · have z1 : (a : Int) < (s : Int) := by omega
              have z2 : (s : Int) < (mid : Int) := by omega
              have C2 : Hid (Calls _ _ _ _ _) := IHH.out g n cap a s mid d1 W1 (by omega) HR1.out (by have := HG1.out.size; omega) c2.1 c2.2 (by omega) hn PARTS.out.1 PARTS.out.2.1 PARTS.out.2.2.1
              go_wp2_with fail
              refine C2.out.mono ?_
              rintro e0 W2 ⟨rfl, d2, r9, g9, s9, o9⟩
              have HR2 : Hid (RowP _ _ _ _) := r9
              have HG2 : Hid _ := grown_trP HG1.out g9
              have SW2 : Hid (Swaps a b d d2) := SW1.out.trans (s9.mono (Nat.le_refl _) (by omega))
              have M1 : Hid (SortedOn keyP PrX.pos mid e d2) := PARTS.out.2.2.2.1.out s9 (by omega)
              have M2 : Hid (SortedOn keyP PrX.pos e b d2) := PARTS.out.2.2.2.2.1.out s9 (by omega)
              have M3 : Hid (Apart PrX.pos mid e b d2) := PARTS.out.2.2.2.2.2.swaps s9 (by omega)
              have JOIN : Hid (∀ d9, Swaps mid b d2 d9 → SortedOn keyP PrX.pos mid b d9 → SortedOn keyP PrX.pos a b d9) := fun d9 q1 q2 => join_sorted CROSS.out s9 q1 o9 q2
              clear r9 g9 s9 o9 c2 C2 z1 z2
              by_cases c3 : mid < e ∧ e < b
              · have z1 : (mid : Int) < (e : Int) := by omega
                have z2 : (e : Int) < (b : Int) := by omega
                have C3 : Hid (Calls _ _ _ _ _) := IHH.out g n cap mid e b d2 W2 (by omega) HR2.out (by have := HG2.out.size; omega) c3.1 c3.2 hb hn M1.out M2.out M3.out
                go_wp2_with fail
                refine C3.out.mono ?_
                rintro e0 w9 ⟨rfl, d9, r9, g9, s9, o9⟩
                have R9 : Hid (RowP _ _ _ _) := r9
                have FIN : Hid (Swaps a b d d9 ∧ SortedOn keyP PrX.pos a b d9) := ⟨SW2.out.trans (s9.mono (by omega) (Nat.le_refl _)), JOIN.out d9 s9 o9⟩
                have G9 : Hid _ := grown_trP HG2.out g9
                clear r9 g9 s9 o9
                go_wp2_with fail
                all_goals (go_end0; exact ⟨rfl, d9, R9.out, G9.out, FIN.out.1, FIN.out.2⟩)
              · have FIN : Hid (Swaps a b d d2 ∧ SortedOn keyP PrX.pos a b d2) := ⟨SW2.out, JOIN.out d2 (Swaps.refl _) (by
                  by_cases c4 : mid < e
                  · have : e = b := by omega
                    rw [← this]; exact M1.out
                  · have : e = mid := by omega
                    rw [← this]; exact M2.out)⟩
                by_cases c4 : mid < e
                · have z1 : (mid : Int) < (e : Int) := by omega
                  have z2 : ¬ (e : Int) < (b : Int) := by omega
                  go_wp2_with fail
                  all_goals (go_end0; exact ⟨rfl, d2, HR2.out, HG2.out, FIN.out.1, FIN.out.2⟩)
                · have z1 : ¬ (mid : Int) < (e : Int) := by omega
                  go_wp2_with fail
                  all_goals (go_end0; exact ⟨rfl, d2, HR2.out, HG2.out, FIN.out.1, FIN.out.2⟩)
            · have SS : Hid (SortedOn keyP PrX.pos a mid d1) := by
                by_cases c4 : a < s
                · have : s = mid := by omega
                  rw [← this]; exact PARTS.out.1
                · have : s = a := by omega
                  have q := PARTS.out.2.1
                  rw [this] at q
                  exact q
              have M1 : Hid (SortedOn keyP PrX.pos mid e d1) := PARTS.out.2.2.2.1
              have M2 : Hid (SortedOn keyP PrX.pos e b d1) := PARTS.out.2.2.2.2.1
              have M3 : Hid (Apart PrX.pos mid e b d1) := PARTS.out.2.2.2.2.2
              have JOIN : Hid (∀ d9, Swaps mid b d1 d9 → SortedOn keyP PrX.pos mid b d9 → SortedOn keyP PrX.pos a b d9) := fun d9 q1 q2 => join_sorted CROSS.out (Swaps.refl _) q1 SS.out q2
              by_cases c4 : a < s
              · have z1 : (a : Int) < (s : Int) := by omega
                have z2 : ¬ (s : Int) < (mid : Int) := by omega
                clear c2
                go_upto_region 43 with fail
                by_cases c3 : mid < e ∧ e < b
                · have z1 : (mid : Int) < (e : Int) := by omega
                  have z2 : (e : Int) < (b : Int) := by omega
                  have C3 : Hid (Calls _ _ _ _ _) := IHH.out g n cap mid e b d1 W1 (by omega) HR1.out (by have := HG1.out.size; omega) c3.1 c3.2 hb hn M1.out M2.out M3.out
                  go_wp2_with fail
                  refine C3.out.mono ?_
                  rintro e0 w9 ⟨rfl, d9, r9, g9, s9, o9⟩
                  have R9 : Hid (RowP _ _ _ _) := r9
                  have FIN : Hid (Swaps a b d d9 ∧ SortedOn keyP PrX.pos a b d9) := ⟨SW1.out.trans (s9.mono (by omega) (Nat.le_refl _)), JOIN.out d9 s9 o9⟩
                  have G9 : Hid _ := grown_trP HG1.out g9
                  clear r9 g9 s9 o9
                  go_wp2_with fail
                  all_goals (go_end0; exact ⟨rfl, d9, R9.out, G9.out, FIN.out.1, FIN.out.2⟩)
                · have FIN : Hid (Swaps a b d d1 ∧ SortedOn keyP PrX.pos a b d1) := ⟨SW1.out, JOIN.out d1 (Swaps.refl _) (by
                    by_cases c4 : mid < e
                    · have : e = b := by omega
                      rw [← this]; exact M1.out
                    · have : e = mid := by omega
                      rw [← this]; exact M2.out)⟩
                  by_cases c4 : mid < e
                  · have z1 : (mid : Int) < (e : Int) := by omega
                    have z2 : ¬ (e : Int) < (b : Int) := by omega
                    go_wp2_with fail
                    all_goals (go_end0; exact ⟨rfl, d1, HR1.out, HG1.out, FIN.out.1, FIN.out.2⟩)
                  · have z1 : ¬ (mid : Int) < (e : Int) := by omega
                    go_wp2_with fail
                    all_goals (go_end0; exact ⟨rfl, d1, HR1.out, HG1.out, FIN.out.1, FIN.out.2⟩)
              · have z1 : ¬ (a : Int) < (s : Int) := by omega
                clear c2
                go_upto_region 43 with fail
                by_cases c3 : mid < e ∧ e < b
                · have z1 : (mid : Int) < (e : Int) := by omega
                  have z2 : (e : Int) < (b : Int) := by omega
                  have C3 : Hid (Calls _ _ _ _ _) := IHH.out g n cap mid e b d1 W1 (by omega) HR1.out (by have := HG1.out.size; omega) c3.1 c3.2 hb hn M1.out M2.out M3.out
                  go_wp2_with fail
                  refine C3.out.mono ?_
                  rintro e0 w9 ⟨rfl, d9, r9, g9, s9, o9⟩
                  have R9 : Hid (RowP _ _ _ _) := r9
                  have FIN : Hid (Swaps a b d d9 ∧ SortedOn keyP PrX.pos a b d9) := ⟨SW1.out.trans (s9.mono (by omega) (Nat.le_refl _)), JOIN.out d9 s9 o9⟩
                  have G9 : Hid _ := grown_trP HG1.out g9
                  clear r9 g9 s9 o9
                  go_wp2_with fail
                  all_goals (go_end0; exact ⟨rfl, d9, R9.out, G9.out, FIN.out.1, FIN.out.2⟩)
                · have FIN : Hid (Swaps a b d d1 ∧ SortedOn keyP PrX.pos a b d1) := ⟨SW1.out, JOIN.out d1 (Swaps.refl _) (by
                    by_cases c4 : mid < e
                    · have : e = b := by omega
                      rw [← this]; exact M1.out
                    · have : e = mid := by omega
                      rw [← this]; exact M2.out)⟩
                  by_cases c4 : mid < e
                  · have z1 : (mid : Int) < (e : Int) := by omega
                    have z2 : ¬ (e : Int) < (b : Int) := by omega
                    go_wp2_with fail
                    all_goals (go_end0; exact ⟨rfl, d1, HR1.out, HG1.out, FIN.out.1, FIN.out.2⟩)
                  · have z1 : ¬ (mid : Int) < (e : Int) := by omega
                    go_wp2_with fail
                    all_goals (go_end0; exact ⟨rfl, d1, HR1.out, HG1.out, FIN.out.1, FIN.out.2⟩)
          · have z1 : ¬ (s : Int) < (m : Int) := by omega
            clear c1
            go_upto_region 41 with fail
            clear z1
            by_cases c2 : a < s ∧ s < mid
            · have z1 : (a : Int) < (s : Int) := by omega
              have z2 : (s : Int) < (mid : Int) := by omega
              have C2 : Hid (Calls _ _ _ _ _) := IHH.out g n cap a s mid d1 W1 (by omega) HR1.out (by have := HG1.out.size; omega) c2.1 c2.2 (by omega) hn PARTS.out.1 PARTS.out.2.1 PARTS.out.2.2.1
              go_wp2_with fail
              refine C2.out.mono ?_
              rintro e0 W2 ⟨rfl, d2, r9, g9, s9, o9⟩
              have HR2 : Hid (RowP _ _ _ _) := r9
              have HG2 : Hid _ := grown_trP HG1.out g9
              have SW2 : Hid (Swaps a b d d2) := SW1.out.trans (s9.mono (Nat.le_refl _) (by omega))
              have M1 : Hid (SortedOn keyP PrX.pos mid e d2) := PARTS.out.2.2.2.1.out s9 (by omega)
              have M2 : Hid (SortedOn keyP PrX.pos e b d2) := PARTS.out.2.2.2.2.1.out s9 (by omega)
              have M3 : Hid (Apart PrX.pos mid e b d2) := PARTS.out.2.2.2.2.2.swaps s9 (by omega)
              have JOIN : Hid (∀ d9, Swaps mid b d2 d9 → SortedOn keyP PrX.pos mid b d9 → SortedOn keyP PrX.pos a b d9) := fun d9 q1 q2 => join_sorted CROSS.out s9 q1 o9 q2
              clear r9 g9 s9 o9 c2 C2 z1 z2
              by_cases c3 : mid < e ∧ e < b
              · have z1 : (mid : Int) < (e : Int) := by omega
                have z2 : (e : Int) < (b : Int) := by omega
                have C3 : Hid (Calls _ _ _ _ _) := IHH.out g n cap mid e b d2 W2 (by omega) HR2.out (by have := HG2.out.size; omega) c3.1 c3.2 hb hn M1.out M2.out M3.out
                go_wp2_with fail
                refine C3.out.mono ?_
                rintro e0 w9 ⟨rfl, d9, r9, g9, s9, o9⟩
                have R9 : Hid (RowP _ _ _ _) := r9
                have FIN : Hid (Swaps a b d d9 ∧ SortedOn keyP PrX.pos a b d9) := ⟨SW2.out.trans (s9.mono (by omega) (Nat.le_refl _)), JOIN.out d9 s9 o9⟩
                have G9 : Hid _ := grown_trP HG2.out g9
                clear r9 g9 s9 o9
                go_wp2_with fail
                all_goals (go_end0; exact ⟨rfl, d9, R9.out, G9.out, FIN.out.1, FIN.out.2⟩)
              · have FIN : Hid (Swaps a b d d2 ∧ SortedOn keyP PrX.pos a b d2) := ⟨SW2.out, JOIN.out d2 (Swaps.refl _) (by
                  by_cases c4 : mid < e
                  · have : e = b := by omega
                    rw [← this]; exact M1.out
                  · have : e = mid := by omega
                    rw [← this]; exact M2.out)⟩
                by_cases c4 : mid < e
                · have z1 : (mid : Int) < (e : Int) := by omega
                  have z2 : ¬ (e : Int) < (b : Int) := by omega
                  go_wp2_with fail
                  all_goals (go_end0; exact ⟨rfl, d2, HR2.out, HG2.out, FIN.out.1, FIN.out.2⟩)
                · have z1 : ¬ (mid : Int) < (e : Int) := by omega
                  go_wp2_with fail
                  all_goals (go_end0; exact ⟨rfl, d2, HR2.out, HG2.out, FIN.out.1, FIN.out.2⟩)
            · have SS : Hid (SortedOn keyP PrX.pos a mid d1) := by
                by_cases c4 : a < s
                · have : s = mid := by omega
                  rw [← this]; exact PARTS.out.1
                · have : s = a := by omega
                  have q := PARTS.out.2.1
                  rw [this] at q
                  exact q
              have M1 : Hid (SortedOn keyP PrX.pos mid e d1) := PARTS.out.2.2.2.1
              have M2 : Hid (SortedOn keyP PrX.pos e b d1) := PARTS.out.2.2.2.2.1
              have M3 : Hid (Apart PrX.pos mid e b d1) := PARTS.out.2.2.2.2.2
              have JOIN : Hid (∀ d9, Swaps mid b d1 d9 → SortedOn keyP PrX.pos mid b d9 → SortedOn keyP PrX.pos a b d9) := fun d9 q1 q2 => join_sorted CROSS.out (Swaps.refl _) q1 SS.out q2
              by_cases c4 : a < s
              · have z1 : (a : Int) < (s : Int) := by omega
                have z2 : ¬ (s : Int) < (mid : Int) := by omega
                clear c2
                go_upto_region 43 with fail
                by_cases c3 : mid < e ∧ e < b
                · have z1 : (mid : Int) < (e : Int) := by omega
                  have z2 : (e : Int) < (b : Int) := by omega
                  have C3 : Hid (Calls _ _ _ _ _) := IHH.out g n cap mid e b d1 W1 (by omega) HR1.out (by have := HG1.out.size; omega) c3.1 c3.2 hb hn M1.out M2.out M3.out
                  go_wp2_with fail
                  refine C3.out.mono ?_
                  rintro e0 w9 ⟨rfl, d9, r9, g9, s9, o9⟩
                  have R9 : Hid (RowP _ _ _ _) := r9
                  have FIN : Hid (Swaps a b d d9 ∧ SortedOn keyP PrX.pos a b d9) := ⟨SW1.out.trans (s9.mono (by omega) (Nat.le_refl _)), JOIN.out d9 s9 o9⟩
                  have G9 : Hid _ := grown_trP HG1.out g9
                  clear r9 g9 s9 o9
                  go_wp2_with fail
                  all_goals (go_end0; exact ⟨rfl, d9, R9.out, G9.out, FIN.out.1, FIN.out.2⟩)
                · have FIN : Hid (Swaps a b d d1 ∧ SortedOn keyP PrX.pos a b d1) := ⟨SW1.out, JOIN.out d1 (Swaps.refl _) (by
                    by_cases c4 : mid < e
                    · have : e = b := by omega
                      rw [← this]; exact M1.out
                    · have : e = mid := by omega
                      rw [← this]; exact M2.out)⟩
                  by_cases c4 : mid < e
                  · have z1 : (mid : Int) < (e : Int) := by omega
                    have z2 : ¬ (e : Int) < (b : Int) := by omega
                    go_wp2_with fail
                    all_goals (go_end0; exact ⟨rfl, d1, HR1.out, HG1.out, FIN.out.1, FIN.out.2⟩)
                  · have z1 : ¬ (mid : Int) < (e : Int) := by omega
                    go_wp2_with fail
                    all_goals (go_end0; exact ⟨rfl, d1, HR1.out, HG1.out, FIN.out.1, FIN.out.2⟩)
              · have z1 : ¬ (a : Int) < (s : Int) := by omega
                clear c2
                go_upto_region 43 with fail
                by_cases c3 : mid < e ∧ e < b
                · have z1 : (mid : Int) < (e : Int) := by omega
                  have z2 : (e : Int) < (b : Int) := by omega
                  have C3 : Hid (Calls _ _ _ _ _) := IHH.out g n cap mid e b d1 W1 (by omega) HR1.out (by have := HG1.out.size; omega) c3.1 c3.2 hb hn M1.out M2.out M3.out
                  go_wp2_with fail
                  refine C3.out.mono ?_
                  rintro e0 w9 ⟨rfl, d9, r9, g9, s9, o9⟩
                  have R9 : Hid (RowP _ _ _ _) := r9
                  have FIN : Hid (Swaps a b d d9 ∧ SortedOn keyP PrX.pos a b d9) := ⟨SW1.out.trans (s9.mono (by omega) (Nat.le_refl _)), JOIN.out d9 s9 o9⟩
                  have G9 : Hid _ := grown_trP HG1.out g9
                  clear r9 g9 s9 o9
                  go_wp2_with fail
                  all_goals (go_end0; exact ⟨rfl, d9, R9.out, G9.out, FIN.out.1, FIN.out.2⟩)
                · have FIN : Hid (Swaps a b d d1 ∧ SortedOn keyP PrX.pos a b d1) := ⟨SW1.out, JOIN.out d1 (Swaps.refl _) (by
                    by_cases c4 : mid < e
                    · have : e = b := by omega
                      rw [← this]; exact M1.out
                    · have : e = mid := by omega
                      rw [← this]; exact M2.out)⟩
                  by_cases c4 : mid < e
                  · have z1 : (mid : Int) < (e : Int) := by omega
                    have z2 : ¬ (e : Int) < (b : Int) := by omega
                    go_wp2_with fail
                    all_goals (go_end0; exact ⟨rfl, d1, HR1.out, HG1.out, FIN.out.1, FIN.out.2⟩)
                  · have z1 : ¬ (mid : Int) < (e : Int) := by omega
                    go_wp2_with fail
                    all_goals (go_end0; exact ⟨rfl, d1, HR1.out, HG1.out, FIN.out.1, FIN.out.2⟩)

theorem symP_all : ∀ len, SymP len
  | 0 => fun g n cap a m b d w h _ _ h1 h2 => by omega
  | len + 1 => fun g n cap a m b d w hlen hr hg ham hmb hb hn hL hR hA => by
    by_cases c1 : m = a + 1
    · exact symFirstP g n cap a m b d w hr hg ham hmb hb hn hL hR hA c1
    · by_cases c2 : b = m + 1
      · exact symLastP g n cap a m b d w hr hg ham hmb hb hn hL hR hA c1 c2
      · exact symMidP len g n cap a m b d w (symP_all len) hlen hr hg ham hmb hb hn hL hR hA c1 c2
end Go.Proofs.Ytljidfaeljpnpaa
