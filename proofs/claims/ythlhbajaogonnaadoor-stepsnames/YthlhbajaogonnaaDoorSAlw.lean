
/- Layer 18: allows: the conditions of each kind. Made by mk_salw.py. -/

import Derived.Test.YthlhbajaogonnaaDoorSAl0

namespace Go.Proofs.YthlhbajaogonnaaDoor

open Go.RowKit

attribute [local go_sem ↓] Go.wp_at_zero Go.wp_at_succ

set_option maxRecDepth 100000 in
set_option maxHeartbeats 4000000 in
theorem allows1 (sb : Nat) (base : Option Addr) (b o c : Nat) (t : NL) (root : Int) (mi : Bool) (x l r ll lr rl rr rll rlr : Int) (w : World) (h : SBox w sb base b o c t root mi x l r ll lr rl rr rll rlr) (hx : plOk t x) (hl : plOk t l) (hr : plOk t r) (hll : plOk t ll) (hlr : plOk t lr) (hrl : plOk t rl) (hrr : plOk t rr) :
    Calls Tryd.prog 28 #[.pointer (some ⟨sb, 0, none⟩), .int .i64 1] w fun e w' => e = .returned (.bool ((wtP t l == 0) && ((wtP t r == 0) && (decide (0 < wtP t x) && ((wtP t ll == 0) || ((wtP t lr == 0) || ((wtP t rl == 0) || (wtP t rr == 0)))))))) ∧ Below w.heap.size w w' := by
  have Px : Hid (plOk t x) := hx
  have Pl : Hid (plOk t l) := hl
  have Pr : Hid (plOk t r) := hr
  have Pll : Hid (plOk t ll) := hll
  have Plr : Hid (plOk t lr) := hlr
  have Prl : Hid (plOk t rl) := hrl
  have Prr : Hid (plOk t rr) := hrr
  have HS : Hid (SBox w sb base b o c t root mi x l r ll lr rl rr rll rlr) := h
  have CC : Hid (∀ z, Below w.heap.size w z → sb < z.heap.size ∧ z.cell? ⟨sb, 1, none⟩ = some (.int .i64 root) ∧ z.cell? ⟨sb, 3, none⟩ = some (.int .i64 x) ∧ z.cell? ⟨sb, 4, none⟩ = some (.int .i64 l) ∧ z.cell? ⟨sb, 5, none⟩ = some (.int .i64 r) ∧ z.cell? ⟨sb, 6, none⟩ = some (.int .i64 ll) ∧ z.cell? ⟨sb, 7, none⟩ = some (.int .i64 lr) ∧ z.cell? ⟨sb, 8, none⟩ = some (.int .i64 rl) ∧ z.cell? ⟨sb, 9, none⟩ = some (.int .i64 rr) ∧ z.cell? ⟨sb, 10, none⟩ = some (.int .i64 rll) ∧ z.cell? ⟨sb, 11, none⟩ = some (.int .i64 rlr)) := fun z hz => by have q := HS.out.below hz; exact ⟨q.lt, q.c1, q.c3, q.c4, q.c5, q.c6, q.c7, q.c8, q.c9, q.c10, q.c11⟩
  have WT : Hid (∀ (W : World) (p : Int), StAt W sb base b o c t mi → plOk t p → Calls Tryd.prog 29 #[.pointer (some ⟨sb, 0, none⟩), .int .i64 p] W fun e w' => e = .returned (.int .i64 (wtP t p)) ∧ Below W.heap.size W w') := fun W p h1 h2 => weight_any sb base b o c t mi p W h1 h2
  have B : Hid (Below w.heap.size w w) := Below.refl _ _
  obtain ⟨slt, s1, s3, s4, s5, s6, s7, s8, s9, s10, s11⟩ := CC.out w (Below.refl _ _)
  obtain ⟨E, hE⟩ : ∃ E : Bool, E = ((wtP t l == 0) && ((wtP t r == 0) && (decide (0 < wtP t x) && ((wtP t ll == 0) || ((wtP t lr == 0) || ((wtP t rl == 0) || (wtP t rr == 0))))))) := ⟨_, rfl⟩
  rw [← hE]
  have HF : Hid (E = ((wtP t l == 0) && ((wtP t r == 0) && (decide (0 < wtP t x) && ((wtP t ll == 0) || ((wtP t lr == 0) || ((wtP t rl == 0) || (wtP t rr == 0)))))))) := hE
  clear h hx hl hr hll hlr hrl hrr
  clear hE
  cases h1 : (wtP t l == 0)
  · rw [h1] at HF
    go_enter Tryd.func28, Tryd.ntmps28
    go_wp2_with (first | (go_at_call 29; refine (WT.out _ _ (HS.out.below B.out).st (by (first | (with_reducible exact Px.out) | (with_reducible exact Pl.out) | (with_reducible exact Pr.out) | (with_reducible exact Pll.out) | (with_reducible exact Plr.out) | (with_reducible exact Prl.out) | (with_reducible exact Prr.out)))).mono ?_; rintro e w1 ⟨rfl, hb1⟩; have B' : Hid (Below w.heap.size w w1) := B.out.trans (hb1.mono B.out.size); clear hb1 B; have B : Hid (Below w.heap.size w w1) := B'.out; clear B'; clear slt s1 s3 s4 s5 s6 s7 s8 s9 s10 s11; obtain ⟨slt, s1, s3, s4, s5, s6, s7, s8, s9, s10, s11⟩ := CC.out _ B.out))
    go_ret
    exact ⟨by rw [HF.out]; rfl, B.out⟩
  · rw [h1] at HF
    cases h2 : (wtP t r == 0)
    · rw [h2] at HF
      go_enter Tryd.func28, Tryd.ntmps28
      go_wp2_with (first | (go_at_call 29; refine (WT.out _ _ (HS.out.below B.out).st (by (first | (with_reducible exact Px.out) | (with_reducible exact Pl.out) | (with_reducible exact Pr.out) | (with_reducible exact Pll.out) | (with_reducible exact Plr.out) | (with_reducible exact Prl.out) | (with_reducible exact Prr.out)))).mono ?_; rintro e w1 ⟨rfl, hb1⟩; have B' : Hid (Below w.heap.size w w1) := B.out.trans (hb1.mono B.out.size); clear hb1 B; have B : Hid (Below w.heap.size w w1) := B'.out; clear B'; clear slt s1 s3 s4 s5 s6 s7 s8 s9 s10 s11; obtain ⟨slt, s1, s3, s4, s5, s6, s7, s8, s9, s10, s11⟩ := CC.out _ B.out))
      go_ret
      exact ⟨by rw [HF.out]; rfl, B.out⟩
    · rw [h2] at HF
      cases h3 : decide (0 < wtP t x)
      · rw [h3] at HF
        go_enter Tryd.func28, Tryd.ntmps28
        go_wp2_with (first | (go_at_call 29; refine (WT.out _ _ (HS.out.below B.out).st (by (first | (with_reducible exact Px.out) | (with_reducible exact Pl.out) | (with_reducible exact Pr.out) | (with_reducible exact Pll.out) | (with_reducible exact Plr.out) | (with_reducible exact Prl.out) | (with_reducible exact Prr.out)))).mono ?_; rintro e w1 ⟨rfl, hb1⟩; have B' : Hid (Below w.heap.size w w1) := B.out.trans (hb1.mono B.out.size); clear hb1 B; have B : Hid (Below w.heap.size w w1) := B'.out; clear B'; clear slt s1 s3 s4 s5 s6 s7 s8 s9 s10 s11; obtain ⟨slt, s1, s3, s4, s5, s6, s7, s8, s9, s10, s11⟩ := CC.out _ B.out))
        go_ret
        exact ⟨by rw [HF.out]; rfl, B.out⟩
      · rw [h3] at HF
        cases h4 : (wtP t ll == 0)
        · rw [h4] at HF
          cases h5 : (wtP t lr == 0)
          · rw [h5] at HF
            cases h6 : (wtP t rl == 0)
            · rw [h6] at HF
              cases h7 : (wtP t rr == 0)
              · rw [h7] at HF
                go_enter Tryd.func28, Tryd.ntmps28
                go_wp2_with (first | (go_at_call 29; refine (WT.out _ _ (HS.out.below B.out).st (by (first | (with_reducible exact Px.out) | (with_reducible exact Pl.out) | (with_reducible exact Pr.out) | (with_reducible exact Pll.out) | (with_reducible exact Plr.out) | (with_reducible exact Prl.out) | (with_reducible exact Prr.out)))).mono ?_; rintro e w1 ⟨rfl, hb1⟩; have B' : Hid (Below w.heap.size w w1) := B.out.trans (hb1.mono B.out.size); clear hb1 B; have B : Hid (Below w.heap.size w w1) := B'.out; clear B'; clear slt s1 s3 s4 s5 s6 s7 s8 s9 s10 s11; obtain ⟨slt, s1, s3, s4, s5, s6, s7, s8, s9, s10, s11⟩ := CC.out _ B.out))
                go_ret
                exact ⟨by rw [HF.out]; rfl, B.out⟩
              · rw [h7] at HF
                go_enter Tryd.func28, Tryd.ntmps28
                go_wp2_with (first | (go_at_call 29; refine (WT.out _ _ (HS.out.below B.out).st (by (first | (with_reducible exact Px.out) | (with_reducible exact Pl.out) | (with_reducible exact Pr.out) | (with_reducible exact Pll.out) | (with_reducible exact Plr.out) | (with_reducible exact Prl.out) | (with_reducible exact Prr.out)))).mono ?_; rintro e w1 ⟨rfl, hb1⟩; have B' : Hid (Below w.heap.size w w1) := B.out.trans (hb1.mono B.out.size); clear hb1 B; have B : Hid (Below w.heap.size w w1) := B'.out; clear B'; clear slt s1 s3 s4 s5 s6 s7 s8 s9 s10 s11; obtain ⟨slt, s1, s3, s4, s5, s6, s7, s8, s9, s10, s11⟩ := CC.out _ B.out))
                go_ret
                exact ⟨by rw [HF.out]; rfl, B.out⟩
            · rw [h6] at HF
              go_enter Tryd.func28, Tryd.ntmps28
              go_wp2_with (first | (go_at_call 29; refine (WT.out _ _ (HS.out.below B.out).st (by (first | (with_reducible exact Px.out) | (with_reducible exact Pl.out) | (with_reducible exact Pr.out) | (with_reducible exact Pll.out) | (with_reducible exact Plr.out) | (with_reducible exact Prl.out) | (with_reducible exact Prr.out)))).mono ?_; rintro e w1 ⟨rfl, hb1⟩; have B' : Hid (Below w.heap.size w w1) := B.out.trans (hb1.mono B.out.size); clear hb1 B; have B : Hid (Below w.heap.size w w1) := B'.out; clear B'; clear slt s1 s3 s4 s5 s6 s7 s8 s9 s10 s11; obtain ⟨slt, s1, s3, s4, s5, s6, s7, s8, s9, s10, s11⟩ := CC.out _ B.out))
              go_ret
              exact ⟨by rw [HF.out]; rfl, B.out⟩
          · rw [h5] at HF
            go_enter Tryd.func28, Tryd.ntmps28
            go_wp2_with (first | (go_at_call 29; refine (WT.out _ _ (HS.out.below B.out).st (by (first | (with_reducible exact Px.out) | (with_reducible exact Pl.out) | (with_reducible exact Pr.out) | (with_reducible exact Pll.out) | (with_reducible exact Plr.out) | (with_reducible exact Prl.out) | (with_reducible exact Prr.out)))).mono ?_; rintro e w1 ⟨rfl, hb1⟩; have B' : Hid (Below w.heap.size w w1) := B.out.trans (hb1.mono B.out.size); clear hb1 B; have B : Hid (Below w.heap.size w w1) := B'.out; clear B'; clear slt s1 s3 s4 s5 s6 s7 s8 s9 s10 s11; obtain ⟨slt, s1, s3, s4, s5, s6, s7, s8, s9, s10, s11⟩ := CC.out _ B.out))
            go_ret
            exact ⟨by rw [HF.out]; rfl, B.out⟩
        · rw [h4] at HF
          go_enter Tryd.func28, Tryd.ntmps28
          go_wp2_with (first | (go_at_call 29; refine (WT.out _ _ (HS.out.below B.out).st (by (first | (with_reducible exact Px.out) | (with_reducible exact Pl.out) | (with_reducible exact Pr.out) | (with_reducible exact Pll.out) | (with_reducible exact Plr.out) | (with_reducible exact Prl.out) | (with_reducible exact Prr.out)))).mono ?_; rintro e w1 ⟨rfl, hb1⟩; have B' : Hid (Below w.heap.size w w1) := B.out.trans (hb1.mono B.out.size); clear hb1 B; have B : Hid (Below w.heap.size w w1) := B'.out; clear B'; clear slt s1 s3 s4 s5 s6 s7 s8 s9 s10 s11; obtain ⟨slt, s1, s3, s4, s5, s6, s7, s8, s9, s10, s11⟩ := CC.out _ B.out))
          go_ret
          exact ⟨by rw [HF.out]; rfl, B.out⟩
set_option maxRecDepth 100000 in
set_option maxHeartbeats 4000000 in
theorem allows2 (sb : Nat) (base : Option Addr) (b o c : Nat) (t : NL) (root : Int) (mi : Bool) (x l r ll lr rl rr rll rlr : Int) (w : World) (h : SBox w sb base b o c t root mi x l r ll lr rl rr rll rlr) (hx : plOk t x) (hl : plOk t l) (hr : plOk t r) (hll : plOk t ll) :
    Calls Tryd.prog 28 #[.pointer (some ⟨sb, 0, none⟩), .int .i64 2] w fun e w' => e = .returned (.bool (decide (0 < wtP t x) && ((wtP t l == 0) && ((wtP t ll == 0) && decide (0 < wtP t r))))) ∧ Below w.heap.size w w' := by
  have Px : Hid (plOk t x) := hx
  have Pl : Hid (plOk t l) := hl
  have Pr : Hid (plOk t r) := hr
  have Pll : Hid (plOk t ll) := hll
  have HS : Hid (SBox w sb base b o c t root mi x l r ll lr rl rr rll rlr) := h
  have CC : Hid (∀ z, Below w.heap.size w z → sb < z.heap.size ∧ z.cell? ⟨sb, 1, none⟩ = some (.int .i64 root) ∧ z.cell? ⟨sb, 3, none⟩ = some (.int .i64 x) ∧ z.cell? ⟨sb, 4, none⟩ = some (.int .i64 l) ∧ z.cell? ⟨sb, 5, none⟩ = some (.int .i64 r) ∧ z.cell? ⟨sb, 6, none⟩ = some (.int .i64 ll) ∧ z.cell? ⟨sb, 7, none⟩ = some (.int .i64 lr) ∧ z.cell? ⟨sb, 8, none⟩ = some (.int .i64 rl) ∧ z.cell? ⟨sb, 9, none⟩ = some (.int .i64 rr) ∧ z.cell? ⟨sb, 10, none⟩ = some (.int .i64 rll) ∧ z.cell? ⟨sb, 11, none⟩ = some (.int .i64 rlr)) := fun z hz => by have q := HS.out.below hz; exact ⟨q.lt, q.c1, q.c3, q.c4, q.c5, q.c6, q.c7, q.c8, q.c9, q.c10, q.c11⟩
  have WT : Hid (∀ (W : World) (p : Int), StAt W sb base b o c t mi → plOk t p → Calls Tryd.prog 29 #[.pointer (some ⟨sb, 0, none⟩), .int .i64 p] W fun e w' => e = .returned (.int .i64 (wtP t p)) ∧ Below W.heap.size W w') := fun W p h1 h2 => weight_any sb base b o c t mi p W h1 h2
  have B : Hid (Below w.heap.size w w) := Below.refl _ _
  obtain ⟨slt, s1, s3, s4, s5, s6, s7, s8, s9, s10, s11⟩ := CC.out w (Below.refl _ _)
  obtain ⟨E, hE⟩ : ∃ E : Bool, E = (decide (0 < wtP t x) && ((wtP t l == 0) && ((wtP t ll == 0) && decide (0 < wtP t r)))) := ⟨_, rfl⟩
  rw [← hE]
  have HF : Hid (E = (decide (0 < wtP t x) && ((wtP t l == 0) && ((wtP t ll == 0) && decide (0 < wtP t r))))) := hE
  clear h hx hl hr hll
  clear hE
  cases h1 : decide (0 < wtP t x)
  · rw [h1] at HF
    go_enter Tryd.func28, Tryd.ntmps28
    go_wp2_with (first | (go_at_call 29; refine (WT.out _ _ (HS.out.below B.out).st (by (first | (with_reducible exact Px.out) | (with_reducible exact Pl.out) | (with_reducible exact Pr.out) | (with_reducible exact Pll.out)))).mono ?_; rintro e w1 ⟨rfl, hb1⟩; have B' : Hid (Below w.heap.size w w1) := B.out.trans (hb1.mono B.out.size); clear hb1 B; have B : Hid (Below w.heap.size w w1) := B'.out; clear B'; clear slt s1 s3 s4 s5 s6 s7 s8 s9 s10 s11; obtain ⟨slt, s1, s3, s4, s5, s6, s7, s8, s9, s10, s11⟩ := CC.out _ B.out))
    go_ret
    exact ⟨by rw [HF.out]; rfl, B.out⟩
  · rw [h1] at HF
    cases h2 : (wtP t l == 0)
    · rw [h2] at HF
      go_enter Tryd.func28, Tryd.ntmps28
      go_wp2_with (first | (go_at_call 29; refine (WT.out _ _ (HS.out.below B.out).st (by (first | (with_reducible exact Px.out) | (with_reducible exact Pl.out) | (with_reducible exact Pr.out) | (with_reducible exact Pll.out)))).mono ?_; rintro e w1 ⟨rfl, hb1⟩; have B' : Hid (Below w.heap.size w w1) := B.out.trans (hb1.mono B.out.size); clear hb1 B; have B : Hid (Below w.heap.size w w1) := B'.out; clear B'; clear slt s1 s3 s4 s5 s6 s7 s8 s9 s10 s11; obtain ⟨slt, s1, s3, s4, s5, s6, s7, s8, s9, s10, s11⟩ := CC.out _ B.out))
      go_ret
      exact ⟨by rw [HF.out]; rfl, B.out⟩
    · rw [h2] at HF
      cases h3 : (wtP t ll == 0)
      · rw [h3] at HF
        go_enter Tryd.func28, Tryd.ntmps28
        go_wp2_with (first | (go_at_call 29; refine (WT.out _ _ (HS.out.below B.out).st (by (first | (with_reducible exact Px.out) | (with_reducible exact Pl.out) | (with_reducible exact Pr.out) | (with_reducible exact Pll.out)))).mono ?_; rintro e w1 ⟨rfl, hb1⟩; have B' : Hid (Below w.heap.size w w1) := B.out.trans (hb1.mono B.out.size); clear hb1 B; have B : Hid (Below w.heap.size w w1) := B'.out; clear B'; clear slt s1 s3 s4 s5 s6 s7 s8 s9 s10 s11; obtain ⟨slt, s1, s3, s4, s5, s6, s7, s8, s9, s10, s11⟩ := CC.out _ B.out))
        go_ret
        exact ⟨by rw [HF.out]; rfl, B.out⟩
      · rw [h3] at HF
        cases h4 : decide (0 < wtP t r)
        · rw [h4] at HF
          go_enter Tryd.func28, Tryd.ntmps28
          go_wp2_with (first | (go_at_call 29; refine (WT.out _ _ (HS.out.below B.out).st (by (first | (with_reducible exact Px.out) | (with_reducible exact Pl.out) | (with_reducible exact Pr.out) | (with_reducible exact Pll.out)))).mono ?_; rintro e w1 ⟨rfl, hb1⟩; have B' : Hid (Below w.heap.size w w1) := B.out.trans (hb1.mono B.out.size); clear hb1 B; have B : Hid (Below w.heap.size w w1) := B'.out; clear B'; clear slt s1 s3 s4 s5 s6 s7 s8 s9 s10 s11; obtain ⟨slt, s1, s3, s4, s5, s6, s7, s8, s9, s10, s11⟩ := CC.out _ B.out))
          go_ret
          exact ⟨by rw [HF.out]; rfl, B.out⟩
        · rw [h4] at HF
          go_enter Tryd.func28, Tryd.ntmps28
          go_wp2_with (first | (go_at_call 29; refine (WT.out _ _ (HS.out.below B.out).st (by (first | (with_reducible exact Px.out) | (with_reducible exact Pl.out) | (with_reducible exact Pr.out) | (with_reducible exact Pll.out)))).mono ?_; rintro e w1 ⟨rfl, hb1⟩; have B' : Hid (Below w.heap.size w w1) := B.out.trans (hb1.mono B.out.size); clear hb1 B; have B : Hid (Below w.heap.size w w1) := B'.out; clear B'; clear slt s1 s3 s4 s5 s6 s7 s8 s9 s10 s11; obtain ⟨slt, s1, s3, s4, s5, s6, s7, s8, s9, s10, s11⟩ := CC.out _ B.out))
          go_ret
          exact ⟨by rw [HF.out]; rfl, B.out⟩
set_option maxRecDepth 100000 in
set_option maxHeartbeats 4000000 in
theorem allows3 (sb : Nat) (base : Option Addr) (b o c : Nat) (t : NL) (root : Int) (mi : Bool) (x l r ll lr rl rr rll rlr : Int) (w : World) (h : SBox w sb base b o c t root mi x l r ll lr rl rr rll rlr) (hx : plOk t x) (hl : plOk t l) (hr : plOk t r) (hll : plOk t ll) (hlr : plOk t lr) :
    Calls Tryd.prog 28 #[.pointer (some ⟨sb, 0, none⟩), .int .i64 3] w fun e w' => e = .returned (.bool (decide (0 < wtP t x) && ((wtP t l == 0) && ((wtP t lr == 0) && (decide (0 < wtP t ll) && (decide (0 < wtP t r) && (belL t mi lr != -1))))))) ∧ Below w.heap.size w w' := by
  have Px : Hid (plOk t x) := hx
  have Pl : Hid (plOk t l) := hl
  have Pr : Hid (plOk t r) := hr
  have Pll : Hid (plOk t ll) := hll
  have Plr : Hid (plOk t lr) := hlr
  have HS : Hid (SBox w sb base b o c t root mi x l r ll lr rl rr rll rlr) := h
  have CC : Hid (∀ z, Below w.heap.size w z → sb < z.heap.size ∧ z.cell? ⟨sb, 1, none⟩ = some (.int .i64 root) ∧ z.cell? ⟨sb, 3, none⟩ = some (.int .i64 x) ∧ z.cell? ⟨sb, 4, none⟩ = some (.int .i64 l) ∧ z.cell? ⟨sb, 5, none⟩ = some (.int .i64 r) ∧ z.cell? ⟨sb, 6, none⟩ = some (.int .i64 ll) ∧ z.cell? ⟨sb, 7, none⟩ = some (.int .i64 lr) ∧ z.cell? ⟨sb, 8, none⟩ = some (.int .i64 rl) ∧ z.cell? ⟨sb, 9, none⟩ = some (.int .i64 rr) ∧ z.cell? ⟨sb, 10, none⟩ = some (.int .i64 rll) ∧ z.cell? ⟨sb, 11, none⟩ = some (.int .i64 rlr)) := fun z hz => by have q := HS.out.below hz; exact ⟨q.lt, q.c1, q.c3, q.c4, q.c5, q.c6, q.c7, q.c8, q.c9, q.c10, q.c11⟩
  have WT : Hid (∀ (W : World) (p : Int), StAt W sb base b o c t mi → plOk t p → Calls Tryd.prog 29 #[.pointer (some ⟨sb, 0, none⟩), .int .i64 p] W fun e w' => e = .returned (.int .i64 (wtP t p)) ∧ Below W.heap.size W w') := fun W p h1 h2 => weight_any sb base b o c t mi p W h1 h2
  have IN : Hid (∀ (W : World) (p : Int), StAt W sb base b o c t mi → plOk t p → Calls Tryd.prog 39 #[.pointer (some ⟨sb, 0, none⟩), .int .i64 p] W fun e w' => e = .returned (.bool (belL t mi p != -1)) ∧ Below W.heap.size W w') := fun W p h1 h2 => isInner_any sb base b o c t mi p W h1 h2
  have B : Hid (Below w.heap.size w w) := Below.refl _ _
  obtain ⟨slt, s1, s3, s4, s5, s6, s7, s8, s9, s10, s11⟩ := CC.out w (Below.refl _ _)
  obtain ⟨E, hE⟩ : ∃ E : Bool, E = (decide (0 < wtP t x) && ((wtP t l == 0) && ((wtP t lr == 0) && (decide (0 < wtP t ll) && (decide (0 < wtP t r) && (belL t mi lr != -1)))))) := ⟨_, rfl⟩
  rw [← hE]
  have HF : Hid (E = (decide (0 < wtP t x) && ((wtP t l == 0) && ((wtP t lr == 0) && (decide (0 < wtP t ll) && (decide (0 < wtP t r) && (belL t mi lr != -1))))))) := hE
  clear h hx hl hr hll hlr
  clear hE
  cases h1 : decide (0 < wtP t x)
  · rw [h1] at HF
    go_enter Tryd.func28, Tryd.ntmps28
    go_wp2_with (first | (go_at_call 29; refine (WT.out _ _ (HS.out.below B.out).st (by (first | (with_reducible exact Px.out) | (with_reducible exact Pl.out) | (with_reducible exact Pr.out) | (with_reducible exact Pll.out) | (with_reducible exact Plr.out)))).mono ?_; rintro e w1 ⟨rfl, hb1⟩; have B' : Hid (Below w.heap.size w w1) := B.out.trans (hb1.mono B.out.size); clear hb1 B; have B : Hid (Below w.heap.size w w1) := B'.out; clear B'; clear slt s1 s3 s4 s5 s6 s7 s8 s9 s10 s11; obtain ⟨slt, s1, s3, s4, s5, s6, s7, s8, s9, s10, s11⟩ := CC.out _ B.out) | (go_at_call 39; refine (IN.out _ _ (HS.out.below B.out).st (by (first | (with_reducible exact Px.out) | (with_reducible exact Pl.out) | (with_reducible exact Pr.out) | (with_reducible exact Pll.out) | (with_reducible exact Plr.out)))).mono ?_; rintro e w1 ⟨rfl, hb1⟩; have B' : Hid (Below w.heap.size w w1) := B.out.trans (hb1.mono B.out.size); clear hb1 B; have B : Hid (Below w.heap.size w w1) := B'.out; clear B'; clear slt s1 s3 s4 s5 s6 s7 s8 s9 s10 s11; obtain ⟨slt, s1, s3, s4, s5, s6, s7, s8, s9, s10, s11⟩ := CC.out _ B.out))
    go_ret
    exact ⟨by rw [HF.out]; rfl, B.out⟩
  · rw [h1] at HF
    cases h2 : (wtP t l == 0)
    · rw [h2] at HF
      go_enter Tryd.func28, Tryd.ntmps28
      go_wp2_with (first | (go_at_call 29; refine (WT.out _ _ (HS.out.below B.out).st (by (first | (with_reducible exact Px.out) | (with_reducible exact Pl.out) | (with_reducible exact Pr.out) | (with_reducible exact Pll.out) | (with_reducible exact Plr.out)))).mono ?_; rintro e w1 ⟨rfl, hb1⟩; have B' : Hid (Below w.heap.size w w1) := B.out.trans (hb1.mono B.out.size); clear hb1 B; have B : Hid (Below w.heap.size w w1) := B'.out; clear B'; clear slt s1 s3 s4 s5 s6 s7 s8 s9 s10 s11; obtain ⟨slt, s1, s3, s4, s5, s6, s7, s8, s9, s10, s11⟩ := CC.out _ B.out) | (go_at_call 39; refine (IN.out _ _ (HS.out.below B.out).st (by (first | (with_reducible exact Px.out) | (with_reducible exact Pl.out) | (with_reducible exact Pr.out) | (with_reducible exact Pll.out) | (with_reducible exact Plr.out)))).mono ?_; rintro e w1 ⟨rfl, hb1⟩; have B' : Hid (Below w.heap.size w w1) := B.out.trans (hb1.mono B.out.size); clear hb1 B; have B : Hid (Below w.heap.size w w1) := B'.out; clear B'; clear slt s1 s3 s4 s5 s6 s7 s8 s9 s10 s11; obtain ⟨slt, s1, s3, s4, s5, s6, s7, s8, s9, s10, s11⟩ := CC.out _ B.out))
      go_ret
      exact ⟨by rw [HF.out]; rfl, B.out⟩
    · rw [h2] at HF
      cases h3 : (wtP t lr == 0)
      · rw [h3] at HF
        go_enter Tryd.func28, Tryd.ntmps28
        go_wp2_with (first | (go_at_call 29; refine (WT.out _ _ (HS.out.below B.out).st (by (first | (with_reducible exact Px.out) | (with_reducible exact Pl.out) | (with_reducible exact Pr.out) | (with_reducible exact Pll.out) | (with_reducible exact Plr.out)))).mono ?_; rintro e w1 ⟨rfl, hb1⟩; have B' : Hid (Below w.heap.size w w1) := B.out.trans (hb1.mono B.out.size); clear hb1 B; have B : Hid (Below w.heap.size w w1) := B'.out; clear B'; clear slt s1 s3 s4 s5 s6 s7 s8 s9 s10 s11; obtain ⟨slt, s1, s3, s4, s5, s6, s7, s8, s9, s10, s11⟩ := CC.out _ B.out) | (go_at_call 39; refine (IN.out _ _ (HS.out.below B.out).st (by (first | (with_reducible exact Px.out) | (with_reducible exact Pl.out) | (with_reducible exact Pr.out) | (with_reducible exact Pll.out) | (with_reducible exact Plr.out)))).mono ?_; rintro e w1 ⟨rfl, hb1⟩; have B' : Hid (Below w.heap.size w w1) := B.out.trans (hb1.mono B.out.size); clear hb1 B; have B : Hid (Below w.heap.size w w1) := B'.out; clear B'; clear slt s1 s3 s4 s5 s6 s7 s8 s9 s10 s11; obtain ⟨slt, s1, s3, s4, s5, s6, s7, s8, s9, s10, s11⟩ := CC.out _ B.out))
        go_ret
        exact ⟨by rw [HF.out]; rfl, B.out⟩
      · rw [h3] at HF
        cases h4 : decide (0 < wtP t ll)
        · rw [h4] at HF
          go_enter Tryd.func28, Tryd.ntmps28
          go_wp2_with (first | (go_at_call 29; refine (WT.out _ _ (HS.out.below B.out).st (by (first | (with_reducible exact Px.out) | (with_reducible exact Pl.out) | (with_reducible exact Pr.out) | (with_reducible exact Pll.out) | (with_reducible exact Plr.out)))).mono ?_; rintro e w1 ⟨rfl, hb1⟩; have B' : Hid (Below w.heap.size w w1) := B.out.trans (hb1.mono B.out.size); clear hb1 B; have B : Hid (Below w.heap.size w w1) := B'.out; clear B'; clear slt s1 s3 s4 s5 s6 s7 s8 s9 s10 s11; obtain ⟨slt, s1, s3, s4, s5, s6, s7, s8, s9, s10, s11⟩ := CC.out _ B.out) | (go_at_call 39; refine (IN.out _ _ (HS.out.below B.out).st (by (first | (with_reducible exact Px.out) | (with_reducible exact Pl.out) | (with_reducible exact Pr.out) | (with_reducible exact Pll.out) | (with_reducible exact Plr.out)))).mono ?_; rintro e w1 ⟨rfl, hb1⟩; have B' : Hid (Below w.heap.size w w1) := B.out.trans (hb1.mono B.out.size); clear hb1 B; have B : Hid (Below w.heap.size w w1) := B'.out; clear B'; clear slt s1 s3 s4 s5 s6 s7 s8 s9 s10 s11; obtain ⟨slt, s1, s3, s4, s5, s6, s7, s8, s9, s10, s11⟩ := CC.out _ B.out))
          go_ret
          exact ⟨by rw [HF.out]; rfl, B.out⟩
        · rw [h4] at HF
          cases h5 : decide (0 < wtP t r)
          · rw [h5] at HF
            go_enter Tryd.func28, Tryd.ntmps28
            go_wp2_with (first | (go_at_call 29; refine (WT.out _ _ (HS.out.below B.out).st (by (first | (with_reducible exact Px.out) | (with_reducible exact Pl.out) | (with_reducible exact Pr.out) | (with_reducible exact Pll.out) | (with_reducible exact Plr.out)))).mono ?_; rintro e w1 ⟨rfl, hb1⟩; have B' : Hid (Below w.heap.size w w1) := B.out.trans (hb1.mono B.out.size); clear hb1 B; have B : Hid (Below w.heap.size w w1) := B'.out; clear B'; clear slt s1 s3 s4 s5 s6 s7 s8 s9 s10 s11; obtain ⟨slt, s1, s3, s4, s5, s6, s7, s8, s9, s10, s11⟩ := CC.out _ B.out) | (go_at_call 39; refine (IN.out _ _ (HS.out.below B.out).st (by (first | (with_reducible exact Px.out) | (with_reducible exact Pl.out) | (with_reducible exact Pr.out) | (with_reducible exact Pll.out) | (with_reducible exact Plr.out)))).mono ?_; rintro e w1 ⟨rfl, hb1⟩; have B' : Hid (Below w.heap.size w w1) := B.out.trans (hb1.mono B.out.size); clear hb1 B; have B : Hid (Below w.heap.size w w1) := B'.out; clear B'; clear slt s1 s3 s4 s5 s6 s7 s8 s9 s10 s11; obtain ⟨slt, s1, s3, s4, s5, s6, s7, s8, s9, s10, s11⟩ := CC.out _ B.out))
            go_ret
            exact ⟨by rw [HF.out]; rfl, B.out⟩
          · rw [h5] at HF
            cases h6 : (belL t mi lr != -1)
            · rw [h6] at HF
              go_enter Tryd.func28, Tryd.ntmps28
              go_wp2_with (first | (go_at_call 29; refine (WT.out _ _ (HS.out.below B.out).st (by (first | (with_reducible exact Px.out) | (with_reducible exact Pl.out) | (with_reducible exact Pr.out) | (with_reducible exact Pll.out) | (with_reducible exact Plr.out)))).mono ?_; rintro e w1 ⟨rfl, hb1⟩; have B' : Hid (Below w.heap.size w w1) := B.out.trans (hb1.mono B.out.size); clear hb1 B; have B : Hid (Below w.heap.size w w1) := B'.out; clear B'; clear slt s1 s3 s4 s5 s6 s7 s8 s9 s10 s11; obtain ⟨slt, s1, s3, s4, s5, s6, s7, s8, s9, s10, s11⟩ := CC.out _ B.out) | (go_at_call 39; refine (IN.out _ _ (HS.out.below B.out).st (by (first | (with_reducible exact Px.out) | (with_reducible exact Pl.out) | (with_reducible exact Pr.out) | (with_reducible exact Pll.out) | (with_reducible exact Plr.out)))).mono ?_; rintro e w1 ⟨rfl, hb1⟩; have B' : Hid (Below w.heap.size w w1) := B.out.trans (hb1.mono B.out.size); clear hb1 B; have B : Hid (Below w.heap.size w w1) := B'.out; clear B'; clear slt s1 s3 s4 s5 s6 s7 s8 s9 s10 s11; obtain ⟨slt, s1, s3, s4, s5, s6, s7, s8, s9, s10, s11⟩ := CC.out _ B.out))
              go_ret
              exact ⟨by rw [HF.out]; rfl, B.out⟩
            · rw [h6] at HF
              go_enter Tryd.func28, Tryd.ntmps28
              go_wp2_with (first | (go_at_call 29; refine (WT.out _ _ (HS.out.below B.out).st (by (first | (with_reducible exact Px.out) | (with_reducible exact Pl.out) | (with_reducible exact Pr.out) | (with_reducible exact Pll.out) | (with_reducible exact Plr.out)))).mono ?_; rintro e w1 ⟨rfl, hb1⟩; have B' : Hid (Below w.heap.size w w1) := B.out.trans (hb1.mono B.out.size); clear hb1 B; have B : Hid (Below w.heap.size w w1) := B'.out; clear B'; clear slt s1 s3 s4 s5 s6 s7 s8 s9 s10 s11; obtain ⟨slt, s1, s3, s4, s5, s6, s7, s8, s9, s10, s11⟩ := CC.out _ B.out) | (go_at_call 39; refine (IN.out _ _ (HS.out.below B.out).st (by (first | (with_reducible exact Px.out) | (with_reducible exact Pl.out) | (with_reducible exact Pr.out) | (with_reducible exact Pll.out) | (with_reducible exact Plr.out)))).mono ?_; rintro e w1 ⟨rfl, hb1⟩; have B' : Hid (Below w.heap.size w w1) := B.out.trans (hb1.mono B.out.size); clear hb1 B; have B : Hid (Below w.heap.size w w1) := B'.out; clear B'; clear slt s1 s3 s4 s5 s6 s7 s8 s9 s10 s11; obtain ⟨slt, s1, s3, s4, s5, s6, s7, s8, s9, s10, s11⟩ := CC.out _ B.out))
              go_ret
              exact ⟨by rw [HF.out]; rfl, B.out⟩
end Go.Proofs.YthlhbajaogonnaaDoor
