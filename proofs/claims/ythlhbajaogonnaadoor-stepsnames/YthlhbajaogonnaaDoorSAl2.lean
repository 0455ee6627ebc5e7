
/- Layer 18: allows: the conditions of each kind. Made by mk_salw.py. -/

import Derived.Test.YthlhbajaogonnaaDoorSAl0

namespace Go.Proofs.YthlhbajaogonnaaDoor

open Go.RowKit

attribute [local go_sem ↓] Go.wp_at_zero Go.wp_at_succ

set_option maxRecDepth 100000 in
set_option maxHeartbeats 4000000 in
theorem allows4 (sb : Nat) (base : Option Addr) (b o c : Nat) (t : NL) (root : Int) (mi : Bool) (x l r ll lr rl rr rll rlr : Int) (w : World) (h : SBox w sb base b o c t root mi x l r ll lr rl rr rll rlr) (hl : plOk t l) (hr : plOk t r) (hrl : plOk t rl) (hrr : plOk t rr) :
    Calls Tryd.prog 28 #[.pointer (some ⟨sb, 0, none⟩), .int .i64 4] w fun e w' => e = .returned (.bool (decide (1 < wtP t l) && ((wtP t r == 1) && (decide (0 < wtP t rl) && decide (0 < wtP t rr))))) ∧ Below w.heap.size w w' := by
  have Pl : Hid (plOk t l) := hl
  have Pr : Hid (plOk t r) := hr
  have Prl : Hid (plOk t rl) := hrl
  have Prr : Hid (plOk t rr) := hrr
  have HS : Hid (SBox w sb base b o c t root mi x l r ll lr rl rr rll rlr) := h
  have CC : Hid (∀ z, Below w.heap.size w z → sb < z.heap.size ∧ z.cell? ⟨sb, 1, none⟩ = some (.int .i64 root) ∧ z.cell? ⟨sb, 3, none⟩ = some (.int .i64 x) ∧ z.cell? ⟨sb, 4, none⟩ = some (.int .i64 l) ∧ z.cell? ⟨sb, 5, none⟩ = some (.int .i64 r) ∧ z.cell? ⟨sb, 6, none⟩ = some (.int .i64 ll) ∧ z.cell? ⟨sb, 7, none⟩ = some (.int .i64 lr) ∧ z.cell? ⟨sb, 8, none⟩ = some (.int .i64 rl) ∧ z.cell? ⟨sb, 9, none⟩ = some (.int .i64 rr) ∧ z.cell? ⟨sb, 10, none⟩ = some (.int .i64 rll) ∧ z.cell? ⟨sb, 11, none⟩ = some (.int .i64 rlr)) := fun z hz => by have q := HS.out.below hz; exact ⟨q.lt, q.c1, q.c3, q.c4, q.c5, q.c6, q.c7, q.c8, q.c9, q.c10, q.c11⟩
  have WT : Hid (∀ (W : World) (p : Int), StAt W sb base b o c t mi → plOk t p → Calls Tryd.prog 29 #[.pointer (some ⟨sb, 0, none⟩), .int .i64 p] W fun e w' => e = .returned (.int .i64 (wtP t p)) ∧ Below W.heap.size W w') := fun W p h1 h2 => weight_any sb base b o c t mi p W h1 h2
  have B : Hid (Below w.heap.size w w) := Below.refl _ _
  obtain ⟨slt, s1, s3, s4, s5, s6, s7, s8, s9, s10, s11⟩ := CC.out w (Below.refl _ _)
  obtain ⟨E, hE⟩ : ∃ E : Bool, E = (decide (1 < wtP t l) && ((wtP t r == 1) && (decide (0 < wtP t rl) && decide (0 < wtP t rr)))) := ⟨_, rfl⟩
  rw [← hE]
  have HF : Hid (E = (decide (1 < wtP t l) && ((wtP t r == 1) && (decide (0 < wtP t rl) && decide (0 < wtP t rr))))) := hE
  clear h hl hr hrl hrr
  clear hE
  cases h1 : decide (1 < wtP t l)
  · rw [h1] at HF
    go_enter Tryd.func28, Tryd.ntmps28
    go_wp2_with (first | (go_at_call 29; refine (WT.out _ _ (HS.out.below B.out).st (by (first | (with_reducible exact Pl.out) | (with_reducible exact Pr.out) | (with_reducible exact Prl.out) | (with_reducible exact Prr.out)))).mono ?_; rintro e w1 ⟨rfl, hb1⟩; have B' : Hid (Below w.heap.size w w1) := B.out.trans (hb1.mono B.out.size); clear hb1 B; have B : Hid (Below w.heap.size w w1) := B'.out; clear B'; clear slt s1 s3 s4 s5 s6 s7 s8 s9 s10 s11; obtain ⟨slt, s1, s3, s4, s5, s6, s7, s8, s9, s10, s11⟩ := CC.out _ B.out))
    go_ret
    exact ⟨by rw [HF.out]; rfl, B.out⟩
  · rw [h1] at HF
    cases h2 : (wtP t r == 1)
    · rw [h2] at HF
      go_enter Tryd.func28, Tryd.ntmps28
      go_wp2_with (first | (go_at_call 29; refine (WT.out _ _ (HS.out.below B.out).st (by (first | (with_reducible exact Pl.out) | (with_reducible exact Pr.out) | (with_reducible exact Prl.out) | (with_reducible exact Prr.out)))).mono ?_; rintro e w1 ⟨rfl, hb1⟩; have B' : Hid (Below w.heap.size w w1) := B.out.trans (hb1.mono B.out.size); clear hb1 B; have B : Hid (Below w.heap.size w w1) := B'.out; clear B'; clear slt s1 s3 s4 s5 s6 s7 s8 s9 s10 s11; obtain ⟨slt, s1, s3, s4, s5, s6, s7, s8, s9, s10, s11⟩ := CC.out _ B.out))
      go_ret
      exact ⟨by rw [HF.out]; rfl, B.out⟩
    · rw [h2] at HF
      cases h3 : decide (0 < wtP t rl)
      · rw [h3] at HF
        go_enter Tryd.func28, Tryd.ntmps28
        go_wp2_with (first | (go_at_call 29; refine (WT.out _ _ (HS.out.below B.out).st (by (first | (with_reducible exact Pl.out) | (with_reducible exact Pr.out) | (with_reducible exact Prl.out) | (with_reducible exact Prr.out)))).mono ?_; rintro e w1 ⟨rfl, hb1⟩; have B' : Hid (Below w.heap.size w w1) := B.out.trans (hb1.mono B.out.size); clear hb1 B; have B : Hid (Below w.heap.size w w1) := B'.out; clear B'; clear slt s1 s3 s4 s5 s6 s7 s8 s9 s10 s11; obtain ⟨slt, s1, s3, s4, s5, s6, s7, s8, s9, s10, s11⟩ := CC.out _ B.out))
        go_ret
        exact ⟨by rw [HF.out]; rfl, B.out⟩
      · rw [h3] at HF
        cases h4 : decide (0 < wtP t rr)
        · rw [h4] at HF
          go_enter Tryd.func28, Tryd.ntmps28
          go_wp2_with (first | (go_at_call 29; refine (WT.out _ _ (HS.out.below B.out).st (by (first | (with_reducible exact Pl.out) | (with_reducible exact Pr.out) | (with_reducible exact Prl.out) | (with_reducible exact Prr.out)))).mono ?_; rintro e w1 ⟨rfl, hb1⟩; have B' : Hid (Below w.heap.size w w1) := B.out.trans (hb1.mono B.out.size); clear hb1 B; have B : Hid (Below w.heap.size w w1) := B'.out; clear B'; clear slt s1 s3 s4 s5 s6 s7 s8 s9 s10 s11; obtain ⟨slt, s1, s3, s4, s5, s6, s7, s8, s9, s10, s11⟩ := CC.out _ B.out))
          go_ret
          exact ⟨by rw [HF.out]; rfl, B.out⟩
        · rw [h4] at HF
          go_enter Tryd.func28, Tryd.ntmps28
          go_wp2_with (first | (go_at_call 29; refine (WT.out _ _ (HS.out.below B.out).st (by (first | (with_reducible exact Pl.out) | (with_reducible exact Pr.out) | (with_reducible exact Prl.out) | (with_reducible exact Prr.out)))).mono ?_; rintro e w1 ⟨rfl, hb1⟩; have B' : Hid (Below w.heap.size w w1) := B.out.trans (hb1.mono B.out.size); clear hb1 B; have B : Hid (Below w.heap.size w w1) := B'.out; clear B'; clear slt s1 s3 s4 s5 s6 s7 s8 s9 s10 s11; obtain ⟨slt, s1, s3, s4, s5, s6, s7, s8, s9, s10, s11⟩ := CC.out _ B.out))
          go_ret
          exact ⟨by rw [HF.out]; rfl, B.out⟩
set_option maxRecDepth 100000 in
set_option maxHeartbeats 4000000 in
theorem allows5 (sb : Nat) (base : Option Addr) (b o c : Nat) (t : NL) (root : Int) (mi : Bool) (x l r ll lr rl rr rll rlr : Int) (w : World) (h : SBox w sb base b o c t root mi x l r ll lr rl rr rll rlr) (hl : plOk t l) (hr : plOk t r) (hrl : plOk t rl) :
    Calls Tryd.prog 28 #[.pointer (some ⟨sb, 0, none⟩), .int .i64 5] w fun e w' => e = .returned (.bool (decide (1 < wtP t l) && ((wtP t r == 0) && decide (1 < wtP t rl)))) ∧ Below w.heap.size w w' := by
  have Pl : Hid (plOk t l) := hl
  have Pr : Hid (plOk t r) := hr
  have Prl : Hid (plOk t rl) := hrl
  have HS : Hid (SBox w sb base b o c t root mi x l r ll lr rl rr rll rlr) := h
  have CC : Hid (∀ z, Below w.heap.size w z → sb < z.heap.size ∧ z.cell? ⟨sb, 1, none⟩ = some (.int .i64 root) ∧ z.cell? ⟨sb, 3, none⟩ = some (.int .i64 x) ∧ z.cell? ⟨sb, 4, none⟩ = some (.int .i64 l) ∧ z.cell? ⟨sb, 5, none⟩ = some (.int .i64 r) ∧ z.cell? ⟨sb, 6, none⟩ = some (.int .i64 ll) ∧ z.cell? ⟨sb, 7, none⟩ = some (.int .i64 lr) ∧ z.cell? ⟨sb, 8, none⟩ = some (.int .i64 rl) ∧ z.cell? ⟨sb, 9, none⟩ = some (.int .i64 rr) ∧ z.cell? ⟨sb, 10, none⟩ = some (.int .i64 rll) ∧ z.cell? ⟨sb, 11, none⟩ = some (.int .i64 rlr)) := fun z hz => by have q := HS.out.below hz; exact ⟨q.lt, q.c1, q.c3, q.c4, q.c5, q.c6, q.c7, q.c8, q.c9, q.c10, q.c11⟩
  have WT : Hid (∀ (W : World) (p : Int), StAt W sb base b o c t mi → plOk t p → Calls Tryd.prog 29 #[.pointer (some ⟨sb, 0, none⟩), .int .i64 p] W fun e w' => e = .returned (.int .i64 (wtP t p)) ∧ Below W.heap.size W w') := fun W p h1 h2 => weight_any sb base b o c t mi p W h1 h2
  have B : Hid (Below w.heap.size w w) := Below.refl _ _
  obtain ⟨slt, s1, s3, s4, s5, s6, s7, s8, s9, s10, s11⟩ := CC.out w (Below.refl _ _)
  obtain ⟨E, hE⟩ : ∃ E : Bool, E = (decide (1 < wtP t l) && ((wtP t r == 0) && decide (1 < wtP t rl))) := ⟨_, rfl⟩
  rw [← hE]
  have HF : Hid (E = (decide (1 < wtP t l) && ((wtP t r == 0) && decide (1 < wtP t rl)))) := hE
  clear h hl hr hrl
  clear hE
  cases h1 : decide (1 < wtP t l)
  · rw [h1] at HF
    go_enter Tryd.func28, Tryd.ntmps28
    go_wp2_with (first | (go_at_call 29; refine (WT.out _ _ (HS.out.below B.out).st (by (first | (with_reducible exact Pl.out) | (with_reducible exact Pr.out) | (with_reducible exact Prl.out)))).mono ?_; rintro e w1 ⟨rfl, hb1⟩; have B' : Hid (Below w.heap.size w w1) := B.out.trans (hb1.mono B.out.size); clear hb1 B; have B : Hid (Below w.heap.size w w1) := B'.out; clear B'; clear slt s1 s3 s4 s5 s6 s7 s8 s9 s10 s11; obtain ⟨slt, s1, s3, s4, s5, s6, s7, s8, s9, s10, s11⟩ := CC.out _ B.out))
    go_ret
    exact ⟨by rw [HF.out]; rfl, B.out⟩
  · rw [h1] at HF
    cases h2 : (wtP t r == 0)
    · rw [h2] at HF
      go_enter Tryd.func28, Tryd.ntmps28
      go_wp2_with (first | (go_at_call 29; refine (WT.out _ _ (HS.out.below B.out).st (by (first | (with_reducible exact Pl.out) | (with_reducible exact Pr.out) | (with_reducible exact Prl.out)))).mono ?_; rintro e w1 ⟨rfl, hb1⟩; have B' : Hid (Below w.heap.size w w1) := B.out.trans (hb1.mono B.out.size); clear hb1 B; have B : Hid (Below w.heap.size w w1) := B'.out; clear B'; clear slt s1 s3 s4 s5 s6 s7 s8 s9 s10 s11; obtain ⟨slt, s1, s3, s4, s5, s6, s7, s8, s9, s10, s11⟩ := CC.out _ B.out))
      go_ret
      exact ⟨by rw [HF.out]; rfl, B.out⟩
    · rw [h2] at HF
      cases h3 : decide (1 < wtP t rl)
      · rw [h3] at HF
        go_enter Tryd.func28, Tryd.ntmps28
        go_wp2_with (first | (go_at_call 29; refine (WT.out _ _ (HS.out.below B.out).st (by (first | (with_reducible exact Pl.out) | (with_reducible exact Pr.out) | (with_reducible exact Prl.out)))).mono ?_; rintro e w1 ⟨rfl, hb1⟩; have B' : Hid (Below w.heap.size w w1) := B.out.trans (hb1.mono B.out.size); clear hb1 B; have B : Hid (Below w.heap.size w w1) := B'.out; clear B'; clear slt s1 s3 s4 s5 s6 s7 s8 s9 s10 s11; obtain ⟨slt, s1, s3, s4, s5, s6, s7, s8, s9, s10, s11⟩ := CC.out _ B.out))
        go_ret
        exact ⟨by rw [HF.out]; rfl, B.out⟩
      · rw [h3] at HF
        go_enter Tryd.func28, Tryd.ntmps28
        go_wp2_with (first | (go_at_call 29; refine (WT.out _ _ (HS.out.below B.out).st (by (first | (with_reducible exact Pl.out) | (with_reducible exact Pr.out) | (with_reducible exact Prl.out)))).mono ?_; rintro e w1 ⟨rfl, hb1⟩; have B' : Hid (Below w.heap.size w w1) := B.out.trans (hb1.mono B.out.size); clear hb1 B; have B : Hid (Below w.heap.size w w1) := B'.out; clear B'; clear slt s1 s3 s4 s5 s6 s7 s8 s9 s10 s11; obtain ⟨slt, s1, s3, s4, s5, s6, s7, s8, s9, s10, s11⟩ := CC.out _ B.out))
        go_ret
        exact ⟨by rw [HF.out]; rfl, B.out⟩
set_option maxRecDepth 100000 in
set_option maxHeartbeats 4000000 in
theorem allows6 (sb : Nat) (base : Option Addr) (b o c : Nat) (t : NL) (root : Int) (mi : Bool) (x l r ll lr rl rr rll rlr : Int) (w : World) (h : SBox w sb base b o c t root mi x l r ll lr rl rr rll rlr) (hl : plOk t l) (hr : plOk t r) (hrl : plOk t rl) (hrll : plOk t rll) (hrlr : plOk t rlr) :
    Calls Tryd.prog 28 #[.pointer (some ⟨sb, 0, none⟩), .int .i64 6] w fun e w' => e = .returned (.bool (decide (1 < wtP t l) && ((wtP t r == 0) && ((wtP t rl == 1) && (decide (0 < wtP t rll) && decide (0 < wtP t rlr)))))) ∧ Below w.heap.size w w' := by
  have Pl : Hid (plOk t l) := hl
  have Pr : Hid (plOk t r) := hr
  have Prl : Hid (plOk t rl) := hrl
  have Prll : Hid (plOk t rll) := hrll
  have Prlr : Hid (plOk t rlr) := hrlr
  have HS : Hid (SBox w sb base b o c t root mi x l r ll lr rl rr rll rlr) := h
  have CC : Hid (∀ z, Below w.heap.size w z → sb < z.heap.size ∧ z.cell? ⟨sb, 1, none⟩ = some (.int .i64 root) ∧ z.cell? ⟨sb, 3, none⟩ = some (.int .i64 x) ∧ z.cell? ⟨sb, 4, none⟩ = some (.int .i64 l) ∧ z.cell? ⟨sb, 5, none⟩ = some (.int .i64 r) ∧ z.cell? ⟨sb, 6, none⟩ = some (.int .i64 ll) ∧ z.cell? ⟨sb, 7, none⟩ = some (.int .i64 lr) ∧ z.cell? ⟨sb, 8, none⟩ = some (.int .i64 rl) ∧ z.cell? ⟨sb, 9, none⟩ = some (.int .i64 rr) ∧ z.cell? ⟨sb, 10, none⟩ = some (.int .i64 rll) ∧ z.cell? ⟨sb, 11, none⟩ = some (.int .i64 rlr)) := fun z hz => by have q := HS.out.below hz; exact ⟨q.lt, q.c1, q.c3, q.c4, q.c5, q.c6, q.c7, q.c8, q.c9, q.c10, q.c11⟩
  have WT : Hid (∀ (W : World) (p : Int), StAt W sb base b o c t mi → plOk t p → Calls Tryd.prog 29 #[.pointer (some ⟨sb, 0, none⟩), .int .i64 p] W fun e w' => e = .returned (.int .i64 (wtP t p)) ∧ Below W.heap.size W w') := fun W p h1 h2 => weight_any sb base b o c t mi p W h1 h2
  have B : Hid (Below w.heap.size w w) := Below.refl _ _
  obtain ⟨slt, s1, s3, s4, s5, s6, s7, s8, s9, s10, s11⟩ := CC.out w (Below.refl _ _)
  obtain ⟨E, hE⟩ : ∃ E : Bool, E = (decide (1 < wtP t l) && ((wtP t r == 0) && ((wtP t rl == 1) && (decide (0 < wtP t rll) && decide (0 < wtP t rlr))))) := ⟨_, rfl⟩
  rw [← hE]
  have HF : Hid (E = (decide (1 < wtP t l) && ((wtP t r == 0) && ((wtP t rl == 1) && (decide (0 < wtP t rll) && decide (0 < wtP t rlr)))))) := hE
  clear h hl hr hrl hrll hrlr
  clear hE
  cases h1 : decide (1 < wtP t l)
  · rw [h1] at HF
    go_enter Tryd.func28, Tryd.ntmps28
    go_wp2_with (first | (go_at_call 29; refine (WT.out _ _ (HS.out.below B.out).st (by (first | (with_reducible exact Pl.out) | (with_reducible exact Pr.out) | (with_reducible exact Prl.out) | (with_reducible exact Prll.out) | (with_reducible exact Prlr.out)))).mono ?_; rintro e w1 ⟨rfl, hb1⟩; have B' : Hid (Below w.heap.size w w1) := B.out.trans (hb1.mono B.out.size); clear hb1 B; have B : Hid (Below w.heap.size w w1) := B'.out; clear B'; clear slt s1 s3 s4 s5 s6 s7 s8 s9 s10 s11; obtain ⟨slt, s1, s3, s4, s5, s6, s7, s8, s9, s10, s11⟩ := CC.out _ B.out))
    go_ret
    exact ⟨by rw [HF.out]; rfl, B.out⟩
  · rw [h1] at HF
    cases h2 : (wtP t r == 0)
    · rw [h2] at HF
      go_enter Tryd.func28, Tryd.ntmps28
      go_wp2_with (first | (go_at_call 29; refine (WT.out _ _ (HS.out.below B.out).st (by (first | (with_reducible exact Pl.out) | (with_reducible exact Pr.out) | (with_reducible exact Prl.out) | (with_reducible exact Prll.out) | (with_reducible exact Prlr.out)))).mono ?_; rintro e w1 ⟨rfl, hb1⟩; have B' : Hid (Below w.heap.size w w1) := B.out.trans (hb1.mono B.out.size); clear hb1 B; have B : Hid (Below w.heap.size w w1) := B'.out; clear B'; clear slt s1 s3 s4 s5 s6 s7 s8 s9 s10 s11; obtain ⟨slt, s1, s3, s4, s5, s6, s7, s8, s9, s10, s11⟩ := CC.out _ B.out))
      go_ret
      exact ⟨by rw [HF.out]; rfl, B.out⟩
    · rw [h2] at HF
      cases h3 : (wtP t rl == 1)
      · rw [h3] at HF
        go_enter Tryd.func28, Tryd.ntmps28
        go_wp2_with (first | (go_at_call 29; refine (WT.out _ _ (HS.out.below B.out).st (by (first | (with_reducible exact Pl.out) | (with_reducible exact Pr.out) | (with_reducible exact Prl.out) | (with_reducible exact Prll.out) | (with_reducible exact Prlr.out)))).mono ?_; rintro e w1 ⟨rfl, hb1⟩; have B' : Hid (Below w.heap.size w w1) := B.out.trans (hb1.mono B.out.size); clear hb1 B; have B : Hid (Below w.heap.size w w1) := B'.out; clear B'; clear slt s1 s3 s4 s5 s6 s7 s8 s9 s10 s11; obtain ⟨slt, s1, s3, s4, s5, s6, s7, s8, s9, s10, s11⟩ := CC.out _ B.out))
        go_ret
        exact ⟨by rw [HF.out]; rfl, B.out⟩
      · rw [h3] at HF
        cases h4 : decide (0 < wtP t rll)
        · rw [h4] at HF
          go_enter Tryd.func28, Tryd.ntmps28
          go_wp2_with (first | (go_at_call 29; refine (WT.out _ _ (HS.out.below B.out).st (by (first | (with_reducible exact Pl.out) | (with_reducible exact Pr.out) | (with_reducible exact Prl.out) | (with_reducible exact Prll.out) | (with_reducible exact Prlr.out)))).mono ?_; rintro e w1 ⟨rfl, hb1⟩; have B' : Hid (Below w.heap.size w w1) := B.out.trans (hb1.mono B.out.size); clear hb1 B; have B : Hid (Below w.heap.size w w1) := B'.out; clear B'; clear slt s1 s3 s4 s5 s6 s7 s8 s9 s10 s11; obtain ⟨slt, s1, s3, s4, s5, s6, s7, s8, s9, s10, s11⟩ := CC.out _ B.out))
          go_ret
          exact ⟨by rw [HF.out]; rfl, B.out⟩
        · rw [h4] at HF
          cases h5 : decide (0 < wtP t rlr)
          · rw [h5] at HF
            go_enter Tryd.func28, Tryd.ntmps28
            go_wp2_with (first | (go_at_call 29; refine (WT.out _ _ (HS.out.below B.out).st (by (first | (with_reducible exact Pl.out) | (with_reducible exact Pr.out) | (with_reducible exact Prl.out) | (with_reducible exact Prll.out) | (with_reducible exact Prlr.out)))).mono ?_; rintro e w1 ⟨rfl, hb1⟩; have B' : Hid (Below w.heap.size w w1) := B.out.trans (hb1.mono B.out.size); clear hb1 B; have B : Hid (Below w.heap.size w w1) := B'.out; clear B'; clear slt s1 s3 s4 s5 s6 s7 s8 s9 s10 s11; obtain ⟨slt, s1, s3, s4, s5, s6, s7, s8, s9, s10, s11⟩ := CC.out _ B.out))
            go_ret
            exact ⟨by rw [HF.out]; rfl, B.out⟩
          · rw [h5] at HF
            go_enter Tryd.func28, Tryd.ntmps28
            go_wp2_with (first | (go_at_call 29; refine (WT.out _ _ (HS.out.below B.out).st (by (first | (with_reducible exact Pl.out) | (with_reducible exact Pr.out) | (with_reducible exact Prl.out) | (with_reducible exact Prll.out) | (with_reducible exact Prlr.out)))).mono ?_; rintro e w1 ⟨rfl, hb1⟩; have B' : Hid (Below w.heap.size w w1) := B.out.trans (hb1.mono B.out.size); clear hb1 B; have B : Hid (Below w.heap.size w w1) := B'.out; clear B'; clear slt s1 s3 s4 s5 s6 s7 s8 s9 s10 s11; obtain ⟨slt, s1, s3, s4, s5, s6, s7, s8, s9, s10, s11⟩ := CC.out _ B.out))
            go_ret
            exact ⟨by rw [HF.out]; rfl, B.out⟩
set_option maxRecDepth 100000 in
set_option maxHeartbeats 4000000 in
theorem allows7 (sb : Nat) (base : Option Addr) (b o c : Nat) (t : NL) (root : Int) (mi : Bool) (x l r ll lr rl rr rll rlr : Int) (w : World) (h : SBox w sb base b o c t root mi x l r ll lr rl rr rll rlr) (hl : plOk t l) (hr : plOk t r) (hrl : plOk t rl) (hrll : plOk t rll) (hrlr : plOk t rlr) :
    Calls Tryd.prog 28 #[.pointer (some ⟨sb, 0, none⟩), .int .i64 7] w fun e w' => e = .returned (.bool (decide (1 < wtP t l) && ((wtP t r == 0) && ((wtP t rl == 1) && ((wtP t rll == 0) && (decide (0 < wtP t rlr) && (belL t mi rll != -1))))))) ∧ Below w.heap.size w w' := by
  have Pl : Hid (plOk t l) := hl
  have Pr : Hid (plOk t r) := hr
  have Prl : Hid (plOk t rl) := hrl
  have Prll : Hid (plOk t rll) := hrll
  have Prlr : Hid (plOk t rlr) := hrlr
  have HS : Hid (SBox w sb base b o c t root mi x l r ll lr rl rr rll rlr) := h
  have CC : Hid (∀ z, Below w.heap.size w z → sb < z.heap.size ∧ z.cell? ⟨sb, 1, none⟩ = some (.int .i64 root) ∧ z.cell? ⟨sb, 3, none⟩ = some (.int .i64 x) ∧ z.cell? ⟨sb, 4, none⟩ = some (.int .i64 l) ∧ z.cell? ⟨sb, 5, none⟩ = some (.int .i64 r) ∧ z.cell? ⟨sb, 6, none⟩ = some (.int .i64 ll) ∧ z.cell? ⟨sb, 7, none⟩ = some (.int .i64 lr) ∧ z.cell? ⟨sb, 8, none⟩ = some (.int .i64 rl) ∧ z.cell? ⟨sb, 9, none⟩ = some (.int .i64 rr) ∧ z.cell? ⟨sb, 10, none⟩ = some (.int .i64 rll) ∧ z.cell? ⟨sb, 11, none⟩ = some (.int .i64 rlr)) := fun z hz => by have q := HS.out.below hz; exact ⟨q.lt, q.c1, q.c3, q.c4, q.c5, q.c6, q.c7, q.c8, q.c9, q.c10, q.c11⟩
  have WT : Hid (∀ (W : World) (p : Int), StAt W sb base b o c t mi → plOk t p → Calls Tryd.prog 29 #[.pointer (some ⟨sb, 0, none⟩), .int .i64 p] W fun e w' => e = .returned (.int .i64 (wtP t p)) ∧ Below W.heap.size W w') := fun W p h1 h2 => weight_any sb base b o c t mi p W h1 h2
  have IN : Hid (∀ (W : World) (p : Int), StAt W sb base b o c t mi → plOk t p → Calls Tryd.prog 39 #[.pointer (some ⟨sb, 0, none⟩), .int .i64 p] W fun e w' => e = .returned (.bool (belL t mi p != -1)) ∧ Below W.heap.size W w') := fun W p h1 h2 => isInner_any sb base b o c t mi p W h1 h2
  have B : Hid (Below w.heap.size w w) := Below.refl _ _
  obtain ⟨slt, s1, s3, s4, s5, s6, s7, s8, s9, s10, s11⟩ := CC.out w (Below.refl _ _)
  obtain ⟨E, hE⟩ : ∃ E : Bool, E = (decide (1 < wtP t l) && ((wtP t r == 0) && ((wtP t rl == 1) && ((wtP t rll == 0) && (decide (0 < wtP t rlr) && (belL t mi rll != -1)))))) := ⟨_, rfl⟩
  rw [← hE]
  have HF : Hid (E = (decide (1 < wtP t l) && ((wtP t r == 0) && ((wtP t rl == 1) && ((wtP t rll == 0) && (decide (0 < wtP t rlr) && (belL t mi rll != -1))))))) := hE
  clear h hl hr hrl hrll hrlr
  clear hE
  cases h1 : decide (1 < wtP t l)
  · rw [h1] at HF
    go_enter Tryd.func28, Tryd.ntmps28
    go_wp2_with (first | (go_at_call 29; refine (WT.out _ _ (HS.out.below B.out).st (by (first | (with_reducible exact Pl.out) | (with_reducible exact Pr.out) | (with_reducible exact Prl.out) | (with_reducible exact Prll.out) | (with_reducible exact Prlr.out)))).mono ?_; rintro e w1 ⟨rfl, hb1⟩; have B' : Hid (Below w.heap.size w w1) := B.out.trans (hb1.mono B.out.size); clear hb1 B; have B : Hid (Below w.heap.size w w1) := B'.out; clear B'; clear slt s1 s3 s4 s5 s6 s7 s8 s9 s10 s11; obtain ⟨slt, s1, s3, s4, s5, s6, s7, s8, s9, s10, s11⟩ := CC.out _ B.out) | (go_at_call 39; refine (IN.out _ _ (HS.out.below B.out).st (by (first | (with_reducible exact Pl.out) | (with_reducible exact Pr.out) | (with_reducible exact Prl.out) | (with_reducible exact Prll.out) | (with_reducible exact Prlr.out)))).mono ?_; rintro e w1 ⟨rfl, hb1⟩; have B' : Hid (Below w.heap.size w w1) := B.out.trans (hb1.mono B.out.size); clear hb1 B; have B : Hid (Below w.heap.size w w1) := B'.out; clear B'; clear slt s1 s3 s4 s5 s6 s7 s8 s9 s10 s11; obtain ⟨slt, s1, s3, s4, s5, s6, s7, s8, s9, s10, s11⟩ := CC.out _ B.out))
    go_ret
    exact ⟨by rw [HF.out]; rfl, B.out⟩
  · rw [h1] at HF
    cases h2 : (wtP t r == 0)
    · rw [h2] at HF
      go_enter Tryd.func28, Tryd.ntmps28
      go_wp2_with (first | (go_at_call 29; refine (WT.out _ _ (HS.out.below B.out).st (by (first | (with_reducible exact Pl.out) | (with_reducible exact Pr.out) | (with_reducible exact Prl.out) | (with_reducible exact Prll.out) | (with_reducible exact Prlr.out)))).mono ?_; rintro e w1 ⟨rfl, hb1⟩; have B' : Hid (Below w.heap.size w w1) := B.out.trans (hb1.mono B.out.size); clear hb1 B; have B : Hid (Below w.heap.size w w1) := B'.out; clear B'; clear slt s1 s3 s4 s5 s6 s7 s8 s9 s10 s11; obtain ⟨slt, s1, s3, s4, s5, s6, s7, s8, s9, s10, s11⟩ := CC.out _ B.out) | (go_at_call 39; refine (IN.out _ _ (HS.out.below B.out).st (by (first | (with_reducible exact Pl.out) | (with_reducible exact Pr.out) | (with_reducible exact Prl.out) | (with_reducible exact Prll.out) | (with_reducible exact Prlr.out)))).mono ?_; rintro e w1 ⟨rfl, hb1⟩; have B' : Hid (Below w.heap.size w w1) := B.out.trans (hb1.mono B.out.size); clear hb1 B; have B : Hid (Below w.heap.size w w1) := B'.out; clear B'; clear slt s1 s3 s4 s5 s6 s7 s8 s9 s10 s11; obtain ⟨slt, s1, s3, s4, s5, s6, s7, s8, s9, s10, s11⟩ := CC.out _ B.out))
      go_ret
      exact ⟨by rw [HF.out]; rfl, B.out⟩
    · rw [h2] at HF
      cases h3 : (wtP t rl == 1)
      · rw [h3] at HF
        go_enter Tryd.func28, Tryd.ntmps28
        go_wp2_with (first | (go_at_call 29; refine (WT.out _ _ (HS.out.below B.out).st (by (first | (with_reducible exact Pl.out) | (with_reducible exact Pr.out) | (with_reducible exact Prl.out) | (with_reducible exact Prll.out) | (with_reducible exact Prlr.out)))).mono ?_; rintro e w1 ⟨rfl, hb1⟩; have B' : Hid (Below w.heap.size w w1) := B.out.trans (hb1.mono B.out.size); clear hb1 B; have B : Hid (Below w.heap.size w w1) := B'.out; clear B'; clear slt s1 s3 s4 s5 s6 s7 s8 s9 s10 s11; obtain ⟨slt, s1, s3, s4, s5, s6, s7, s8, s9, s10, s11⟩ := CC.out _ B.out) | (go_at_call 39; refine (IN.out _ _ (HS.out.below B.out).st (by (first | (with_reducible exact Pl.out) | (with_reducible exact Pr.out) | (with_reducible exact Prl.out) | (with_reducible exact Prll.out) | (with_reducible exact Prlr.out)))).mono ?_; rintro e w1 ⟨rfl, hb1⟩; have B' : Hid (Below w.heap.size w w1) := B.out.trans (hb1.mono B.out.size); clear hb1 B; have B : Hid (Below w.heap.size w w1) := B'.out; clear B'; clear slt s1 s3 s4 s5 s6 s7 s8 s9 s10 s11; obtain ⟨slt, s1, s3, s4, s5, s6, s7, s8, s9, s10, s11⟩ := CC.out _ B.out))
        go_ret
        exact ⟨by rw [HF.out]; rfl, B.out⟩
      · rw [h3] at HF
        cases h4 : (wtP t rll == 0)
        · rw [h4] at HF
          go_enter Tryd.func28, Tryd.ntmps28
          go_wp2_with (first | (go_at_call 29; refine (WT.out _ _ (HS.out.below B.out).st (by (first | (with_reducible exact Pl.out) | (with_reducible exact Pr.out) | (with_reducible exact Prl.out) | (with_reducible exact Prll.out) | (with_reducible exact Prlr.out)))).mono ?_; rintro e w1 ⟨rfl, hb1⟩; have B' : Hid (Below w.heap.size w w1) := B.out.trans (hb1.mono B.out.size); clear hb1 B; have B : Hid (Below w.heap.size w w1) := B'.out; clear B'; clear slt s1 s3 s4 s5 s6 s7 s8 s9 s10 s11; obtain ⟨slt, s1, s3, s4, s5, s6, s7, s8, s9, s10, s11⟩ := CC.out _ B.out) | (go_at_call 39; refine (IN.out _ _ (HS.out.below B.out).st (by (first | (with_reducible exact Pl.out) | (with_reducible exact Pr.out) | (with_reducible exact Prl.out) | (with_reducible exact Prll.out) | (with_reducible exact Prlr.out)))).mono ?_; rintro e w1 ⟨rfl, hb1⟩; have B' : Hid (Below w.heap.size w w1) := B.out.trans (hb1.mono B.out.size); clear hb1 B; have B : Hid (Below w.heap.size w w1) := B'.out; clear B'; clear slt s1 s3 s4 s5 s6 s7 s8 s9 s10 s11; obtain ⟨slt, s1, s3, s4, s5, s6, s7, s8, s9, s10, s11⟩ := CC.out _ B.out))
          go_ret
          exact ⟨by rw [HF.out]; rfl, B.out⟩
        · rw [h4] at HF
          cases h5 : decide (0 < wtP t rlr)
          · rw [h5] at HF
            go_enter Tryd.func28, Tryd.ntmps28
            go_wp2_with (first | (go_at_call 29; refine (WT.out _ _ (HS.out.below B.out).st (by (first | (with_reducible exact Pl.out) | (with_reducible exact Pr.out) | (with_reducible exact Prl.out) | (with_reducible exact Prll.out) | (with_reducible exact Prlr.out)))).mono ?_; rintro e w1 ⟨rfl, hb1⟩; have B' : Hid (Below w.heap.size w w1) := B.out.trans (hb1.mono B.out.size); clear hb1 B; have B : Hid (Below w.heap.size w w1) := B'.out; clear B'; clear slt s1 s3 s4 s5 s6 s7 s8 s9 s10 s11; obtain ⟨slt, s1, s3, s4, s5, s6, s7, s8, s9, s10, s11⟩ := CC.out _ B.out) | (go_at_call 39; refine (IN.out _ _ (HS.out.below B.out).st (by (first | (with_reducible exact Pl.out) | (with_reducible exact Pr.out) | (with_reducible exact Prl.out) | (with_reducible exact Prll.out) | (with_reducible exact Prlr.out)))).mono ?_; rintro e w1 ⟨rfl, hb1⟩; have B' : Hid (Below w.heap.size w w1) := B.out.trans (hb1.mono B.out.size); clear hb1 B; have B : Hid (Below w.heap.size w w1) := B'.out; clear B'; clear slt s1 s3 s4 s5 s6 s7 s8 s9 s10 s11; obtain ⟨slt, s1, s3, s4, s5, s6, s7, s8, s9, s10, s11⟩ := CC.out _ B.out))
            go_ret
            exact ⟨by rw [HF.out]; rfl, B.out⟩
          · rw [h5] at HF
            cases h6 : (belL t mi rll != -1)
            · rw [h6] at HF
              go_enter Tryd.func28, Tryd.ntmps28
              go_wp2_with (first | (go_at_call 29; refine (WT.out _ _ (HS.out.below B.out).st (by (first | (with_reducible exact Pl.out) | (with_reducible exact Pr.out) | (with_reducible exact Prl.out) | (with_reducible exact Prll.out) | (with_reducible exact Prlr.out)))).mono ?_; rintro e w1 ⟨rfl, hb1⟩; have B' : Hid (Below w.heap.size w w1) := B.out.trans (hb1.mono B.out.size); clear hb1 B; have B : Hid (Below w.heap.size w w1) := B'.out; clear B'; clear slt s1 s3 s4 s5 s6 s7 s8 s9 s10 s11; obtain ⟨slt, s1, s3, s4, s5, s6, s7, s8, s9, s10, s11⟩ := CC.out _ B.out) | (go_at_call 39; refine (IN.out _ _ (HS.out.below B.out).st (by (first | (with_reducible exact Pl.out) | (with_reducible exact Pr.out) | (with_reducible exact Prl.out) | (with_reducible exact Prll.out) | (with_reducible exact Prlr.out)))).mono ?_; rintro e w1 ⟨rfl, hb1⟩; have B' : Hid (Below w.heap.size w w1) := B.out.trans (hb1.mono B.out.size); clear hb1 B; have B : Hid (Below w.heap.size w w1) := B'.out; clear B'; clear slt s1 s3 s4 s5 s6 s7 s8 s9 s10 s11; obtain ⟨slt, s1, s3, s4, s5, s6, s7, s8, s9, s10, s11⟩ := CC.out _ B.out))
              go_ret
              exact ⟨by rw [HF.out]; rfl, B.out⟩
            · rw [h6] at HF
              go_enter Tryd.func28, Tryd.ntmps28
              go_wp2_with (first | (go_at_call 29; refine (WT.out _ _ (HS.out.below B.out).st (by (first | (with_reducible exact Pl.out) | (with_reducible exact Pr.out) | (with_reducible exact Prl.out) | (with_reducible exact Prll.out) | (with_reducible exact Prlr.out)))).mono ?_; rintro e w1 ⟨rfl, hb1⟩; have B' : Hid (Below w.heap.size w w1) := B.out.trans (hb1.mono B.out.size); clear hb1 B; have B : Hid (Below w.heap.size w w1) := B'.out; clear B'; clear slt s1 s3 s4 s5 s6 s7 s8 s9 s10 s11; obtain ⟨slt, s1, s3, s4, s5, s6, s7, s8, s9, s10, s11⟩ := CC.out _ B.out) | (go_at_call 39; refine (IN.out _ _ (HS.out.below B.out).st (by (first | (with_reducible exact Pl.out) | (with_reducible exact Pr.out) | (with_reducible exact Prl.out) | (with_reducible exact Prll.out) | (with_reducible exact Prlr.out)))).mono ?_; rintro e w1 ⟨rfl, hb1⟩; have B' : Hid (Below w.heap.size w w1) := B.out.trans (hb1.mono B.out.size); clear hb1 B; have B : Hid (Below w.heap.size w w1) := B'.out; clear B'; clear slt s1 s3 s4 s5 s6 s7 s8 s9 s10 s11; obtain ⟨slt, s1, s3, s4, s5, s6, s7, s8, s9, s10, s11⟩ := CC.out _ B.out))
              go_ret
              exact ⟨by rw [HF.out]; rfl, B.out⟩
end Go.Proofs.YthlhbajaogonnaaDoor
