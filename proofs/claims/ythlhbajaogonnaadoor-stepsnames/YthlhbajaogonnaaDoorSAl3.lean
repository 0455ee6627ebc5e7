
/- Layer 18: allows: the conditions of each kind. Made by mk_salw.py. -/

import Derived.Test.YthlhbajaogonnaaDoorSAl0

namespace Go.Proofs.YthlhbajaogonnaaDoor

open Go.RowKit

attribute [local go_sem ↓] Go.wp_at_zero Go.wp_at_succ

set_option maxRecDepth 100000 in
set_option maxHeartbeats 4000000 in
theorem allows8 (sb : Nat) (base : Option Addr) (b o c : Nat) (t : NL) (root : Int) (mi : Bool) (x l r ll lr rl rr rll rlr : Int) (w : World) (h : SBox w sb base b o c t root mi x l r ll lr rl rr rll rlr) (hl : plOk t l) (hr : plOk t r) (hrl : plOk t rl) (hrlr : plOk t rlr) :
    Calls Tryd.prog 28 #[.pointer (some ⟨sb, 0, none⟩), .int .i64 8] w fun e w' => e = .returned (.bool (decide (1 < wtP t l) && ((wtP t r == 0) && ((wtP t rl == 1) && (wtP t rlr == 0))))) ∧ Below w.heap.size w w' := by
  have Pl : Hid (plOk t l) := hl
  have Pr : Hid (plOk t r) := hr
  have Prl : Hid (plOk t rl) := hrl
  have Prlr : Hid (plOk t rlr) := hrlr
  have HS : Hid (SBox w sb base b o c t root mi x l r ll lr rl rr rll rlr) := h
  have CC : Hid (∀ z, Below w.heap.size w z → sb < z.heap.size ∧ z.cell? ⟨sb, 1, none⟩ = some (.int .i64 root) ∧ z.cell? ⟨sb, 3, none⟩ = some (.int .i64 x) ∧ z.cell? ⟨sb, 4, none⟩ = some (.int .i64 l) ∧ z.cell? ⟨sb, 5, none⟩ = some (.int .i64 r) ∧ z.cell? ⟨sb, 6, none⟩ = some (.int .i64 ll) ∧ z.cell? ⟨sb, 7, none⟩ = some (.int .i64 lr) ∧ z.cell? ⟨sb, 8, none⟩ = some (.int .i64 rl) ∧ z.cell? ⟨sb, 9, none⟩ = some (.int .i64 rr) ∧ z.cell? ⟨sb, 10, none⟩ = some (.int .i64 rll) ∧ z.cell? ⟨sb, 11, none⟩ = some (.int .i64 rlr)) := fun z hz => by have q := HS.out.below hz; exact ⟨q.lt, q.c1, q.c3, q.c4, q.c5, q.c6, q.c7, q.c8, q.c9, q.c10, q.c11⟩
  have WT : Hid (∀ (W : World) (p : Int), StAt W sb base b o c t mi → plOk t p → Calls Tryd.prog 29 #[.pointer (some ⟨sb, 0, none⟩), .int .i64 p] W fun e w' => e = .returned (.int .i64 (wtP t p)) ∧ Below W.heap.size W w') := fun W p h1 h2 => weight_any sb base b o c t mi p W h1 h2
  have B : Hid (Below w.heap.size w w) := Below.refl _ _
  obtain ⟨slt, s1, s3, s4, s5, s6, s7, s8, s9, s10, s11⟩ := CC.out w (Below.refl _ _)
  obtain ⟨E, hE⟩ : ∃ E : Bool, E = (decide (1 < wtP t l) && ((wtP t r == 0) && ((wtP t rl == 1) && (wtP t rlr == 0)))) := ⟨_, rfl⟩
  rw [← hE]
  have HF : Hid (E = (decide (1 < wtP t l) && ((wtP t r == 0) && ((wtP t rl == 1) && (wtP t rlr == 0))))) := hE
  clear h hl hr hrl hrlr
  clear hE
  cases h1 : decide (1 < wtP t l)
  · rw [h1] at HF
    go_enter Tryd.func28, Tryd.ntmps28
    go_wp2_with (first | (go_at_call 29; refine (WT.out _ _ (HS.out.below B.out).st (by (first | (with_reducible exact Pl.out) | (with_reducible exact Pr.out) | (with_reducible exact Prl.out) | (with_reducible exact Prlr.out)))).mono ?_; rintro e w1 ⟨rfl, hb1⟩; have B' : Hid (Below w.heap.size w w1) := B.out.trans (hb1.mono B.out.size); clear hb1 B; have B : Hid (Below w.heap.size w w1) := B'.out; clear B'; clear slt s1 s3 s4 s5 s6 s7 s8 s9 s10 s11; obtain ⟨slt, s1, s3, s4, s5, s6, s7, s8, s9, s10, s11⟩ := CC.out _ B.out))
    go_ret
    exact ⟨by rw [HF.out]; rfl, B.out⟩
  · rw [h1] at HF
    cases h2 : (wtP t r == 0)
    · rw [h2] at HF
      go_enter Tryd.func28, Tryd.ntmps28
      go_wp2_with (first | (go_at_call 29; refine (WT.out _ _ (HS.out.below B.out).st (by (first | (with_reducible exact Pl.out) | (with_reducible exact Pr.out) | (with_reducible exact Prl.out) | (with_reducible exact Prlr.out)))).mono ?_; rintro e w1 ⟨rfl, hb1⟩; have B' : Hid (Below w.heap.size w w1) := B.out.trans (hb1.mono B.out.size); clear hb1 B; have B : Hid (Below w.heap.size w w1) := B'.out; clear B'; clear slt s1 s3 s4 s5 s6 s7 s8 s9 s10 s11; obtain ⟨slt, s1, s3, s4, s5, s6, s7, s8, s9, s10, s11⟩ := CC.out _ B.out))
      go_ret
      exact ⟨by rw [HF.out]; rfl, B.out⟩
    · rw [h2] at HF
      cases h3 : (wtP t rl == 1)
      · rw [h3] at HF
        go_enter Tryd.func28, Tryd.ntmps28
        go_wp2_with (first | (go_at_call 29; refine (WT.out _ _ (HS.out.below B.out).st (by (first | (with_reducible exact Pl.out) | (with_reducible exact Pr.out) | (with_reducible exact Prl.out) | (with_reducible exact Prlr.out)))).mono ?_; rintro e w1 ⟨rfl, hb1⟩; have B' : Hid (Below w.heap.size w w1) := B.out.trans (hb1.mono B.out.size); clear hb1 B; have B : Hid (Below w.heap.size w w1) := B'.out; clear B'; clear slt s1 s3 s4 s5 s6 s7 s8 s9 s10 s11; obtain ⟨slt, s1, s3, s4, s5, s6, s7, s8, s9, s10, s11⟩ := CC.out _ B.out))
        go_ret
        exact ⟨by rw [HF.out]; rfl, B.out⟩
      · rw [h3] at HF
        cases h4 : (wtP t rlr == 0)
        · rw [h4] at HF
          go_enter Tryd.func28, Tryd.ntmps28
          go_wp2_with (first | (go_at_call 29; refine (WT.out _ _ (HS.out.below B.out).st (by (first | (with_reducible exact Pl.out) | (with_reducible exact Pr.out) | (with_reducible exact Prl.out) | (with_reducible exact Prlr.out)))).mono ?_; rintro e w1 ⟨rfl, hb1⟩; have B' : Hid (Below w.heap.size w w1) := B.out.trans (hb1.mono B.out.size); clear hb1 B; have B : Hid (Below w.heap.size w w1) := B'.out; clear B'; clear slt s1 s3 s4 s5 s6 s7 s8 s9 s10 s11; obtain ⟨slt, s1, s3, s4, s5, s6, s7, s8, s9, s10, s11⟩ := CC.out _ B.out))
          go_ret
          exact ⟨by rw [HF.out]; rfl, B.out⟩
        · rw [h4] at HF
          go_enter Tryd.func28, Tryd.ntmps28
          go_wp2_with (first | (go_at_call 29; refine (WT.out _ _ (HS.out.below B.out).st (by (first | (with_reducible exact Pl.out) | (with_reducible exact Pr.out) | (with_reducible exact Prl.out) | (with_reducible exact Prlr.out)))).mono ?_; rintro e w1 ⟨rfl, hb1⟩; have B' : Hid (Below w.heap.size w w1) := B.out.trans (hb1.mono B.out.size); clear hb1 B; have B : Hid (Below w.heap.size w w1) := B'.out; clear B'; clear slt s1 s3 s4 s5 s6 s7 s8 s9 s10 s11; obtain ⟨slt, s1, s3, s4, s5, s6, s7, s8, s9, s10, s11⟩ := CC.out _ B.out))
          go_ret
          exact ⟨by rw [HF.out]; rfl, B.out⟩
set_option maxRecDepth 100000 in
set_option maxHeartbeats 4000000 in
theorem allows9 (sb : Nat) (base : Option Addr) (b o c : Nat) (t : NL) (root : Int) (mi : Bool) (x l r ll lr rl rr rll rlr : Int) (w : World) (h : SBox w sb base b o c t root mi x l r ll lr rl rr rll rlr) (hl : plOk t l) (hr : plOk t r) (hrr : plOk t rr) :
    Calls Tryd.prog 28 #[.pointer (some ⟨sb, 0, none⟩), .int .i64 9] w fun e w' => e = .returned (.bool (decide (1 < wtP t l) && ((wtP t r == 1) && (wtP t rr == 0)))) ∧ Below w.heap.size w w' := by
  have Pl : Hid (plOk t l) := hl
  have Pr : Hid (plOk t r) := hr
  have Prr : Hid (plOk t rr) := hrr
  have HS : Hid (SBox w sb base b o c t root mi x l r ll lr rl rr rll rlr) := h
  have CC : Hid (∀ z, Below w.heap.size w z → sb < z.heap.size ∧ z.cell? ⟨sb, 1, none⟩ = some (.int .i64 root) ∧ z.cell? ⟨sb, 3, none⟩ = some (.int .i64 x) ∧ z.cell? ⟨sb, 4, none⟩ = some (.int .i64 l) ∧ z.cell? ⟨sb, 5, none⟩ = some (.int .i64 r) ∧ z.cell? ⟨sb, 6, none⟩ = some (.int .i64 ll) ∧ z.cell? ⟨sb, 7, none⟩ = some (.int .i64 lr) ∧ z.cell? ⟨sb, 8, none⟩ = some (.int .i64 rl) ∧ z.cell? ⟨sb, 9, none⟩ = some (.int .i64 rr) ∧ z.cell? ⟨sb, 10, none⟩ = some (.int .i64 rll) ∧ z.cell? ⟨sb, 11, none⟩ = some (.int .i64 rlr)) := fun z hz => by have q := HS.out.below hz; exact ⟨q.lt, q.c1, q.c3, q.c4, q.c5, q.c6, q.c7, q.c8, q.c9, q.c10, q.c11⟩
  have WT : Hid (∀ (W : World) (p : Int), StAt W sb base b o c t mi → plOk t p → Calls Tryd.prog 29 #[.pointer (some ⟨sb, 0, none⟩), .int .i64 p] W fun e w' => e = .returned (.int .i64 (wtP t p)) ∧ Below W.heap.size W w') := fun W p h1 h2 => weight_any sb base b o c t mi p W h1 h2
  have B : Hid (Below w.heap.size w w) := Below.refl _ _
  obtain ⟨slt, s1, s3, s4, s5, s6, s7, s8, s9, s10, s11⟩ := CC.out w (Below.refl _ _)
  obtain ⟨E, hE⟩ : ∃ E : Bool, E = (decide (1 < wtP t l) && ((wtP t r == 1) && (wtP t rr == 0))) := ⟨_, rfl⟩
  rw [← hE]
  have HF : Hid (E = (decide (1 < wtP t l) && ((wtP t r == 1) && (wtP t rr == 0)))) := hE
  clear h hl hr hrr
  clear hE
  cases h1 : decide (1 < wtP t l)
  · rw [h1] at HF
    go_enter Tryd.func28, Tryd.ntmps28
    go_wp2_with (first | (go_at_call 29; refine (WT.out _ _ (HS.out.below B.out).st (by (first | (with_reducible exact Pl.out) | (with_reducible exact Pr.out) | (with_reducible exact Prr.out)))).mono ?_; rintro e w1 ⟨rfl, hb1⟩; have B' : Hid (Below w.heap.size w w1) := B.out.trans (hb1.mono B.out.size); clear hb1 B; have B : Hid (Below w.heap.size w w1) := B'.out; clear B'; clear slt s1 s3 s4 s5 s6 s7 s8 s9 s10 s11; obtain ⟨slt, s1, s3, s4, s5, s6, s7, s8, s9, s10, s11⟩ := CC.out _ B.out))
    go_ret
    exact ⟨by rw [HF.out]; rfl, B.out⟩
  · rw [h1] at HF
    cases h2 : (wtP t r == 1)
    · rw [h2] at HF
      go_enter Tryd.func28, Tryd.ntmps28
      go_wp2_with (first | (go_at_call 29; refine (WT.out _ _ (HS.out.below B.out).st (by (first | (with_reducible exact Pl.out) | (with_reducible exact Pr.out) | (with_reducible exact Prr.out)))).mono ?_; rintro e w1 ⟨rfl, hb1⟩; have B' : Hid (Below w.heap.size w w1) := B.out.trans (hb1.mono B.out.size); clear hb1 B; have B : Hid (Below w.heap.size w w1) := B'.out; clear B'; clear slt s1 s3 s4 s5 s6 s7 s8 s9 s10 s11; obtain ⟨slt, s1, s3, s4, s5, s6, s7, s8, s9, s10, s11⟩ := CC.out _ B.out))
      go_ret
      exact ⟨by rw [HF.out]; rfl, B.out⟩
    · rw [h2] at HF
      cases h3 : (wtP t rr == 0)
      · rw [h3] at HF
        go_enter Tryd.func28, Tryd.ntmps28
        go_wp2_with (first | (go_at_call 29; refine (WT.out _ _ (HS.out.below B.out).st (by (first | (with_reducible exact Pl.out) | (with_reducible exact Pr.out) | (with_reducible exact Prr.out)))).mono ?_; rintro e w1 ⟨rfl, hb1⟩; have B' : Hid (Below w.heap.size w w1) := B.out.trans (hb1.mono B.out.size); clear hb1 B; have B : Hid (Below w.heap.size w w1) := B'.out; clear B'; clear slt s1 s3 s4 s5 s6 s7 s8 s9 s10 s11; obtain ⟨slt, s1, s3, s4, s5, s6, s7, s8, s9, s10, s11⟩ := CC.out _ B.out))
        go_ret
        exact ⟨by rw [HF.out]; rfl, B.out⟩
      · rw [h3] at HF
        go_enter Tryd.func28, Tryd.ntmps28
        go_wp2_with (first | (go_at_call 29; refine (WT.out _ _ (HS.out.below B.out).st (by (first | (with_reducible exact Pl.out) | (with_reducible exact Pr.out) | (with_reducible exact Prr.out)))).mono ?_; rintro e w1 ⟨rfl, hb1⟩; have B' : Hid (Below w.heap.size w w1) := B.out.trans (hb1.mono B.out.size); clear hb1 B; have B : Hid (Below w.heap.size w w1) := B'.out; clear B'; clear slt s1 s3 s4 s5 s6 s7 s8 s9 s10 s11; obtain ⟨slt, s1, s3, s4, s5, s6, s7, s8, s9, s10, s11⟩ := CC.out _ B.out))
        go_ret
        exact ⟨by rw [HF.out]; rfl, B.out⟩
set_option maxRecDepth 100000 in
set_option maxHeartbeats 4000000 in
theorem allows10 (sb : Nat) (base : Option Addr) (b o c : Nat) (t : NL) (root : Int) (mi : Bool) (x l r ll lr rl rr rll rlr : Int) (w : World) (h : SBox w sb base b o c t root mi x l r ll lr rl rr rll rlr) (hl : plOk t l) (hr : plOk t r) (hrl : plOk t rl) (hrr : plOk t rr) :
    Calls Tryd.prog 28 #[.pointer (some ⟨sb, 0, none⟩), .int .i64 10] w fun e w' => e = .returned (.bool (decide (1 < wtP t l) && ((wtP t r == 1) && ((wtP t rl == 0) && (decide (0 < wtP t rr) && (belL t mi rl != -1)))))) ∧ Below w.heap.size w w' := by
  have Pl : Hid (plOk t l) := hl
  have Pr : Hid (plOk t r) := hr
  have Prl : Hid (plOk t rl) := hrl
  have Prr : Hid (plOk t rr) := hrr
  have HS : Hid (SBox w sb base b o c t root mi x l r ll lr rl rr rll rlr) := h
  have CC : Hid (∀ z, Below w.heap.size w z → sb < z.heap.size ∧ z.cell? ⟨sb, 1, none⟩ = some (.int .i64 root) ∧ z.cell? ⟨sb, 3, none⟩ = some (.int .i64 x) ∧ z.cell? ⟨sb, 4, none⟩ = some (.int .i64 l) ∧ z.cell? ⟨sb, 5, none⟩ = some (.int .i64 r) ∧ z.cell? ⟨sb, 6, none⟩ = some (.int .i64 ll) ∧ z.cell? ⟨sb, 7, none⟩ = some (.int .i64 lr) ∧ z.cell? ⟨sb, 8, none⟩ = some (.int .i64 rl) ∧ z.cell? ⟨sb, 9, none⟩ = some (.int .i64 rr) ∧ z.cell? ⟨sb, 10, none⟩ = some (.int .i64 rll) ∧ z.cell? ⟨sb, 11, none⟩ = some (.int .i64 rlr)) := fun z hz => by have q := HS.out.below hz; exact ⟨q.lt, q.c1, q.c3, q.c4, q.c5, q.c6, q.c7, q.c8, q.c9, q.c10, q.c11⟩
  have WT : Hid (∀ (W : World) (p : Int), StAt W sb base b o c t mi → plOk t p → Calls Tryd.prog 29 #[.pointer (some ⟨sb, 0, none⟩), .int .i64 p] W fun e w' => e = .returned (.int .i64 (wtP t p)) ∧ Below W.heap.size W w') := fun W p h1 h2 => weight_any sb base b o c t mi p W h1 h2
  have IN : Hid (∀ (W : World) (p : Int), StAt W sb base b o c t mi → plOk t p → Calls Tryd.prog 39 #[.pointer (some ⟨sb, 0, none⟩), .int .i64 p] W fun e w' => e = .returned (.bool (belL t mi p != -1)) ∧ Below W.heap.size W w') := fun W p h1 h2 => isInner_any sb base b o c t mi p W h1 h2
  have B : Hid (Below w.heap.size w w) := Below.refl _ _
  obtain ⟨slt, s1, s3, s4, s5, s6, s7, s8, s9, s10, s11⟩ := CC.out w (Below.refl _ _)
  obtain ⟨E, hE⟩ : ∃ E : Bool, E = (decide (1 < wtP t l) && ((wtP t r == 1) && ((wtP t rl == 0) && (decide (0 < wtP t rr) && (belL t mi rl != -1))))) := ⟨_, rfl⟩
  rw [← hE]
  have HF : Hid (E = (decide (1 < wtP t l) && ((wtP t r == 1) && ((wtP t rl == 0) && (decide (0 < wtP t rr) && (belL t mi rl != -1)))))) := hE
  clear h hl hr hrl hrr
  clear hE
  cases h1 : decide (1 < wtP t l)
  · rw [h1] at HF
    go_enter Tryd.func28, Tryd.ntmps28
    go_wp2_with (first | (go_at_call 29; refine (WT.out _ _ (HS.out.below B.out).st (by (first | (with_reducible exact Pl.out) | (with_reducible exact Pr.out) | (with_reducible exact Prl.out) | (with_reducible exact Prr.out)))).mono ?_; rintro e w1 ⟨rfl, hb1⟩; have B' : Hid (Below w.heap.size w w1) := B.out.trans (hb1.mono B.out.size); clear hb1 B; have B : Hid (Below w.heap.size w w1) := B'.out; clear B'; clear slt s1 s3 s4 s5 s6 s7 s8 s9 s10 s11; obtain ⟨slt, s1, s3, s4, s5, s6, s7, s8, s9, s10, s11⟩ := CC.out _ B.out) | (go_at_call 39; refine (IN.out _ _ (HS.out.below B.out).st (by (first | (with_reducible exact Pl.out) | (with_reducible exact Pr.out) | (with_reducible exact Prl.out) | (with_reducible exact Prr.out)))).mono ?_; rintro e w1 ⟨rfl, hb1⟩; have B' : Hid (Below w.heap.size w w1) := B.out.trans (hb1.mono B.out.size); clear hb1 B; have B : Hid (Below w.heap.size w w1) := B'.out; clear B'; clear slt s1 s3 s4 s5 s6 s7 s8 s9 s10 s11; obtain ⟨slt, s1, s3, s4, s5, s6, s7, s8, s9, s10, s11⟩ := CC.out _ B.out))
    go_ret
    exact ⟨by rw [HF.out]; rfl, B.out⟩
  · rw [h1] at HF
    cases h2 : (wtP t r == 1)
    · rw [h2] at HF
      go_enter Tryd.func28, Tryd.ntmps28
      go_wp2_with (first | (go_at_call 29; refine (WT.out _ _ (HS.out.below B.out).st (by (first | (with_reducible exact Pl.out) | (with_reducible exact Pr.out) | (with_reducible exact Prl.out) | (with_reducible exact Prr.out)))).mono ?_; rintro e w1 ⟨rfl, hb1⟩; have B' : Hid (Below w.heap.size w w1) := B.out.trans (hb1.mono B.out.size); clear hb1 B; have B : Hid (Below w.heap.size w w1) := B'.out; clear B'; clear slt s1 s3 s4 s5 s6 s7 s8 s9 s10 s11; obtain ⟨slt, s1, s3, s4, s5, s6, s7, s8, s9, s10, s11⟩ := CC.out _ B.out) | (go_at_call 39; refine (IN.out _ _ (HS.out.below B.out).st (by (first | (with_reducible exact Pl.out) | (with_reducible exact Pr.out) | (with_reducible exact Prl.out) | (with_reducible exact Prr.out)))).mono ?_; rintro e w1 ⟨rfl, hb1⟩; have B' : Hid (Below w.heap.size w w1) := B.out.trans (hb1.mono B.out.size); clear hb1 B; have B : Hid (Below w.heap.size w w1) := B'.out; clear B'; clear slt s1 s3 s4 s5 s6 s7 s8 s9 s10 s11; obtain ⟨slt, s1, s3, s4, s5, s6, s7, s8, s9, s10, s11⟩ := CC.out _ B.out))
      go_ret
      exact ⟨by rw [HF.out]; rfl, B.out⟩
    · rw [h2] at HF
      cases h3 : (wtP t rl == 0)
      · rw [h3] at HF
        go_enter Tryd.func28, Tryd.ntmps28
        go_wp2_with (first | (go_at_call 29; refine (WT.out _ _ (HS.out.below B.out).st (by (first | (with_reducible exact Pl.out) | (with_reducible exact Pr.out) | (with_reducible exact Prl.out) | (with_reducible exact Prr.out)))).mono ?_; rintro e w1 ⟨rfl, hb1⟩; have B' : Hid (Below w.heap.size w w1) := B.out.trans (hb1.mono B.out.size); clear hb1 B; have B : Hid (Below w.heap.size w w1) := B'.out; clear B'; clear slt s1 s3 s4 s5 s6 s7 s8 s9 s10 s11; obtain ⟨slt, s1, s3, s4, s5, s6, s7, s8, s9, s10, s11⟩ := CC.out _ B.out) | (go_at_call 39; refine (IN.out _ _ (HS.out.below B.out).st (by (first | (with_reducible exact Pl.out) | (with_reducible exact Pr.out) | (with_reducible exact Prl.out) | (with_reducible exact Prr.out)))).mono ?_; rintro e w1 ⟨rfl, hb1⟩; have B' : Hid (Below w.heap.size w w1) := B.out.trans (hb1.mono B.out.size); clear hb1 B; have B : Hid (Below w.heap.size w w1) := B'.out; clear B'; clear slt s1 s3 s4 s5 s6 s7 s8 s9 s10 s11; obtain ⟨slt, s1, s3, s4, s5, s6, s7, s8, s9, s10, s11⟩ := CC.out _ B.out))
        go_ret
        exact ⟨by rw [HF.out]; rfl, B.out⟩
      · rw [h3] at HF
        cases h4 : decide (0 < wtP t rr)
        · rw [h4] at HF
          go_enter Tryd.func28, Tryd.ntmps28
          go_wp2_with (first | (go_at_call 29; refine (WT.out _ _ (HS.out.below B.out).st (by (first | (with_reducible exact Pl.out) | (with_reducible exact Pr.out) | (with_reducible exact Prl.out) | (with_reducible exact Prr.out)))).mono ?_; rintro e w1 ⟨rfl, hb1⟩; have B' : Hid (Below w.heap.size w w1) := B.out.trans (hb1.mono B.out.size); clear hb1 B; have B : Hid (Below w.heap.size w w1) := B'.out; clear B'; clear slt s1 s3 s4 s5 s6 s7 s8 s9 s10 s11; obtain ⟨slt, s1, s3, s4, s5, s6, s7, s8, s9, s10, s11⟩ := CC.out _ B.out) | (go_at_call 39; refine (IN.out _ _ (HS.out.below B.out).st (by (first | (with_reducible exact Pl.out) | (with_reducible exact Pr.out) | (with_reducible exact Prl.out) | (with_reducible exact Prr.out)))).mono ?_; rintro e w1 ⟨rfl, hb1⟩; have B' : Hid (Below w.heap.size w w1) := B.out.trans (hb1.mono B.out.size); clear hb1 B; have B : Hid (Below w.heap.size w w1) := B'.out; clear B'; clear slt s1 s3 s4 s5 s6 s7 s8 s9 s10 s11; obtain ⟨slt, s1, s3, s4, s5, s6, s7, s8, s9, s10, s11⟩ := CC.out _ B.out))
          go_ret
          exact ⟨by rw [HF.out]; rfl, B.out⟩
        · rw [h4] at HF
          cases h5 : (belL t mi rl != -1)
          · rw [h5] at HF
            go_enter Tryd.func28, Tryd.ntmps28
            go_wp2_with (first | (go_at_call 29; refine (WT.out _ _ (HS.out.below B.out).st (by (first | (with_reducible exact Pl.out) | (with_reducible exact Pr.out) | (with_reducible exact Prl.out) | (with_reducible exact Prr.out)))).mono ?_; rintro e w1 ⟨rfl, hb1⟩; have B' : Hid (Below w.heap.size w w1) := B.out.trans (hb1.mono B.out.size); clear hb1 B; have B : Hid (Below w.heap.size w w1) := B'.out; clear B'; clear slt s1 s3 s4 s5 s6 s7 s8 s9 s10 s11; obtain ⟨slt, s1, s3, s4, s5, s6, s7, s8, s9, s10, s11⟩ := CC.out _ B.out) | (go_at_call 39; refine (IN.out _ _ (HS.out.below B.out).st (by (first | (with_reducible exact Pl.out) | (with_reducible exact Pr.out) | (with_reducible exact Prl.out) | (with_reducible exact Prr.out)))).mono ?_; rintro e w1 ⟨rfl, hb1⟩; have B' : Hid (Below w.heap.size w w1) := B.out.trans (hb1.mono B.out.size); clear hb1 B; have B : Hid (Below w.heap.size w w1) := B'.out; clear B'; clear slt s1 s3 s4 s5 s6 s7 s8 s9 s10 s11; obtain ⟨slt, s1, s3, s4, s5, s6, s7, s8, s9, s10, s11⟩ := CC.out _ B.out))
            go_ret
            exact ⟨by rw [HF.out]; rfl, B.out⟩
          · rw [h5] at HF
            go_enter Tryd.func28, Tryd.ntmps28
            go_wp2_with (first | (go_at_call 29; refine (WT.out _ _ (HS.out.below B.out).st (by (first | (with_reducible exact Pl.out) | (with_reducible exact Pr.out) | (with_reducible exact Prl.out) | (with_reducible exact Prr.out)))).mono ?_; rintro e w1 ⟨rfl, hb1⟩; have B' : Hid (Below w.heap.size w w1) := B.out.trans (hb1.mono B.out.size); clear hb1 B; have B : Hid (Below w.heap.size w w1) := B'.out; clear B'; clear slt s1 s3 s4 s5 s6 s7 s8 s9 s10 s11; obtain ⟨slt, s1, s3, s4, s5, s6, s7, s8, s9, s10, s11⟩ := CC.out _ B.out) | (go_at_call 39; refine (IN.out _ _ (HS.out.below B.out).st (by (first | (with_reducible exact Pl.out) | (with_reducible exact Pr.out) | (with_reducible exact Prl.out) | (with_reducible exact Prr.out)))).mono ?_; rintro e w1 ⟨rfl, hb1⟩; have B' : Hid (Below w.heap.size w w1) := B.out.trans (hb1.mono B.out.size); clear hb1 B; have B : Hid (Below w.heap.size w w1) := B'.out; clear B'; clear slt s1 s3 s4 s5 s6 s7 s8 s9 s10 s11; obtain ⟨slt, s1, s3, s4, s5, s6, s7, s8, s9, s10, s11⟩ := CC.out _ B.out))
            go_ret
            exact ⟨by rw [HF.out]; rfl, B.out⟩
set_option maxRecDepth 100000 in
set_option maxHeartbeats 4000000 in
theorem allows11 (sb : Nat) (base : Option Addr) (b o c : Nat) (t : NL) (root : Int) (mi : Bool) (x l r ll lr rl rr rll rlr : Int) (w : World) (h : SBox w sb base b o c t root mi x l r ll lr rl rr rll rlr) (hl : plOk t l) (hr : plOk t r) :
    Calls Tryd.prog 28 #[.pointer (some ⟨sb, 0, none⟩), .int .i64 11] w fun e w' => e = .returned (.bool (decide (1 < wtP t l) && decide (1 < wtP t r))) ∧ Below w.heap.size w w' := by
  have Pl : Hid (plOk t l) := hl
  have Pr : Hid (plOk t r) := hr
  have HS : Hid (SBox w sb base b o c t root mi x l r ll lr rl rr rll rlr) := h
  have CC : Hid (∀ z, Below w.heap.size w z → sb < z.heap.size ∧ z.cell? ⟨sb, 1, none⟩ = some (.int .i64 root) ∧ z.cell? ⟨sb, 3, none⟩ = some (.int .i64 x) ∧ z.cell? ⟨sb, 4, none⟩ = some (.int .i64 l) ∧ z.cell? ⟨sb, 5, none⟩ = some (.int .i64 r) ∧ z.cell? ⟨sb, 6, none⟩ = some (.int .i64 ll) ∧ z.cell? ⟨sb, 7, none⟩ = some (.int .i64 lr) ∧ z.cell? ⟨sb, 8, none⟩ = some (.int .i64 rl) ∧ z.cell? ⟨sb, 9, none⟩ = some (.int .i64 rr) ∧ z.cell? ⟨sb, 10, none⟩ = some (.int .i64 rll) ∧ z.cell? ⟨sb, 11, none⟩ = some (.int .i64 rlr)) := fun z hz => by have q := HS.out.below hz; exact ⟨q.lt, q.c1, q.c3, q.c4, q.c5, q.c6, q.c7, q.c8, q.c9, q.c10, q.c11⟩
  have WT : Hid (∀ (W : World) (p : Int), StAt W sb base b o c t mi → plOk t p → Calls Tryd.prog 29 #[.pointer (some ⟨sb, 0, none⟩), .int .i64 p] W fun e w' => e = .returned (.int .i64 (wtP t p)) ∧ Below W.heap.size W w') := fun W p h1 h2 => weight_any sb base b o c t mi p W h1 h2
  have B : Hid (Below w.heap.size w w) := Below.refl _ _
  obtain ⟨slt, s1, s3, s4, s5, s6, s7, s8, s9, s10, s11⟩ := CC.out w (Below.refl _ _)
  obtain ⟨E, hE⟩ : ∃ E : Bool, E = (decide (1 < wtP t l) && decide (1 < wtP t r)) := ⟨_, rfl⟩
  rw [← hE]
  have HF : Hid (E = (decide (1 < wtP t l) && decide (1 < wtP t r))) := hE
  clear h hl hr
  clear hE
  cases h1 : decide (1 < wtP t l)
  · rw [h1] at HF
    go_enter Tryd.func28, Tryd.ntmps28
    go_wp2_with (first | (go_at_call 29; refine (WT.out _ _ (HS.out.below B.out).st (by (first | (with_reducible exact Pl.out) | (with_reducible exact Pr.out)))).mono ?_; rintro e w1 ⟨rfl, hb1⟩; have B' : Hid (Below w.heap.size w w1) := B.out.trans (hb1.mono B.out.size); clear hb1 B; have B : Hid (Below w.heap.size w w1) := B'.out; clear B'; clear slt s1 s3 s4 s5 s6 s7 s8 s9 s10 s11; obtain ⟨slt, s1, s3, s4, s5, s6, s7, s8, s9, s10, s11⟩ := CC.out _ B.out))
    go_ret
    exact ⟨by rw [HF.out]; rfl, B.out⟩
  · rw [h1] at HF
    cases h2 : decide (1 < wtP t r)
    · rw [h2] at HF
      go_enter Tryd.func28, Tryd.ntmps28
      go_wp2_with (first | (go_at_call 29; refine (WT.out _ _ (HS.out.below B.out).st (by (first | (with_reducible exact Pl.out) | (with_reducible exact Pr.out)))).mono ?_; rintro e w1 ⟨rfl, hb1⟩; have B' : Hid (Below w.heap.size w w1) := B.out.trans (hb1.mono B.out.size); clear hb1 B; have B : Hid (Below w.heap.size w w1) := B'.out; clear B'; clear slt s1 s3 s4 s5 s6 s7 s8 s9 s10 s11; obtain ⟨slt, s1, s3, s4, s5, s6, s7, s8, s9, s10, s11⟩ := CC.out _ B.out))
      go_ret
      exact ⟨by rw [HF.out]; rfl, B.out⟩
    · rw [h2] at HF
      go_enter Tryd.func28, Tryd.ntmps28
      go_wp2_with (first | (go_at_call 29; refine (WT.out _ _ (HS.out.below B.out).st (by (first | (with_reducible exact Pl.out) | (with_reducible exact Pr.out)))).mono ?_; rintro e w1 ⟨rfl, hb1⟩; have B' : Hid (Below w.heap.size w w1) := B.out.trans (hb1.mono B.out.size); clear hb1 B; have B : Hid (Below w.heap.size w w1) := B'.out; clear B'; clear slt s1 s3 s4 s5 s6 s7 s8 s9 s10 s11; obtain ⟨slt, s1, s3, s4, s5, s6, s7, s8, s9, s10, s11⟩ := CC.out _ B.out))
      go_ret
      exact ⟨by rw [HF.out]; rfl, B.out⟩
set_option maxRecDepth 100000 in
set_option maxHeartbeats 4000000 in
theorem allows12 (sb : Nat) (base : Option Addr) (b o c : Nat) (t : NL) (root : Int) (mi : Bool) (x l r ll lr rl rr rll rlr : Int) (w : World) (h : SBox w sb base b o c t root mi x l r ll lr rl rr rll rlr) (hx : plOk t x) :
    Calls Tryd.prog 28 #[.pointer (some ⟨sb, 0, none⟩), .int .i64 12] w fun e w' => e = .returned (.bool ((x == root) && (wtP t x != 1))) ∧ Below w.heap.size w w' := by
  have Px : Hid (plOk t x) := hx
  have HS : Hid (SBox w sb base b o c t root mi x l r ll lr rl rr rll rlr) := h
  have CC : Hid (∀ z, Below w.heap.size w z → sb < z.heap.size ∧ z.cell? ⟨sb, 1, none⟩ = some (.int .i64 root) ∧ z.cell? ⟨sb, 3, none⟩ = some (.int .i64 x) ∧ z.cell? ⟨sb, 4, none⟩ = some (.int .i64 l) ∧ z.cell? ⟨sb, 5, none⟩ = some (.int .i64 r) ∧ z.cell? ⟨sb, 6, none⟩ = some (.int .i64 ll) ∧ z.cell? ⟨sb, 7, none⟩ = some (.int .i64 lr) ∧ z.cell? ⟨sb, 8, none⟩ = some (.int .i64 rl) ∧ z.cell? ⟨sb, 9, none⟩ = some (.int .i64 rr) ∧ z.cell? ⟨sb, 10, none⟩ = some (.int .i64 rll) ∧ z.cell? ⟨sb, 11, none⟩ = some (.int .i64 rlr)) := fun z hz => by have q := HS.out.below hz; exact ⟨q.lt, q.c1, q.c3, q.c4, q.c5, q.c6, q.c7, q.c8, q.c9, q.c10, q.c11⟩
  have WT : Hid (∀ (W : World) (p : Int), StAt W sb base b o c t mi → plOk t p → Calls Tryd.prog 29 #[.pointer (some ⟨sb, 0, none⟩), .int .i64 p] W fun e w' => e = .returned (.int .i64 (wtP t p)) ∧ Below W.heap.size W w') := fun W p h1 h2 => weight_any sb base b o c t mi p W h1 h2
  have B : Hid (Below w.heap.size w w) := Below.refl _ _
  obtain ⟨slt, s1, s3, s4, s5, s6, s7, s8, s9, s10, s11⟩ := CC.out w (Below.refl _ _)
  obtain ⟨E, hE⟩ : ∃ E : Bool, E = ((x == root) && (wtP t x != 1)) := ⟨_, rfl⟩
  rw [← hE]
  have HF : Hid (E = ((x == root) && (wtP t x != 1))) := hE
  clear h hx
  clear hE
  cases h1 : (x == root)
  · rw [h1] at HF
    go_enter Tryd.func28, Tryd.ntmps28
    go_wp2_with fail
    go_quiet (fail)
    go_wp2_with fail
    go_ret
    exact ⟨by rw [HF.out]; rfl, below_drewN (Below.refl _ _) _⟩
  · rw [h1] at HF
    have B0 : Hid (Below w.heap.size w w.drew) := (Below.refl _ _).drew
    cases h2 : (wtP t x != 1)
    · rw [h2] at HF
      go_enter Tryd.func28, Tryd.ntmps28
      go_wp2_with fail
      go_region_held3 (fun w' => w'.cell? ⟨sb, 1, none⟩ = some (.int .i64 root) ∧ w'.cell? ⟨sb, 3, none⟩ = some (.int .i64 x))
        (first | (with_reducible exact X1.out) | go_keep)
        (first | (go_at_call 29; refine (WT.out _ _ (HS.out.below B0.out).st Px.out).mono ?_; rintro e w1 ⟨rfl, hb1⟩; have B1 : Hid (Below w.heap.size w w1) := B0.out.trans (hb1.mono B0.out.size); have X1 : Hid _ := And.intro (CC.out _ B1.out).2.1 (CC.out _ B1.out).2.2.1; clear hb1))
      go_wp2_with fail
      go_ret
      exact ⟨by rw [HF.out]; rfl, B1.out⟩
    · rw [h2] at HF
      go_enter Tryd.func28, Tryd.ntmps28
      go_wp2_with fail
      go_region_held3 (fun w' => w'.cell? ⟨sb, 1, none⟩ = some (.int .i64 root) ∧ w'.cell? ⟨sb, 3, none⟩ = some (.int .i64 x))
        (first | (with_reducible exact X1.out) | go_keep)
        (first | (go_at_call 29; refine (WT.out _ _ (HS.out.below B0.out).st Px.out).mono ?_; rintro e w1 ⟨rfl, hb1⟩; have B1 : Hid (Below w.heap.size w w1) := B0.out.trans (hb1.mono B0.out.size); have X1 : Hid _ := And.intro (CC.out _ B1.out).2.1 (CC.out _ B1.out).2.2.1; clear hb1))
      go_wp2_with fail
      go_ret
      exact ⟨by rw [HF.out]; rfl, B1.out⟩
end Go.Proofs.YthlhbajaogonnaaDoor
