/- Layer 7: the law's own history, and that it is found to have its one order. Layer 7: the document's kind and Check. A drawn region that only reads and calls what leaves all old blocks as they were: one walk, in the text's order. Layer 6: the reference's SameRets of equal lists. Layer 7: the document's SameInts, SameState, SameRets. Layer 7: the document's SameRets. -/
import Derived.Test.YtcphajjonecmbaaDoorYChg2
import Derived.Test.YtcphajjonecmbaaDoorMRun
import Derived.Deep.QuietTactic
import Derived.BigQuiet
import Derived.Test.YtcphajjonecmbaaDoorEQuiet
import Derived.Test.YtcphajjonecmbaaDoorYFind

namespace Go.Proofs.YtcphajjonecmbaaDoor

open Go.RowKit Go.Deep

attribute [local go_sem ↓] Go.wp_at_zero Go.wp_at_succ

theorem kOk_cases {t k m : Int} (hm : kMax t = m) : kOk t k = (decide (1 ≤ k) && decide (k ≤ m)) := by unfold kOk; rw [hm]
set_option maxRecDepth 100000 in
theorem rkind7_any (t k : Int) (w : World) : Calls Tryd.prog 55 #[.int .i64 t, .int .i64 k] w fun e w' => e = .returned (.bool (kOk t k)) ∧ w = w' := by
  by_cases h1 : t = 1
  · subst h1
    rw [kOk_cases (m := 3) rfl]
    by_cases hk : 1 ≤ k
    · rw [decide_eq_true hk, Bool.true_and]
      go_enter Tryd.func55, Tryd.ntmps55
      go_wp2_with fail
      go_ret
      exact ⟨rfl, rfl⟩
    · rw [decide_eq_false hk, Bool.false_and]
      go_enter Tryd.func55, Tryd.ntmps55
      go_wp2_with fail
      go_ret
      exact ⟨rfl, rfl⟩
  · by_cases h5 : t = 5
    · subst h5
      rw [kOk_cases (m := 9) rfl]
      by_cases hk : 1 ≤ k
      · rw [decide_eq_true hk, Bool.true_and]
        go_enter Tryd.func55, Tryd.ntmps55
        go_wp2_with fail
        go_ret
        exact ⟨rfl, rfl⟩
      · rw [decide_eq_false hk, Bool.false_and]
        go_enter Tryd.func55, Tryd.ntmps55
        go_wp2_with fail
        go_ret
        exact ⟨rfl, rfl⟩
    · rw [kOk_cases (m := 2) (by unfold kMax; rw [if_neg h1, if_neg h5])]
      have e1 : (t == 1) = false := by rw [beq_eq_false_iff_ne]; exact h1
      have e5 : (t == 5) = false := by rw [beq_eq_false_iff_ne]; exact h5
      by_cases hk : 1 ≤ k
      · rw [decide_eq_true hk, Bool.true_and]
        go_enter Tryd.func55, Tryd.ntmps55
        go_wp2_with fail
        go_ret
        exact ⟨rfl, rfl⟩
      · rw [decide_eq_false hk, Bool.false_and]
        go_enter Tryd.func55, Tryd.ntmps55
        go_wp2_with fail
        go_ret
        exact ⟨rfl, rfl⟩

theorem sErr_low {t : Int} {s : SD} (h : t < 1 ∨ 5 < t) : sErr t s = 5 := if_pos h
theorem sErr_in {t : Int} {s : SD} (h : 1 ≤ t ∧ t ≤ 5) : sErr t s = if inFm t s then 0 else 3 := if_neg (by omega)
set_option maxRecDepth 100000 in
set_option maxHeartbeats 1000000 in
theorem rcheck7_any (t : Int) (x : SX) (s : SD) (w : World) (h : StAt w x s) :
    Calls Tryd.prog 14 #[.int .i64 t, x.v s] w fun e w' => e = .returned (.int .i64 (sErr t s)) ∧ Below w.heap.size w w' := by
  have HP : Hid (PairsAt w x.pa x.pg x.po s.prs) := h.prs
  have hv := h.vals.len
  have hp := h.prs.len
  unfold maxLen at hv hp
  have CK : Hid (∀ W, PairsAt W x.pa x.pg x.po s.prs → Calls Tryd.prog 54 #[.slice x.pa s.prs.length x.pc] W fun e w' => e = .returned (.int .i64 (ckErr s.prs)) ∧ Below W.heap.size W w') := fun W hW => rcheck_anyM x.pa x.pg x.po x.pc s.prs W hW
  have HB : Hid (Below w.heap.size w (w.alloc (.cells #[.slice x.va s.vals.length x.vc, .slice x.pa s.prs.length x.pc] 25))) := below_alloc _ _
  have c0 := cell_new w #[.slice x.va s.vals.length x.vc, .slice x.pa s.prs.length x.pc] 25 0
  have c1 := cell_new w #[.slice x.va s.vals.length x.vc, .slice x.pa s.prs.length x.pc] 25 1
  have EL : Hid (t < 1 ∨ 5 < t → sErr t s = 5) := fun q => sErr_low q
  have EO : Hid (t = 1 ∨ t = 2 → sErr t s = if (decide (s.vals.length = 1) && decide (s.prs.length = 0)) then 0 else 3) := fun q => by rw [← inFm_one q]; exact sErr_in (by omega)
  have EM : Hid (t = 5 → sErr t s = if (decide (s.vals.length = 0) && decide (ckErr s.prs = 0)) then 0 else 3) := fun q => by subst q; rw [← inFm_map]; exact sErr_in (by omega)
  have ER : Hid (t = 3 ∨ t = 4 → sErr t s = if decide (s.prs.length = 0) then 0 else 3) := fun q => by rw [← inFm_row q]; exact sErr_in (by omega)
  generalize sErr t s = F at *
  unfold SX.v
  obtain ⟨va, vg, vo, vc, pa, pg, po, pc⟩ := x
  simp only at *
  obtain ⟨vs, ps⟩ := s
  simp only at *
  generalize vs.length = n at *
  generalize ps.length = m at *
  obtain ⟨E, hE⟩ : ∃ E, E = ckErr ps := ⟨_, rfl⟩
  simp only [← hE] at CK EM
  clear h hE
  have n0 : (0 : Int) ≤ (n : Int) := Int.natCast_nonneg _
  have m0 : (0 : Int) ≤ (m : Int) := Int.natCast_nonneg _
  have HC : t < 1 ∨ 5 < t ∨ t = 1 ∨ t = 2 ∨ t = 3 ∨ t = 4 ∨ t = 5 := by omega

  rcases HC with q | q | rfl | rfl | rfl | rfl | rfl
  · obtain rfl := EL.out (Or.inl q)
    clear EL EO EM ER
    go_enter Tryd.func14, Tryd.ntmps14
    go_wp2_with (first | (go_at_call 54; refine (CK.out _ PW.out).mono ?_; rintro e w1 ⟨rfl, hb1⟩; have B1 : Hid (Below w.heap.size w w1) := HB.out.trans (hb1.mono HB.out.size); clear hb1))
    go_ret
    exact ⟨rfl, HB.out⟩
  · obtain rfl := EL.out (Or.inr q)
    have q1 : ¬ t < 1 := by omega
    clear EL EO EM ER
    go_enter Tryd.func14, Tryd.ntmps14
    go_wp2_with (first | (go_at_call 54; refine (CK.out _ PW.out).mono ?_; rintro e w1 ⟨rfl, hb1⟩; have B1 : Hid (Below w.heap.size w w1) := HB.out.trans (hb1.mono HB.out.size); clear hb1))
    go_ret
    exact ⟨rfl, HB.out⟩
  · have eF := EO.out (Or.inl rfl)
    subst eF
    clear EL EO EM ER
    by_cases hn : n = 1
    · have e1 : ((n : Int) == 1) = true := by subst hn; rfl
      by_cases hm : m = 0
      · have e2 : ((m : Int) == 0) = true := by subst hm; rfl
        rw [decide_eq_true hn, decide_eq_true hm]
        simp only [Bool.and_self, if_true]
        clear hn hm
        go_enter Tryd.func14, Tryd.ntmps14
        go_wp2_with (first | (go_at_call 54; refine (CK.out _ PW.out).mono ?_; rintro e w1 ⟨rfl, hb1⟩; have B1 : Hid (Below w.heap.size w w1) := HB.out.trans (hb1.mono HB.out.size); clear hb1))
        go_ret
        exact ⟨rfl, HB.out⟩
      · have e2 : ((m : Int) == 0) = false := by rw [beq_eq_false_iff_ne]; omega
        rw [decide_eq_true hn, decide_eq_false hm]
        simp only [Bool.and_false, Bool.false_eq_true, if_false]
        clear hn hm
        go_enter Tryd.func14, Tryd.ntmps14
        go_wp2_with (first | (go_at_call 54; refine (CK.out _ PW.out).mono ?_; rintro e w1 ⟨rfl, hb1⟩; have B1 : Hid (Below w.heap.size w w1) := HB.out.trans (hb1.mono HB.out.size); clear hb1))
        go_ret
        exact ⟨rfl, HB.out⟩
    · have e1 : ((n : Int) == 1) = false := by rw [beq_eq_false_iff_ne]; omega
      rw [decide_eq_false hn]
      simp only [Bool.false_and, Bool.false_eq_true, if_false]
      clear hn
      go_enter Tryd.func14, Tryd.ntmps14
      go_wp2_with (first | (go_at_call 54; refine (CK.out _ PW.out).mono ?_; rintro e w1 ⟨rfl, hb1⟩; have B1 : Hid (Below w.heap.size w w1) := HB.out.trans (hb1.mono HB.out.size); clear hb1))
      go_ret
      exact ⟨rfl, HB.out⟩
  · have eF := EO.out (Or.inr rfl)
    subst eF
    clear EL EO EM ER
    by_cases hn : n = 1
    · have e1 : ((n : Int) == 1) = true := by subst hn; rfl
      by_cases hm : m = 0
      · have e2 : ((m : Int) == 0) = true := by subst hm; rfl
        rw [decide_eq_true hn, decide_eq_true hm]
        simp only [Bool.and_self, if_true]
        clear hn hm
        go_enter Tryd.func14, Tryd.ntmps14
        go_wp2_with (first | (go_at_call 54; refine (CK.out _ PW.out).mono ?_; rintro e w1 ⟨rfl, hb1⟩; have B1 : Hid (Below w.heap.size w w1) := HB.out.trans (hb1.mono HB.out.size); clear hb1))
        go_ret
        exact ⟨rfl, HB.out⟩
      · have e2 : ((m : Int) == 0) = false := by rw [beq_eq_false_iff_ne]; omega
        rw [decide_eq_true hn, decide_eq_false hm]
        simp only [Bool.and_false, Bool.false_eq_true, if_false]
        clear hn hm
        go_enter Tryd.func14, Tryd.ntmps14
        go_wp2_with (first | (go_at_call 54; refine (CK.out _ PW.out).mono ?_; rintro e w1 ⟨rfl, hb1⟩; have B1 : Hid (Below w.heap.size w w1) := HB.out.trans (hb1.mono HB.out.size); clear hb1))
        go_ret
        exact ⟨rfl, HB.out⟩
    · have e1 : ((n : Int) == 1) = false := by rw [beq_eq_false_iff_ne]; omega
      rw [decide_eq_false hn]
      simp only [Bool.false_and, Bool.false_eq_true, if_false]
      clear hn
      go_enter Tryd.func14, Tryd.ntmps14
      go_wp2_with (first | (go_at_call 54; refine (CK.out _ PW.out).mono ?_; rintro e w1 ⟨rfl, hb1⟩; have B1 : Hid (Below w.heap.size w w1) := HB.out.trans (hb1.mono HB.out.size); clear hb1))
      go_ret
      exact ⟨rfl, HB.out⟩
  · have eF := ER.out (Or.inl rfl)
    subst eF
    clear EL EO EM ER
    by_cases hm : m = 0
    · have e2 : ((m : Int) == 0) = true := by subst hm; rfl
      rw [decide_eq_true hm]
      simp only [if_true]
      clear hm
      go_enter Tryd.func14, Tryd.ntmps14
      go_wp2_with (first | (go_at_call 54; refine (CK.out _ PW.out).mono ?_; rintro e w1 ⟨rfl, hb1⟩; have B1 : Hid (Below w.heap.size w w1) := HB.out.trans (hb1.mono HB.out.size); clear hb1))
      go_ret
      exact ⟨rfl, HB.out⟩
    · have e2 : ((m : Int) == 0) = false := by rw [beq_eq_false_iff_ne]; omega
      rw [decide_eq_false hm]
      simp only [Bool.false_eq_true, if_false]
      clear hm
      go_enter Tryd.func14, Tryd.ntmps14
      go_wp2_with (first | (go_at_call 54; refine (CK.out _ PW.out).mono ?_; rintro e w1 ⟨rfl, hb1⟩; have B1 : Hid (Below w.heap.size w w1) := HB.out.trans (hb1.mono HB.out.size); clear hb1))
      go_ret
      exact ⟨rfl, HB.out⟩
  · have eF := ER.out (Or.inr rfl)
    subst eF
    clear EL EO EM ER
    by_cases hm : m = 0
    · have e2 : ((m : Int) == 0) = true := by subst hm; rfl
      rw [decide_eq_true hm]
      simp only [if_true]
      clear hm
      go_enter Tryd.func14, Tryd.ntmps14
      go_wp2_with (first | (go_at_call 54; refine (CK.out _ PW.out).mono ?_; rintro e w1 ⟨rfl, hb1⟩; have B1 : Hid (Below w.heap.size w w1) := HB.out.trans (hb1.mono HB.out.size); clear hb1))
      go_ret
      exact ⟨rfl, HB.out⟩
    · have e2 : ((m : Int) == 0) = false := by rw [beq_eq_false_iff_ne]; omega
      rw [decide_eq_false hm]
      simp only [Bool.false_eq_true, if_false]
      clear hm
      go_enter Tryd.func14, Tryd.ntmps14
      go_wp2_with (first | (go_at_call 54; refine (CK.out _ PW.out).mono ?_; rintro e w1 ⟨rfl, hb1⟩; have B1 : Hid (Below w.heap.size w w1) := HB.out.trans (hb1.mono HB.out.size); clear hb1))
      go_ret
      exact ⟨rfl, HB.out⟩
  · have eF := EM.out rfl
    subst eF
    clear EL EO EM ER
    have PW : Hid (PairsAt (w.alloc (.cells #[.slice va n vc, .slice pa m pc] 25)) pa pg po ps) := HP.out.below (below_alloc _ _)
    by_cases hn : n = 0
    · have e1 : ((n : Int) == 0) = true := by subst hn; rfl
      by_cases hm : E = 0
      · have e2 : (E == 0) = true := by subst hm; rfl
        rw [decide_eq_true hn, decide_eq_true hm]
        simp only [Bool.and_self, if_true]
        clear hn hm
        go_enter Tryd.func14, Tryd.ntmps14
        go_wp2_with (first | (go_at_call 54; refine (CK.out _ PW.out).mono ?_; rintro e w1 ⟨rfl, hb1⟩; have B1 : Hid (Below w.heap.size w w1) := HB.out.trans (hb1.mono HB.out.size); clear hb1))
        go_ret
        exact ⟨rfl, B1.out⟩
      · have e2 : (E == 0) = false := by rw [beq_eq_false_iff_ne]; omega
        rw [decide_eq_true hn, decide_eq_false hm]
        simp only [Bool.and_false, Bool.false_eq_true, if_false]
        clear hn hm
        go_enter Tryd.func14, Tryd.ntmps14
        go_wp2_with (first | (go_at_call 54; refine (CK.out _ PW.out).mono ?_; rintro e w1 ⟨rfl, hb1⟩; have B1 : Hid (Below w.heap.size w w1) := HB.out.trans (hb1.mono HB.out.size); clear hb1))
        go_ret
        exact ⟨rfl, B1.out⟩
    · have e1 : ((n : Int) == 0) = false := by rw [beq_eq_false_iff_ne]; omega
      rw [decide_eq_false hn]
      simp only [Bool.false_and, Bool.false_eq_true, if_false]
      clear hn
      go_enter Tryd.func14, Tryd.ntmps14
      go_wp2_with (first | (go_at_call 54; refine (CK.out _ PW.out).mono ?_; rintro e w1 ⟨rfl, hb1⟩; have B1 : Hid (Below w.heap.size w w1) := HB.out.trans (hb1.mono HB.out.size); clear hb1))
      go_ret
      exact ⟨rfl, HB.out⟩
end Go.Proofs.YtcphajjonecmbaaDoor



namespace Go.Proofs.YtcphajjonecmbaaDoor

open Go.RowKit

structure BelowByM (w : World) where
  W : World
  h : Below w.heap.size w W
instance (w : World) : Inhabited (BelowByM w) := ⟨⟨w, Below.refl _ _⟩⟩
theorem wp_region_belowM {P : Program} {id : Nat} {Q : Exit → Act → World → Prop} {a : Act} {w : World} {l : List Oper} (hm : P.follows .mixedOrders = true) (hB : Region.lexB .any l.toArray = true)
    (h : wpQuiet P l.toArray (fun w' => ∃ p : BelowByM w, w' = p.W) (fun a' => ∀ w', (∃ p : BelowByM w, w' = p.W) → Q .normal a' w') l a) : (Code.region id l.toArray true).wp P Q a w :=
  wp_region_quiet (C := fun w' => ∃ p : BelowByM w, w' = p.W) hm hB ⟨⟨{ w with drawn := w.drawn + 1 }, ⟨rfl, rfl, rfl, Nat.le_refl _, fun _ _ => rfl⟩⟩, rfl⟩ (by simpa using h)
theorem below_callM {P : Program} {f : FuncId} {args : Array Value} {w : World} {p : BelowByM w} {v : Value}
    (h : Calls P f args p.W fun e w' => e = .returned v ∧ Below p.W.heap.size p.W w') : Calls P f args p.W fun e w' => e = .returned v ∧ ∃ p' : BelowByM w, w' = p'.W :=
  h.mono fun _ w' ⟨he, hb⟩ => ⟨he, ⟨w', p.h.trans (hb.mono p.h.size)⟩, rfl⟩
theorem BelowByM.cell {w : World} {b o : Nat} {v : Value} (hb : b < w.heap.size) (h : w.cell? ⟨b, o, none⟩ = some v) (p : BelowByM w) : p.W.cell? ⟨b, o, none⟩ = some v := (p.h.cell (p := ⟨b, o, none⟩) hb).trans h
theorem BelowByM.up {w0 w : World} (h0 : Below w0.heap.size w0 w) (p : BelowByM w) : Below w0.heap.size w0 p.W := h0.trans (p.h.mono h0.size)
end Go.Proofs.YtcphajjonecmbaaDoor

namespace Go.Proofs.YtcphajjonecmbaaDoor

open Go.RowKit

theorem retEq_refl (r : RetD) : retEqM r r = true := by simp [retEqM, plEqM]
end Go.Proofs.YtcphajjonecmbaaDoor


namespace Go.Proofs.YtcphajjonecmbaaDoor

open Go.RowKit

theorem oAt_ext {a b : List Int} (hl : a.length = b.length) (h : ∀ i, i < a.length → oAt a i = oAt b i) : a = b := by
  refine List.ext_getElem hl (fun i h1 h2 => ?_)
  have := h i h1
  simpa [oAt, List.getD_eq_getElem?_getD, List.getElem?_eq_getElem h1, List.getElem?_eq_getElem h2] using this
set_option maxRecDepth 100000 in
set_option maxHeartbeats 1000000 in
theorem rSameI_any (ba bb : Option Addr) (ga oa ca gb ob cb : Nat) (a b : List Int) (w : World) (ha : OrdAt w ba ga oa a) (hb : OrdAt w bb gb ob b) :
    Calls Tryd.prog 28 #[.slice ba a.length ca, .slice bb b.length cb] w fun e w' => e = .returned (.bool (decide (a = b))) ∧ Below w.heap.size w w' := by
  have la := ha.len
  have lb := hb.len
  unfold maxLen at la lb
  have HA : Hid _ := ha
  have HB : Hid _ := hb
  clear ha hb
  by_cases hl : a.length = b.length
  · have hd : ((a.length : Int) != (b.length : Int)) = false := by simp [hl]
    have HL : Hid _ := hl
    clear hl
    go_enter Tryd.func28, Tryd.ntmps28
    go_wp2_with fail
    go_loopw [5] (fun i wr => ∃ j : Nat, j ≤ a.length ∧ i = .int .i64 j ∧ (∀ k, k < j → oAt a k = oAt b k) ∧ Below w.heap.size w wr) (fun i _ => a.length - (intOf i).toNat)
    case atStart => exact ⟨0, Nat.zero_le _, rfl, fun k hk => by omega, Below.refl _ _⟩
    case round =>
      obtain ⟨j, hj, rfl, hall, hbw⟩ := hrel
      have HAL : Hid _ := hall
      clear hall
      by_cases hlt : j < a.length
      · have hlb : j < b.length := by have := HL.out; omega
        obtain rfl : ba = some ⟨ga, oa, none⟩ := HA.out.base (by omega)
        obtain rfl : bb = some ⟨gb, ob, none⟩ := HB.out.base (by omega)
        have c0 := (HA.out.below hbw).cells j hlt
        have c2 := (HB.out.below hbw).cells j hlb
        have j0 : (0 : Int) ≤ (j : Int) := Int.natCast_nonneg _
        have j1 : (j : Int) < (a.length : Int) := by omega
        have j2 : (j : Int) < (b.length : Int) := by omega
        by_cases hq : oAt a j = oAt b j
        · have hx : (oAt a j != oAt b j) = false := by simp [hq]
          have HQ : Hid _ := hq
          clear hq
          go_wp2_with fail
          go_quiet (fail)
          go_wp2_with fail
          refine ⟨⟨j + 1, by omega, by go_num, fun k hk => ?_, below_drewN hbw _⟩, by simp [intOf]; omega⟩
          by_cases e : k = j
          · subst e; exact HQ.out
          · exact HAL.out k (by omega)
        · have hx : (oAt a j != oAt b j) = true := by simp [hq]
          have F : Hid (decide (a = b) = false) := by
            show decide (a = b) = false
            simp only [decide_eq_false_iff_not]
            intro h
            exact hq (by rw [h])
          clear hq
          go_wp2_with fail
          go_quiet (fail)
          go_wp2_with fail
          go_ret
          exact ⟨by rw [F.out]; rfl, below_drewN hbw _⟩
      · have F : Hid (decide (a = b) = true) := by
          show decide (a = b) = true
          simp only [decide_eq_true_eq]
          exact oAt_ext HL.out (fun i hi => HAL.out i (by omega))
        go_wp2_with fail
        go_ret
        exact ⟨by rw [F.out]; rfl, hbw⟩
  · have hd : ((a.length : Int) != (b.length : Int)) = true := by simp; omega
    have F : Hid (decide (a = b) = false) := by
      show decide (a = b) = false
      simp only [decide_eq_false_iff_not]
      intro h
      exact hl (by rw [h])
    clear hl
    go_enter Tryd.func28, Tryd.ntmps28
    go_wp2_with fail
    go_ret
    exact ⟨by rw [F.out]; rfl, Below.refl _ _⟩
theorem cells2r {w : World} {b : Nat} {c0 c1 : Value} {T : TypeId} (h : w.heap[b]? = some (.cells #[c0, c1] T)) : (w.cell? ⟨b, 0, none⟩ = some c0 ∧ w.frozen? ⟨b, 0, none⟩ = false) ∧ (w.cell? ⟨b, 1, none⟩ = some c1 ∧ w.frozen? ⟨b, 1, none⟩ = false) := by simp [World.cell?, World.frozen?, h]
def sdEq (a b : SD) : Bool := decide (a.vals = b.vals) && decide (a.prs = b.prs)
theorem sdEq_refl (a : SD) : sdEq a a = true := by simp [sdEq]
theorem sdEq_iff {a b : SD} : sdEq a b = true ↔ a = b := by
  obtain ⟨a1, a2⟩ := a
  obtain ⟨b1, b2⟩ := b
  simp [sdEq]
set_option maxRecDepth 100000 in
set_option maxHeartbeats 1000000 in
theorem rSameS_any (x y : SX) (a b : SD) (w : World) (ha : StAt w x a) (hb : StAt w y b) :
    Calls Tryd.prog 17 #[x.v a, y.v b] w fun e w' => e = .returned (.bool (sdEq a b)) ∧ Below w.heap.size w w' := by
  obtain ⟨W0, hW0⟩ : ∃ W0, W0 = (w.alloc (.cells #[.slice x.va a.vals.length x.vc, .slice x.pa a.prs.length x.pc] 25)).alloc (.cells #[.slice y.va b.vals.length y.vc, .slice y.pa b.prs.length y.pc] 25) := ⟨_, rfl⟩
  have b0 : Below w.heap.size w W0 := by rw [hW0]; exact two_blocks _ _ _ _ _
  have B0 : Hid (Below w.heap.size w W0) := b0
  have z0 : W0.heap.size = w.heap.size + 2 := by rw [hW0]; simp
  have R0 : Hid (W0.heap[w.heap.size]? = some (.cells #[.slice x.va a.vals.length x.vc, .slice x.pa a.prs.length x.pc] 25)) := by
    show W0.heap[w.heap.size]? = _
    rw [hW0]; exact (heap_alloc_old _ _ (by simp)).trans (heap_alloc_at _ _ _ rfl)
  have R1 : Hid (W0.heap[w.heap.size + 1]? = some (.cells #[.slice y.va b.vals.length y.vc, .slice y.pa b.prs.length y.pc] 25)) := by
    show W0.heap[w.heap.size + 1]? = _
    rw [hW0]; exact heap_alloc_at _ _ _ (by simp)
  have S1 : Hid (∀ W, Below w.heap.size w W → Calls Tryd.prog 28 #[.slice x.va a.vals.length x.vc, .slice y.va b.vals.length y.vc] W fun e w' => e = .returned (.bool (decide (a.vals = b.vals))) ∧ Below W.heap.size W w') := fun W hW => rSameI_any x.va y.va x.vg x.vo x.vc y.vg y.vo y.vc a.vals b.vals W (ha.vals.below hW) (hb.vals.below hW)
  have S2 : Hid (∀ W, Below w.heap.size w W → Calls Tryd.prog 59 #[.slice x.pa a.prs.length x.pc, .slice y.pa b.prs.length y.pc] W fun e w' => e = .returned (.bool (decide (a.prs = b.prs))) ∧ Below W.heap.size W w') := fun W hW => samePairs_anyM x.pa y.pa x.pg x.po x.pc y.pg y.po y.pc a.prs b.prs W (ha.prs.below hW) (hb.prs.below hW)
  unfold SX.v sdEq
  generalize decide (a.prs = b.prs) = F2 at *
  clear ha hb b0
  by_cases hv : a.vals = b.vals
  · rw [decide_eq_true hv, Bool.true_and]
    have S3 : Hid (∀ W, Below w.heap.size w W → Calls Tryd.prog 28 #[.slice x.va a.vals.length x.vc, .slice y.va b.vals.length y.vc] W fun e w' => e = .returned (.bool true) ∧ Below W.heap.size W w') := fun W hW => by have := S1.out W hW; rw [decide_eq_true hv] at this; exact this
    clear S1 hv
    go_enter Tryd.func17, Tryd.ntmps17
    go_upto_region 1 with fail
    rw [← hW0]
    clear hW0
    obtain ⟨⟨a0, _⟩, ⟨a1, _⟩⟩ := cells2r R0.out
    obtain ⟨⟨e0, _⟩, ⟨e1, _⟩⟩ := cells2r R1.out
    go_wp2_with (first | (go_at_call 28; refine (S3.out _ B0.out).mono ?_; rintro e w1 ⟨rfl, hb1⟩; have B1 : Hid (Below w.heap.size w w1) := B0.out.trans (hb1.mono B0.out.size); have R2 := (hb1.block (w.heap.size) (by omega)).trans R0.out; have R3 := (hb1.block (w.heap.size + 1) (by omega)).trans R1.out; obtain ⟨⟨a0, _⟩, ⟨a1, _⟩⟩ := cells2r R2; obtain ⟨⟨e0, _⟩, ⟨e1, _⟩⟩ := cells2r R3; clear hb1) | (go_at_call 59; refine (S2.out _ B1.out).mono ?_; rintro e w2 ⟨rfl, hb2⟩; have B2 : Hid (Below w.heap.size w w2) := B1.out.trans (hb2.mono B1.out.size); clear hb2))
    go_ret
    exact ⟨rfl, B2.out⟩
  · rw [decide_eq_false hv, Bool.false_and]
    have S3 : Hid (∀ W, Below w.heap.size w W → Calls Tryd.prog 28 #[.slice x.va a.vals.length x.vc, .slice y.va b.vals.length y.vc] W fun e w' => e = .returned (.bool false) ∧ Below W.heap.size W w') := fun W hW => by have := S1.out W hW; rw [decide_eq_false hv] at this; exact this
    clear S1 hv
    go_enter Tryd.func17, Tryd.ntmps17
    go_upto_region 1 with fail
    rw [← hW0]
    clear hW0
    obtain ⟨⟨a0, _⟩, ⟨a1, _⟩⟩ := cells2r R0.out
    obtain ⟨⟨e0, _⟩, ⟨e1, _⟩⟩ := cells2r R1.out
    go_wp2_with (first | (go_at_call 28; refine (S3.out _ B0.out).mono ?_; rintro e w1 ⟨rfl, hb1⟩; have B1 : Hid (Below w.heap.size w w1) := B0.out.trans (hb1.mono B0.out.size); clear hb1))
    go_ret
    exact ⟨rfl, B1.out⟩
end Go.Proofs.YtcphajjonecmbaaDoor


namespace Go.Proofs.YtcphajjonecmbaaDoor

open Go.RowKit

theorem retEq_reflM7 (r : RetD) : retEqM r r = true := by simp [retEqM, plEqM]
set_option maxRecDepth 100000 in
set_option maxHeartbeats 1000000 in
theorem rSameR7_any (ba bb : Option Addr) (ga oa ca gb ob cb : Nat) (rs : List RetD) (w : World) (ha : RetsAtM w ba ga oa rs) (hb : RetsAtM w bb gb ob rs) :
    Calls Tryd.prog 19 #[.slice ba rs.length ca, .slice bb rs.length cb] w fun e w' => e = .returned (.bool true) ∧ Below w.heap.size w w' := by
  have la := ha.len
  unfold maxLen at la
  have HA : Hid _ := ha
  have HB : Hid _ := hb
  clear ha hb
  have hd : ((rs.length : Int) != (rs.length : Int)) = false := by simp
  go_enter Tryd.func19, Tryd.ntmps19
  go_wp2_with fail
  go_loopw [5] (fun i wr => ∃ j : Nat, j ≤ rs.length ∧ i = .int .i64 j ∧ Below w.heap.size w wr) (fun i _ => rs.length - (intOf i).toNat)
  case atStart => exact ⟨0, Nat.zero_le _, rfl, Below.refl _ _⟩
  case round =>
    obtain ⟨j, hj, rfl, hbw⟩ := hrel
    have HW : Hid _ := hbw
    by_cases hlt : j < rs.length
    · obtain rfl : ba = some ⟨ga, oa, none⟩ := HA.out.base (by omega)
      obtain rfl : bb = some ⟨gb, ob, none⟩ := HB.out.base (by omega)
      have EX := HA.out.below hbw
      have EY := HB.out.below hbw
      have zx : ga < wr.heap.size := EX.lt (by omega)
      have zy : gb < wr.heap.size := EY.lt (by omega)
      obtain ⟨a1, g1, p1, c1, d0, d1, d2, d3, hp1⟩ := EX.cells j hlt
      obtain ⟨a2, g2, p2, c2, e0, e1, e2, e3, hp2⟩ := EY.cells j hlt
      have y0 := BelowBy.cell zx d0
      have y1 := BelowBy.cell zx d1
      have y2 := BelowBy.cell zx d2
      have y3 := BelowBy.cell zx d3
      have z0 := BelowBy.cell zy e0
      have z1 := BelowBy.cell zy e1
      have z2 := BelowBy.cell zy e2
      have z3 := BelowBy.cell zy e3
      have SE : Hid (∀ p : BelowBy wr, Calls Tryd.prog 22 #[.agg #[.bool (retAt rs j).ok, .int .i64 (retAt rs j).key, .int .i64 (retAt rs j).val, .slice a1 (retAt rs j).pairs.length c1], .agg #[.bool (retAt rs j).ok, .int .i64 (retAt rs j).key, .int .i64 (retAt rs j).val, .slice a2 (retAt rs j).pairs.length c2]] p.W fun e w' => e = .returned (.bool true) ∧ Below p.W.heap.size p.W w') := fun p => by
        have := sameRet_anyM a1 a2 g1 p1 c1 g2 p2 c2 (retAt rs j) (retAt rs j) p.W (hp1.below p.h) (hp2.below p.h)
        rw [retEq_reflM7] at this
        exact this
      have j0 : (0 : Int) ≤ (j : Int) := Int.natCast_nonneg _
      have j1 : (j : Int) < (rs.length : Int) := by omega
      clear EX EY hbw d0 d1 d2 d3 e0 e1 e2 e3 hp1 hp2
      go_wp2_with fail
      refine wp_region_below (by kernel_rfl) (by kernel_rfl) ?_
      repeat (go_big_quiet_step ((go_at_call 22; exact below_call (SE.out _))))
      refine wpQuiet_nil ?_
      rintro _ ⟨p, rfl⟩
      have PB : Hid (Below wr.heap.size wr p.W) := p.h
      clear y0 y1 y2 y3 z0 z1 z2 z3
      go_wp2_with fail
      exact ⟨⟨j + 1, by omega, by go_num, HW.out.trans (PB.out.mono HW.out.size)⟩, by simp [intOf]; omega⟩
    · clear hbw
      go_wp2_with fail
      go_ret
      exact ⟨rfl, HW.out⟩
end Go.Proofs.YtcphajjonecmbaaDoor


namespace Go.Proofs.YtcphajjonecmbaaDoor

open Go.RowKit Go.Deep

attribute [local go_sem ↓] Go.wp_at_zero Go.wp_at_succ

def someH : List EvD := [⟨0, false, ⟨1, 0, 5, 0⟩, RetD.zero⟩, ⟨1, false, ⟨2, 0, 0, 0⟩, RetD.zero⟩, ⟨1, true, ⟨2, 0, 0, 0⟩, ⟨true, 0, 5, []⟩⟩, ⟨0, true, ⟨1, 0, 5, 0⟩, ⟨true, 0, 0, []⟩⟩]
theorem some_err : pErr 4 SD.zero someH = 0 := by decide +kernel
theorem some_ords : (ordsO 4 SD.zero someH (spansL someH)).map (·.1) = [ [0, 1] ] := by decide +kernel
theorem evs_some {w : World} {b : Nat} (h : w.heap[b]? = some (.cells #[.int .i64 0, .bool false, .int .i64 1, .int .i64 0, .int .i64 5, .int .i64 0, .bool false, .int .i64 0, .int .i64 0, .slice none 0 0,
    .int .i64 1, .bool false, .int .i64 2, .int .i64 0, .int .i64 0, .int .i64 0, .bool false, .int .i64 0, .int .i64 0, .slice none 0 0,
    .int .i64 1, .bool true, .int .i64 2, .int .i64 0, .int .i64 0, .int .i64 0, .bool true, .int .i64 0, .int .i64 5, .slice none 0 0,
    .int .i64 0, .bool true, .int .i64 1, .int .i64 0, .int .i64 5, .int .i64 0, .bool true, .int .i64 0, .int .i64 0, .slice none 0 0] 84)) :
    EvsAt w (some ⟨b, 0, none⟩) b 0 someH (fun _ => none) (fun _ => 0) (fun _ => 0) (fun _ => 0) := by
  refine ⟨fun _ => rfl, fun _ => (Array.getElem?_eq_some_iff.1 h).1, by simp [someH, maxLen], fun i hi => ?_, fun i hi => ?_, fun i hi => ?_, fun i hi => ?_, fun i _ => by simp [World.frozen?, h]⟩
  all_goals (have hi4 : i = 0 ∨ i = 1 ∨ i = 2 ∨ i = 3 := by simp [someH] at hi; omega)
  · rcases hi4 with rfl | rfl | rfl | rfl <;> simp [World.cell?, h, someH, evAt]
  · rcases hi4 with rfl | rfl | rfl | rfl <;> simp [World.cell?, h, someH, evAt]
  · rcases hi4 with rfl | rfl | rfl | rfl <;> simp [World.cell?, h, someH, evAt, RetD.zero]
  · rcases hi4 with rfl | rfl | rfl | rfl <;> exact ⟨pairs_empty _ _ _ _, fun _ => ⟨rfl, rfl⟩, by decide⟩
set_option maxRecDepth 100000 in
theorem some_any (w : World) : Calls Tryd.prog 52 #[] w fun e w' => ∃ b, e = .returned (.slice (some ⟨b, 0, none⟩) 4 4) ∧ Below w.heap.size w w' ∧ EvsAt w' (some ⟨b, 0, none⟩) b 0 someH (fun _ => none) (fun _ => 0) (fun _ => 0) (fun _ => 0) := by
  go_enter Tryd.func52, Tryd.ntmps52
  go_wp2_with fail
  go_ret
  exact ⟨_, rfl, ((two_blocks _ _ _ _ _).alloc (by simp; omega) _), evs_some (heap_alloc_at _ _ _ (by simp))⟩
set_option maxRecDepth 100000 in
set_option maxHeartbeats 1000000 in
theorem awake_any (w : World) (hkd : KdAt w) : Calls Tryd.prog 10 #[] w fun e w' => e = .returned (.bool true) ∧ Below w.heap.size w w' := by
  have SO : Hid (Calls Tryd.prog 52 #[] w fun e w' => ∃ b, e = .returned (.slice (some ⟨b, 0, none⟩) 4 4) ∧ Below w.heap.size w w' ∧ EvsAt w' (some ⟨b, 0, none⟩) b 0 someH (fun _ => none) (fun _ => 0) (fun _ => 0) (fun _ => 0)) := some_any w
  have FI : Hid (∀ (W : World) (b : Nat), Below w.heap.size w W → EvsAt W (some ⟨b, 0, none⟩) b 0 someH (fun _ => none) (fun _ => 0) (fun _ => 0) (fun _ => 0) → Calls Tryd.prog 27 #[.int .i64 4, .agg #[.slice none 0 0, .slice none 0 0], .slice (some ⟨b, 0, none⟩) 4 4] W fun e w' => ∃ g c, e = .returned (.tuple #[.slice (some ⟨g, 0, none⟩) 2 c, .bool true, .int .i64 0]) ∧ Below W.heap.size W w' ∧ OrdAt w' (some ⟨g, 0, none⟩) g 0 [0, 1]) := fun W b hW hev => by
    refine (find_any 4 ⟨none, 0, 0, 0, none, 0, 0, 0⟩ SD.zero (some ⟨b, 0, none⟩) b 0 4 someH _ _ _ _ W (StNew.zero W 0).at_ (hkd.below hW) hev ⟨by decide, by decide⟩).mono ?_
    rintro e w' ⟨hb, (⟨h1, -⟩ | ⟨-, h2, -⟩ | ⟨-, p, l, g, c, h2, rfl, hr⟩)⟩
    · exact absurd some_err h1
    · have := some_ords
      rw [h2] at this
      cases this
    · have := some_ords
      rw [h2] at this
      obtain ⟨hp, -⟩ := List.cons.inj this
      have hp' : p.1 = [0, 1] := hp
      rw [hp'] at hr ⊢
      exact ⟨g, c, rfl, hb, hr.ord⟩
  have SI : Hid (∀ (W : World) (g c h : Nat), OrdAt W (some ⟨g, 0, none⟩) g 0 [0, 1] → W.heap[h]? = some (.cells #[.int .i64 0, .int .i64 1] 3) → Calls Tryd.prog 28 #[.slice (some ⟨g, 0, none⟩) 2 c, .slice (some ⟨h, 0, none⟩) 2 2] W fun e w' => e = .returned (.bool true) ∧ Below W.heap.size W w') := fun W g c h h1 h2 => by
    refine rSameI_any (some ⟨g, 0, none⟩) (some ⟨h, 0, none⟩) g 0 c h 0 2 [0, 1] [0, 1] W h1 ⟨fun _ => rfl, fun _ => (Array.getElem?_eq_some_iff.1 h2).1, by simp [maxLen], fun i hi => ?_⟩
    have hi2 : i = 0 ∨ i = 1 := by simp at hi; omega
    rcases hi2 with rfl | rfl <;> simp [World.cell?, h2, oAt]
  clear hkd
  go_enter Tryd.func10, Tryd.ntmps10
  go_wp2_with (first | (go_at_call 52; refine SO.out.mono ?_; rintro e w1 ⟨b, rfl, hb1, hev⟩; have B1 : Hid (Below w.heap.size w w1) := hb1; have EV : Hid (EvsAt w1 (some ⟨b, 0, none⟩) b 0 someH (fun _ => none) (fun _ => 0) (fun _ => 0) (fun _ => 0)) := hev; clear hb1 hev) | (go_at_call 27; refine (FI.out _ b B1.out EV.out).mono ?_; rintro e w2 ⟨g, c, rfl, hb2, ho⟩; have B2 : Hid (Below w.heap.size w w2) := B1.out.trans (hb2.mono B1.out.size); have OR : Hid (OrdAt w2 (some ⟨g, 0, none⟩) g 0 [0, 1]) := ho; clear hb2 ho) | (go_at_call 28; refine (SI.out _ g c _ (OR.out.below (below_alloc _ _)) (heap_alloc_at _ _ _ rfl)).mono ?_; rintro e w3 ⟨rfl, hb3⟩; have B3 : Hid (Below w.heap.size w w3) := (B2.out.alloc B2.out.size _).trans (hb3.mono (Nat.le_trans B2.out.size (by simp))); clear hb3))
  go_ret
  exact ⟨rfl, B3.out⟩
end Go.Proofs.YtcphajjonecmbaaDoor
