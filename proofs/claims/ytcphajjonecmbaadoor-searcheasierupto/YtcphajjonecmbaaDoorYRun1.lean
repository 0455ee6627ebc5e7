
/- Layer 7: a thing's state in memory; the program's hasKind, isInForm, Check, refusal. -/

import Derived.Test.YtcphajjonecmbaaDoorYBits

import Derived.Test.YtcphajjonecmbaaDoorEFits2

import Derived.Test.YtcphajjonecmbaaDoorECallsP

import Derived.Test.YtcphajjonecmbaaDoorMG1

namespace Go.Proofs.YtcphajjonecmbaaDoor

open Go.RowKit Go.Deep

attribute [local go_sem ↓] Go.wp_at_zero Go.wp_at_succ

/-- The program's variable of kinds. -/
def kdN (i : Nat) : Int := [0, 3, 2, 2, 2, 9].getD i 0
structure KdAt (w : World) : Prop where
  lt : 0 < w.heap.size
  cells : ∀ i, i < 6 → w.cell? ⟨0, i, none⟩ = some (.int .i64 (kdN i))
theorem KdAt.below {w y : World} (h : KdAt w) (hb : Below w.heap.size w y) : KdAt y := ⟨Nat.lt_of_lt_of_le h.lt hb.size, fun i hi => (hb.cell (p := ⟨0, i, none⟩) h.lt).trans (h.cells i hi)⟩
theorem kMax_kdN {n : Nat} (h1 : 1 ≤ n) (h5 : n ≤ 5) : kMax (n : Int) = kdN n := by
  have h : n = 1 ∨ n = 2 ∨ n = 3 ∨ n = 4 ∨ n = 5 := by omega
  rcases h with rfl | rfl | rfl | rfl | rfl <;> rfl
set_option maxRecDepth 100000 in
theorem hasKind_any (t k : Int) (w : World) (h : KdAt w) (h1 : 1 ≤ t) (h5 : t ≤ 5) :
    Calls Tryd.prog 91 #[.int .i64 t, .int .i64 k] w fun e w' => e = .returned (.bool (kOk t k)) ∧ w = w' := by
  obtain ⟨n, rfl⟩ : ∃ n : Nat, t = n := ⟨t.toNat, by omega⟩
  have c := h.cells n (by omega)
  have hz := h.lt
  have K : Hid (kOk (n : Int) k = (decide (1 ≤ k) && decide (k ≤ kdN n))) := by
    show kOk (n : Int) k = _
    unfold kOk
    rw [kMax_kdN (by omega) (by omega)]
  have n0 : (0 : Int) ≤ (n : Int) := Int.natCast_nonneg _
  have n1 : (n : Int) < 6 := by omega
  generalize kdN n = m at *
  rw [K.out]
  clear h h1 h5
  by_cases hk : 1 ≤ k
  · have e1 : decide (1 ≤ k) = true := decide_eq_true hk
    rw [e1, Bool.true_and]
    clear e1
    go_enter Tryd.func91, Tryd.ntmps91
    go_wp2_with fail
    go_ret
    exact ⟨rfl, rfl⟩
  · have e1 : decide (1 ≤ k) = false := decide_eq_false hk
    rw [e1, Bool.false_and]
    clear e1
    go_enter Tryd.func91, Tryd.ntmps91
    go_wp2_with fail
    go_ret
    exact ⟨rfl, rfl⟩

/-- Where a state lies. -/
structure SX where
  va : Option Addr
  vg : Nat
  vo : Nat
  vc : Nat
  pa : Option Addr
  pg : Nat
  po : Nat
  pc : Nat
def SX.v (x : SX) (s : SD) : Value := .agg #[.slice x.va s.vals.length x.vc, .slice x.pa s.prs.length x.pc]
structure StAt (w : World) (x : SX) (s : SD) : Prop where
  vals : OrdAt w x.va x.vg x.vo s.vals
  prs : PairsAt w x.pa x.pg x.po s.prs
  vnil : x.va = none → s.vals.length = 0 ∧ x.vc = 0
  pnil : x.pa = none → s.prs.length = 0 ∧ x.pc = 0
theorem StAt.below {w w' : World} {x : SX} {s : SD} (h : StAt w x s) (hb : Below w.heap.size w w') : StAt w' x s := ⟨h.vals.below hb, h.prs.below hb, h.vnil, h.pnil⟩
/-- A state in new blocks. -/
structure StNew (w : World) (B : Nat) (x : SX) (s : SD) : Prop where
  at_ : StAt w x s
  vB : s.vals.length ≠ 0 → B ≤ x.vg
  pB : s.prs.length ≠ 0 → B ≤ x.pg
  vthaw : ∀ i, i < s.vals.length → w.frozen? ⟨x.vg, x.vo + i, none⟩ = false
theorem StNew.below {w w' : World} {B : Nat} {x : SX} {s : SD} (h : StNew w B x s) (hb : Below w.heap.size w w') : StNew w' B x s :=
  ⟨h.at_.below hb, h.vB, h.pB, fun i hi => (hb.frozen (p := ⟨x.vg, x.vo + i, none⟩) (h.at_.vals.lt (by omega))).trans (h.vthaw i hi)⟩
theorem StNew.down {w : World} {B B' : Nat} {x : SX} {s : SD} (h : StNew w B x s) (hB : B' ≤ B) : StNew w B' x s := ⟨h.at_, fun q => Nat.le_trans hB (h.vB q), fun q => Nat.le_trans hB (h.pB q), h.vthaw⟩

theorem inFm_one {t : Int} {s : SD} (h : t = 1 ∨ t = 2) : inFm t s = (decide (s.vals.length = 1) && decide (s.prs.length = 0)) := by unfold inFm; rw [if_pos h]
theorem inFm_map {s : SD} : inFm 5 s = (decide (s.vals.length = 0) && decide (ckErr s.prs = 0)) := by unfold inFm; rw [if_neg (by decide), if_pos rfl]
theorem inFm_row {t : Int} {s : SD} (h : t = 3 ∨ t = 4) : inFm t s = decide (s.prs.length = 0) := by
  unfold inFm
  rw [if_neg (by omega), if_neg (by omega)]

set_option maxRecDepth 100000 in
theorem isInForm_any (t : Int) (x : SX) (s : SD) (w : World) (h : StAt w x s) (h1 : 1 ≤ t) (h5 : t ≤ 5) :
    Calls Tryd.prog 53 #[.int .i64 t, x.v s] w fun e w' => e = .returned (.bool (inFm t s)) ∧ Below w.heap.size w w' := by
  have HP : Hid (PairsAt w x.pa x.pg x.po s.prs) := h.prs
  have hv := h.vals.len
  have hp := h.prs.len
  unfold maxLen at hv hp
  have CK : Hid (∀ W, PairsAt W x.pa x.pg x.po s.prs → Calls Tryd.prog 87 #[.slice x.pa s.prs.length x.pc] W fun e w' => e = .returned (.int .i64 (ckErr s.prs)) ∧ Below W.heap.size W w') := fun W hW => pcheck_any x.pa x.pg x.po x.pc s.prs W hW
  have HB : Hid (Below w.heap.size w (w.alloc (.cells #[.slice x.va s.vals.length x.vc, .slice x.pa s.prs.length x.pc] 31))) := below_alloc _ _
  have c0 := cell_new w #[.slice x.va s.vals.length x.vc, .slice x.pa s.prs.length x.pc] 31 0
  have c1 := cell_new w #[.slice x.va s.vals.length x.vc, .slice x.pa s.prs.length x.pc] 31 1
  have EO : Hid (t = 1 ∨ t = 2 → inFm t s = (decide (s.vals.length = 1) && decide (s.prs.length = 0))) := fun q => inFm_one q
  have EM : Hid (t = 5 → inFm t s = (decide (s.vals.length = 0) && decide (ckErr s.prs = 0))) := fun q => by subst q; exact inFm_map
  have ER : Hid (t = 3 ∨ t = 4 → inFm t s = decide (s.prs.length = 0)) := fun q => inFm_row q
  generalize inFm t s = F at *
  unfold SX.v
  obtain ⟨va, vg, vo, vc, pa, pg, po, pc⟩ := x
  simp only at *
  obtain ⟨vs, ps⟩ := s
  simp only at *
  generalize vs.length = n at *
  generalize ps.length = m at *
  obtain ⟨E, hE⟩ : ∃ E, E = ckErr ps := ⟨_, rfl⟩
  simp only [← hE] at CK EM
  clear h hE
  have n0 : (0 : Int) ≤ (n : Int) := Int.natCast_nonneg _
  have m0 : (0 : Int) ≤ (m : Int) := Int.natCast_nonneg _
  have e2 : ((m : Int) == 0) = decide (m = 0) := by rw [Bool.eq_iff_iff]; simp
  have ht : t = 1 ∨ t = 2 ∨ t = 3 ∨ t = 4 ∨ t = 5 := by omega
  clear h1 h5
  rcases ht with rfl | rfl | rfl | rfl | rfl
  · have eF := EO.out (Or.inl rfl)
    subst eF
    clear EO EM ER
    by_cases hn : n = 1
    · have e1 : ((n : Int) == 1) = true := by subst hn; rfl
      have e3 : Hid (decide (n = 1) = true) := decide_eq_true hn
      clear hn
      go_enter Tryd.func53, Tryd.ntmps53
      go_wp2_with fail
      go_ret
      rw [e3.out]
      exact ⟨by rw [Bool.true_and]; rfl, HB.out⟩
    · have e1 : ((n : Int) == 1) = false := by rw [beq_eq_false_iff_ne]; omega
      have e3 : Hid (decide (n = 1) = false) := decide_eq_false hn
      clear hn
      go_enter Tryd.func53, Tryd.ntmps53
      go_wp2_with fail
      go_ret
      rw [e3.out]
      exact ⟨by rw [Bool.false_and]; rfl, HB.out⟩
  · have eF := EO.out (Or.inr rfl)
    subst eF
    clear EO EM ER
    by_cases hn : n = 1
    · have e1 : ((n : Int) == 1) = true := by subst hn; rfl
      have e3 : Hid (decide (n = 1) = true) := decide_eq_true hn
      clear hn
      go_enter Tryd.func53, Tryd.ntmps53
      go_wp2_with fail
      go_ret
      rw [e3.out]
      exact ⟨by rw [Bool.true_and]; rfl, HB.out⟩
    · have e1 : ((n : Int) == 1) = false := by rw [beq_eq_false_iff_ne]; omega
      have e3 : Hid (decide (n = 1) = false) := decide_eq_false hn
      clear hn
      go_enter Tryd.func53, Tryd.ntmps53
      go_wp2_with fail
      go_ret
      rw [e3.out]
      exact ⟨by rw [Bool.false_and]; rfl, HB.out⟩
  · have eF := ER.out (Or.inl rfl)
    subst eF
    clear EO EM ER
    go_enter Tryd.func53, Tryd.ntmps53
    go_wp2_with fail
    go_ret
    exact ⟨rfl, HB.out⟩
  · have eF := ER.out (Or.inr rfl)
    subst eF
    clear EO EM ER
    go_enter Tryd.func53, Tryd.ntmps53
    go_wp2_with fail
    go_ret
    exact ⟨rfl, HB.out⟩
  · have eF := EM.out rfl
    subst eF
    clear EO EM ER
    have PW : Hid (PairsAt (w.alloc (.cells #[.slice va n vc, .slice pa m pc] 31)) pa pg po ps) := HP.out.below (below_alloc _ _)
    by_cases hn : n = 0
    · have e1 : ((n : Int) == 0) = true := by subst hn; rfl
      have e3 : Hid (decide (n = 0) = true) := decide_eq_true hn
      clear hn
      go_enter Tryd.func53, Tryd.ntmps53
      go_wp2_with (first | (go_at_call 87; refine (CK.out _ PW.out).mono ?_; rintro e w1 ⟨rfl, hb1⟩; have B1 : Hid (Below w.heap.size w w1) := HB.out.trans (hb1.mono HB.out.size); clear hb1))
      go_ret
      rw [e3.out]
      refine ⟨?_, B1.out⟩
      rw [Bool.true_and]
      have : (E == 0) = decide (E = 0) := by rw [Bool.eq_iff_iff]; simp
      first | rfl | (rw [← this]; rfl)
    · have e1 : ((n : Int) == 0) = false := by rw [beq_eq_false_iff_ne]; omega
      have e3 : Hid (decide (n = 0) = false) := decide_eq_false hn
      clear hn
      go_enter Tryd.func53, Tryd.ntmps53
      go_wp2_with fail
      go_ret
      rw [e3.out]
      exact ⟨by rw [Bool.false_and]; rfl, HB.out⟩

theorem sErr_cases (t : Int) (s : SD) : sErr t s = 0 ∨ sErr t s = 3 ∨ sErr t s = 5 := by unfold sErr; split <;> (try split) <;> simp
theorem sErr_zero {t : Int} {s : SD} : sErr t s = 0 ↔ (1 ≤ t ∧ t ≤ 5) ∧ inFm t s = true := by
  unfold sErr
  split
  · rename_i h
    constructor
    · intro q; cases q
    · rintro ⟨q, -⟩; omega
  · rename_i h
    split
    · rename_i h2; exact ⟨fun _ => ⟨by omega, h2⟩, fun _ => rfl⟩
    · rename_i h2
      constructor
      · intro q; cases q
      · rintro ⟨-, q⟩; exact absurd q h2
set_option maxRecDepth 100000 in
theorem scheck_any (t : Int) (x : SX) (s : SD) (w : World) (h : StAt w x s) :
    Calls Tryd.prog 12 #[.int .i64 t, x.v s] w fun e w' => e = .returned (.int .i64 (sErr t s)) ∧ Below w.heap.size w w' := by
  have HB : Hid (Below w.heap.size w (w.alloc (.cells #[.slice x.va s.vals.length x.vc, .slice x.pa s.prs.length x.pc] 31))) := below_alloc _ _
  have c0 := cell_new w #[.slice x.va s.vals.length x.vc, .slice x.pa s.prs.length x.pc] 31 0
  have c1 := cell_new w #[.slice x.va s.vals.length x.vc, .slice x.pa s.prs.length x.pc] 31 1
  have HS : Hid (StAt (w.alloc (.cells #[.slice x.va s.vals.length x.vc, .slice x.pa s.prs.length x.pc] 31)) x s) := h.below (below_alloc _ _)
  clear h
  by_cases h1 : 1 ≤ t
  · by_cases h5 : t ≤ 5
    · have IF : Hid (∀ W, StAt W x s → Calls Tryd.prog 53 #[.int .i64 t, .agg #[.slice x.va s.vals.length x.vc, .slice x.pa s.prs.length x.pc]] W fun e w' => e = .returned (.bool (inFm t s)) ∧ Below W.heap.size W w') := fun W hW => isInForm_any t x s W hW h1 h5
      have ER : Hid (sErr t s = if inFm t s then 0 else 3) := by show sErr t s = _; unfold sErr; rw [if_neg (by omega)]
      obtain ⟨F, hF⟩ : ∃ F, F = inFm t s := ⟨_, rfl⟩
      simp only [← hF] at IF ER
      clear hF
      rw [ER.out]
      have l1 : ¬ t < 1 := by omega
      have l5 : ¬ 5 < t := by omega
      unfold SX.v
      clear h1 h5
      cases F
      · go_enter Tryd.func12, Tryd.ntmps12
        go_wp2_with (first | (go_at_call 53; refine (IF.out _ HS.out).mono ?_; rintro e w1 ⟨rfl, hb1⟩; have B1 : Hid (Below w.heap.size w w1) := HB.out.trans (hb1.mono HB.out.size); clear hb1))
        go_ret
        exact ⟨rfl, B1.out⟩
      · go_enter Tryd.func12, Tryd.ntmps12
        go_wp2_with (first | (go_at_call 53; refine (IF.out _ HS.out).mono ?_; rintro e w1 ⟨rfl, hb1⟩; have B1 : Hid (Below w.heap.size w w1) := HB.out.trans (hb1.mono HB.out.size); clear hb1))
        go_ret
        exact ⟨rfl, B1.out⟩
    · have ER : sErr t s = 5 := by unfold sErr; rw [if_pos (by omega)]
      rw [ER]
      have l1 : ¬ t < 1 := by omega
      have l5 : 5 < t := by omega
      unfold SX.v
      clear h1 h5 ER
      go_enter Tryd.func12, Tryd.ntmps12
      go_wp2_with fail
      go_ret
      exact ⟨rfl, HB.out⟩
  · have ER : sErr t s = 5 := by unfold sErr; rw [if_pos (by omega)]
    rw [ER]
    have l1 : t < 1 := by omega
    unfold SX.v
    clear h1 ER
    go_enter Tryd.func12, Tryd.ntmps12
    go_wp2_with fail
    go_ret
    exact ⟨rfl, HB.out⟩
end Go.Proofs.YtcphajjonecmbaaDoor
