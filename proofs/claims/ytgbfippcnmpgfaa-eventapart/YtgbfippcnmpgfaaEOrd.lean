
/- Layer 5: countOrders. -/

import Derived.Test.YtgbfippcnmpgfaaEBits

import Derived.Deep.RegionHeld3

namespace Go.Proofs.Ytgbfippcnmpgfaa

open Go.RowKit

attribute [local go_sem ↓] Go.wp_at_zero Go.wp_at_succ

theorem Ints.fn {w : World} {g n : Nat} {f f' : Nat → Int} (h : Ints w g n f) (e : ∀ j, j < n → f j = f' j) : Ints w g n f' := fun j hj => by rw [← e j hj]; exact h j hj
theorem Ints.made (w : World) (n : Nat) (e : TypeId) : Ints (w.alloc (.cells (madeCells #[.int .i64 0] n) e)) w.heap.size n (fun _ => 0) := by
  intro j hj
  have c0 : (madeCells #[.int .i64 0] n)[j]? = some (.int .i64 0) := by simp [madeCells, hj, Nat.mod_one]
  exact ⟨by simp [c0], by simp⟩

theorem Ints.made1 (w : World) (n : Nat) (e : TypeId) : Ints (w.alloc (.cells ((madeCells #[.int .i64 0] n).setIfInBounds 0 (.int .i64 1)) e)) w.heap.size n (fun x => if x = 0 then 1 else 0) := by
  intro j hj
  have c0 : ((madeCells #[.int .i64 0] n).setIfInBounds 0 (.int .i64 1))[j]? = some (.int .i64 (if j = 0 then 1 else 0)) := by
    rw [Array.getElem?_setIfInBounds]
    by_cases h : j = 0
    · subst h; simp [size_madeCells, hj]
    · rw [if_neg (by omega)]; simp [madeCells, hj, Nat.mod_one, h]
  exact ⟨by simp [c0], by simp⟩

set_option maxRecDepth 100000 in
set_option maxHeartbeats 2000000 in
theorem count_any (base : Option Addr) (g c : Nat) (sp : List Sp) (w : World) (h : SpsAt w base g sp) (hn : sp.length ≤ 16) :
    Calls Try.prog 36 #[.slice base sp.length c] w fun e w' => e = .returned (.int .i64 (ordsA sp)) ∧ Below w.heap.size w w' := by
  have HA : Hid _ := h
  clear h
  have hm1 : ∀ w : World, (Instr.makeSlice 79 (.int .i64 sp.length) (.int .i64 sp.length)).run Try.prog w = .ok (.slice (some ⟨w.heap.size, 0, none⟩) sp.length sp.length) (w.alloc (.cells (madeCells #[.int .i64 0] (sp.length * 1)) 3)) := fun w => run_make_known (P := Try.prog) 79 3 (.int .i64 0) 1 8 ints_under int_info sp.length (by omega) (by omega) w
  obtain ⟨N, hN⟩ : ∃ N, N = 2 ^ sp.length := ⟨_, rfl⟩
  have hN1 : N ≤ 65536 := by rw [hN]; exact pow_le16 hn
  have hN0 : 0 < N := by rw [hN]; exact Nat.pow_pos (by omega)
  have hm2 : ∀ w : World, (Instr.makeSlice 79 (.int .i64 (wrap64 (2 ^ sp.length))) (.int .i64 (wrap64 (2 ^ sp.length)))).run Try.prog w = .ok (.slice (some ⟨w.heap.size, 0, none⟩) N N) (w.alloc (.cells (madeCells #[.int .i64 0] (N * 1)) 3)) := fun w => by
    rw [wrap_pow _ (by omega), ← hN]
    exact run_make_known (P := Try.prog) 79 3 (.int .i64 0) 1 8 ints_under int_info N (by omega) (by omega) w
  have HN : Hid _ := hN
  have hNi : (0 : Int) < (N : Int) := by omega
  have hNj : (N : Int) ≤ 65536 := by omega
  clear hN
  go_enter Try.func36, Try.ntmps36
  go_wp2_with fail
  go_loopw [16] (fun i wr => ∃ j : Nat, j ≤ sp.length ∧ i = .int .i64 j ∧ Below w.heap.size w wr ∧ w.heap.size < wr.heap.size ∧ Ints wr w.heap.size sp.length (fun k => if k < j then (befN sp k sp.length : Int) else 0)) (fun i _ => sp.length - (intOf i).toNat)
  case atStart =>
    refine ⟨0, Nat.zero_le _, rfl, below_alloc _ _, by simp, ?_⟩
    exact (Ints.made w _ _).fn (fun j _ => by simp)
  case round =>
    obtain ⟨i_, hi, rfl, hbw, hsz, hints⟩ := hrel
    by_cases hlt : i_ < sp.length
    · obtain rfl : base = some ⟨g, 0, none⟩ := HA.out.base (by omega)
      obtain ⟨c0, c1⟩ := (HA.out.below hbw).cells i_ hlt
      have i0 : (0 : Int) ≤ (i_ : Int) := Int.natCast_nonneg _
      have i1 : (i_ : Int) < (sp.length : Int) := by omega
      have HI : Hid (Ints _ _ _ _) := hints
      have HB : Hid _ := hbw
      clear hints hbw
      go_wp2_with fail
      generalize wr = W0 at *
      go_loopw [23] (fun i wr => ∃ j : Nat, j ≤ sp.length ∧ i = .int .i64 j ∧ Below w.heap.size w wr ∧ W0.heap.size < wr.heap.size ∧ wr.cell? ⟨W0.heap.size, 0, none⟩ = some (.int .i64 (spAt sp i_).1) ∧ wr.cell? ⟨W0.heap.size, 1, none⟩ = some (.int .i64 (spAt sp i_).2) ∧ Ints wr w.heap.size sp.length (fun k => if k < i_ then (befN sp k sp.length : Int) else if k = i_ then (befN sp i_ j : Int) else 0)) (fun i _ => sp.length - (intOf i).toNat)
      case atStart =>
        refine ⟨0, Nat.zero_le _, rfl, HB.out.alloc HB.out.size _, by simp, cell_new W0 _ _ 0, cell_new W0 _ _ 1, ?_⟩
        refine (HI.out.below hsz (below_alloc _ _)).fn (fun k _ => ?_)
        by_cases e : k < i_
        · rw [if_pos e, if_pos e]
        · rw [if_neg e, if_neg e]
          split <;> rfl
      case round =>
        obtain ⟨j, hj, rfl, hbw2, hsz2, s0, s1, hints2⟩ := hrel
        have HB2 : Hid _ := hbw2
        have HI2 : Hid (Ints _ _ _ _) := hints2
        by_cases hlt2 : j < sp.length
        · obtain ⟨c2, c3⟩ := (HA.out.below hbw2).cells j hlt2
          have j0 : (0 : Int) ≤ (j : Int) := Int.natCast_nonneg _
          have j1 : (j : Int) < (sp.length : Int) := by omega
          obtain ⟨k0, k1⟩ := hints2 i_ hlt
          simp only [Nat.lt_irrefl, if_false, if_true] at k0
          have S0 : Hid _ := s0
          have S1 : Hid _ := s1
          clear hints2 hbw2
          go_wp2_with fail
          refine (ahead_any (spAt sp j) (spAt sp i_) _).mono ?_
          rintro e w2 ⟨rfl, hb2⟩
          have hz2 : wr.heap.size < w2.heap.size := by have := hb2.size; simp at this; omega
          have BW : Hid (Below wr.heap.size wr w2) := (below_alloc wr _).trans (hb2.mono (by simp))
          have m0 := (BW.out.cell (p := ⟨w.heap.size, i_, none⟩) (by simp; omega)).trans k0
          have m1 := (BW.out.frozen (p := ⟨w.heap.size, i_, none⟩) (by simp; omega)).trans k1
          have m2 : Hid _ := (BW.out.cell (p := ⟨W0.heap.size, 0, none⟩) hsz2).trans S0.out
          have m3 : Hid _ := (BW.out.cell (p := ⟨W0.heap.size, 1, none⟩) hsz2).trans S1.out
          clear hb2
          cases ha : ahd (spAt sp j) (spAt sp i_)
          · go_wp2_with fail
            refine ⟨⟨j + 1, by omega, by go_num, HB2.out.trans (BW.out.mono HB2.out.size), by omega, m2.out, m3.out, ?_⟩, by simp [intOf]; omega⟩
            rw [befN_stay ha]
            exact HI2.out.below (by omega) BW.out
          · have HX : Hid _ := befN_next (sp := sp) (i := i_) (j := j) (by omega) ha
            go_wp2_with fail
            go_region
            go_wp2_with fail
            refine ⟨⟨j + 1, by omega, by go_num, ?_, by simp; omega, ?_, ?_, ?_⟩, by simp [intOf]; omega⟩
            · exact ((HB2.out.trans (BW.out.mono HB2.out.size)).setCell (by simp) _).drew
            · refine Eq.trans (World.cell?_setCell_other _ _ _ _ (fun q => by have := congrArg Addr.block q; simp at this; omega)) m2.out
            · refine Eq.trans (World.cell?_setCell_other _ _ _ _ (fun q => by have := congrArg Addr.block q; simp at this; omega)) m3.out
            · rw [HX.out]
              refine Ints.fn (Ints.set (HI2.out.below (by omega) BW.out) i_ (befN sp i_ (j + 1)) hlt) (fun k _ => ?_)
              by_cases e : k = i_
              · subst e
                rw [if_pos rfl, if_neg (by omega), if_pos rfl]
              · rw [if_neg e]
                by_cases e2 : k < i_
                · rw [if_pos e2, if_pos e2]
                · rw [if_neg e2, if_neg e2, if_neg e, if_neg e]
        · obtain rfl : j = sp.length := by omega
          clear hints2 hbw2
          go_wp2_with fail
          refine ⟨⟨i_ + 1, by omega, by go_num, HB2.out, by omega, ?_⟩, by simp [intOf]; omega⟩
          refine HI2.out.fn (fun k _ => ?_)
          by_cases e : k < i_
          · rw [if_pos e, if_pos (by omega)]
          · rw [if_neg e]
            by_cases e2 : k = i_
            · subst e2
              rw [if_pos rfl, if_pos (by omega)]
            · rw [if_neg e2, if_neg (by omega)]
    · obtain rfl : i_ = sp.length := by omega
      have HI : Hid (Ints _ _ _ _) := hints
      have HB : Hid _ := hbw
      clear hints hbw
      generalize wr = W0 at *
      have hc0 : (madeCells #[.int .i64 0] N)[0]? = some (.int .i64 0) := by simp [madeCells, hN0]
      go_wp2_with fail
      go_loopw [49] (fun i wr => ∃ s : Nat, s ≤ N ∧ i = .int .i64 s ∧ Below w.heap.size w wr ∧ W0.heap.size < wr.heap.size ∧ Ints wr w.heap.size sp.length (fun k => (befN sp k sp.length : Int)) ∧ Ints wr W0.heap.size N (outW sp sp.length s)) (fun i _ => N - (intOf i).toNat)
      case atStart =>
        refine ⟨0, Nat.zero_le _, rfl, HB.out.alloc HB.out.size _, by simp, ?_, Ints.made1 W0 N _⟩
        refine (HI.out.below hsz (below_alloc _ _)).fn (fun k hk => ?_)
        rw [if_pos hk]
      case round =>
        obtain ⟨s, hs, rfl, hbw2, hsz2, hA, hO⟩ := hrel
        have HB2 : Hid _ := hbw2
        have HI2 : Hid (Ints _ _ _ _) := hA
        have HO : Hid (Ints _ _ _ _) := hO
        have s0 : (0 : Int) ≤ (s : Int) := Int.natCast_nonneg _
        by_cases hls : s < N
        · have s1 : (s : Int) < (N : Int) := by omega
          clear hA hO hbw2
          generalize wr = W1 at *
          go_wp2_with fail
          go_loopw [54] (fun i wr => ∃ j : Nat, j ≤ sp.length ∧ i = .int .i64 j ∧ Below w.heap.size w wr ∧ W0.heap.size < wr.heap.size ∧ Ints wr w.heap.size sp.length (fun k => (befN sp k sp.length : Int)) ∧ Ints wr W0.heap.size N (inW sp sp.length s (outW sp sp.length s) j)) (fun i _ => sp.length - (intOf i).toNat)
          case atStart => exact ⟨0, Nat.zero_le _, rfl, HB2.out, hsz2, HI2.out, HO.out⟩
          case round =>
            obtain ⟨j, hj, rfl, hbw3, hsz3, hA3, hO3⟩ := hrel
            have HB3 : Hid _ := hbw3
            have HI3 : Hid (Ints _ _ _ _) := hA3
            have HO3 : Hid (Ints _ _ _ _) := hO3
            by_cases hlt2 : j < sp.length
            · have j0 : (0 : Int) ≤ (j : Int) := Int.natCast_nonneg _
              have j1 : (j : Int) < (sp.length : Int) := by omega
              obtain ⟨k0, k1⟩ := hA3 j hlt2
              simp only at k0
              obtain ⟨R, hR⟩ : ∃ R, R = s &&& 2 ^ j := ⟨_, rfl⟩
              have ra : bits BinOp.and IntKind.i64 (s : Int) (wrap64 (2 ^ j)) = (R : Int) := by rw [hR]; exact and_pow (by omega) (by omega)
              obtain ⟨T, hT⟩ : ∃ T, T = befN sp j sp.length &&& (18446744073709551615 - s) := ⟨_, rfl⟩
              have rt : bits BinOp.andNot IntKind.i64 (befN sp j sp.length : Int) (s : Int) = (T : Int) := by rw [hT]; exact i64_andNot_nat _ _ (by have := befN_small sp j sp.length hn; omega) (by omega)
              have hcd : condP sp sp.length s j = (decide (R = 0) && decide (T = 0)) := by unfold condP; rw [← hR, ← hT]
              have HC : Hid _ := hcd
              have HR : Hid _ := hR
              clear hA3 hbw3 hT hcd hR
              by_cases hR0 : R = 0
              · have r0 : ((R : Int) == 0) = true := by simp [hR0]
                by_cases hT0 : T = 0
                · have t0 : ((T : Int) == 0) = true := by simp [hT0]
                  have hcc : condP sp sp.length s j = true := by rw [HC.out]; simp [hR0, hT0]
                  obtain ⟨Q, hQ⟩ : ∃ Q, Q = s ||| 2 ^ j := ⟨_, rfl⟩
                  have hQN : Q < N := by rw [hQ, HN.out]; exact Nat.or_lt_two_pow (by rw [← HN.out]; exact hls) (Nat.pow_lt_pow_right (by omega) hlt2)
                  have hQs : Q ≠ s := by rw [hQ]; exact or_ne (by rw [← HR.out]; exact hR0)
                  have rq : bits BinOp.or IntKind.i64 (s : Int) (wrap64 (2 ^ j)) = (Q : Int) := by rw [hQ]; exact or_pow (by omega) (by omega)
                  obtain ⟨o0, o1⟩ := hO3 Q hQN
                  obtain ⟨o2, o3⟩ := hO3 s hls
                  have HNX : Hid (inW sp sp.length s (outW sp sp.length s) (j + 1) = fun x => if x = Q then wrap64 (inW sp sp.length s (outW sp sp.length s) j Q + inW sp sp.length s (outW sp sp.length s) j s) else inW sp sp.length s (outW sp sp.length s) j x) := by
                    show inW sp sp.length s (outW sp sp.length s) (j + 1) = _
                    simp only [inW]
                    rw [if_pos hcc, hQ]
                  have q0 : (0 : Int) ≤ (Q : Int) := Int.natCast_nonneg _
                  have q1 : (Q : Int) < (N : Int) := by omega
                  clear hO3 hR0 hT0 hcc hQ
                  go_wp2_with fail
                  go_region
                  go_wp2_with fail
                  refine ⟨⟨j + 1, by omega, by go_num, (HB3.out.setCell (by simp; omega) _).drew, by simp; omega, HI3.out.apart _ _ _ (by omega), ?_⟩, by simp [intOf]; omega⟩
                  rw [HNX.out]
                  exact HO3.out.set Q _ hQN
                · have t0 : ((T : Int) == 0) = false := by simp [hT0]
                  have hcc : Hid (inW sp sp.length s (outW sp sp.length s) (j + 1) = inW sp sp.length s (outW sp sp.length s) j) := by
                    show inW sp sp.length s (outW sp sp.length s) (j + 1) = _
                    simp only [inW]
                    rw [if_neg]
                    rw [HC.out]; simp [hT0]
                  clear hO3 hR0 hT0
                  go_wp2_with fail
                  refine ⟨⟨j + 1, by omega, by go_num, HB3.out, hsz3, HI3.out, ?_⟩, by simp [intOf]; omega⟩
                  rw [hcc.out]
                  exact HO3.out
              · have r0 : ((R : Int) == 0) = false := by simp [hR0]
                have hcc : Hid (inW sp sp.length s (outW sp sp.length s) (j + 1) = inW sp sp.length s (outW sp sp.length s) j) := by
                  show inW sp sp.length s (outW sp sp.length s) (j + 1) = _
                  simp only [inW]
                  rw [if_neg]
                  rw [HC.out]; simp [hR0]
                clear hO3 hR0
                go_wp2_with fail
                refine ⟨⟨j + 1, by omega, by go_num, HB3.out, hsz3, HI3.out, ?_⟩, by simp [intOf]; omega⟩
                rw [hcc.out]
                exact HO3.out
            · obtain rfl : j = sp.length := by omega
              clear hA3 hbw3 hO3
              go_wp2_with fail
              exact ⟨⟨s + 1, by omega, by go_num, HB3.out, hsz3, HI3.out, HO3.out⟩, by simp [intOf]; omega⟩
        · obtain rfl : s = N := by omega
          obtain ⟨o0, o1⟩ := hO (s - 1) (by omega)
          have F : Hid (ordsA sp = outW sp sp.length s (s - 1)) := by show ordsA sp = _; unfold ordsA; rw [← HN.out]
          have e1 : ((s : Int) - 1).toNat = s - 1 := by omega
          clear hA hO hbw2
          go_wp2_with fail
          go_ret
          exact ⟨by rw [F.out]; rfl, HB2.out⟩
end Go.Proofs.Ytgbfippcnmpgfaa
