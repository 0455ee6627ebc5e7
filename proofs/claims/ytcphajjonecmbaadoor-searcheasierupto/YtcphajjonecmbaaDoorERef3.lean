
/- Layer 5: the reference's Check. -/

import Derived.Test.YtcphajjonecmbaaDoorEQuiet

namespace Go.Proofs.YtcphajjonecmbaaDoor

open Go.RowKit

attribute [local go_sem ↓] Go.wp_at_zero Go.wp_at_succ

theorem opsR_put {hs : List EvD} {s s' : St} {f : Nat → Value} {t : Nat} {o : OpD} (hR : OpsR hs s f) (h1 : ∀ t', t' ≠ t → 0 < s'.beg t' → 0 < s.beg t' ∧ opOf hs s' t' = opOf hs s t') (h2 : 0 < s'.beg t → opOf hs s' t = o) :
    OpsR hs s' (putV (putV (putV (putV f (t * 4) (.int .i64 o.kind)) (t * 4 + 1) (.int .i64 o.key)) (t * 4 + 2) (.int .i64 o.val)) (t * 4 + 3) (.int .i64 o.hi)) := by
  intro t' ht' h0
  by_cases e : t' = t
  · subst e
    rw [h2 h0]
    refine ⟨?_, ?_, ?_, ?_⟩
    · rw [putV_other _ _ _ _ (by omega), putV_other _ _ _ _ (by omega), putV_other _ _ _ _ (by omega), putV_same]
    · rw [putV_other _ _ _ _ (by omega), putV_other _ _ _ _ (by omega), putV_same]
    · rw [putV_other _ _ _ _ (by omega), putV_same]
    · rw [putV_same]
  · obtain ⟨g, q⟩ := h1 t' e h0
    have r := hR t' ht' g
    rw [q]
    refine ⟨?_, ?_, ?_, ?_⟩
    · rw [putV_other _ _ _ _ (by omega), putV_other _ _ _ _ (by omega), putV_other _ _ _ _ (by omega), putV_other _ _ _ _ (by omega)]; exact r.1
    · rw [putV_other _ _ _ _ (by omega), putV_other _ _ _ _ (by omega), putV_other _ _ _ _ (by omega), putV_other _ _ _ _ (by omega)]; exact r.2.1
    · rw [putV_other _ _ _ _ (by omega), putV_other _ _ _ _ (by omega), putV_other _ _ _ _ (by omega), putV_other _ _ _ _ (by omega)]; exact r.2.2.1
    · rw [putV_other _ _ _ _ (by omega), putV_other _ _ _ _ (by omega), putV_other _ _ _ _ (by omega), putV_other _ _ _ _ (by omega)]; exact r.2.2.2
theorem vals_under {W : World} {g t v : Nat} {f : Nat → Nat} {b : Bool} (h : Vals W g 64 (fun t => .bool (decide (0 < f t)))) (hb : b = decide (0 < v)) : Vals (W.setCell ⟨g, t, none⟩ (.bool b)) g 64 (fun x => .bool (decide (0 < upd f t v x))) := by
  refine (h.set t (.bool b)).fn ?_
  intro j _
  simp only [putV, upd]
  split
  · rw [hb]
  · rfl
theorem vals4 {W : World} {g t n : Nat} {f : Nat → Value} {a b c d : Value} (h : Vals W g n f) : Vals ((((W.setCell ⟨g, t * 4, none⟩ a).setCell ⟨g, t * 4 + 1, none⟩ b).setCell ⟨g, t * 4 + 2, none⟩ c).setCell ⟨g, t * 4 + 3, none⟩ d) g n (putV (putV (putV (putV f (t * 4) a) (t * 4 + 1) b) (t * 4 + 2) c) (t * 4 + 3) d) :=
  (((h.set _ _).set _ _).set _ _).set _ _
theorem vals4_apart {W : World} {g g' t n : Nat} {f : Nat → Value} {a b c d : Value} (h : Vals W g' n f) (hg : g ≠ g') : Vals ((((W.setCell ⟨g, t * 4, none⟩ a).setCell ⟨g, t * 4 + 1, none⟩ b).setCell ⟨g, t * 4 + 2, none⟩ c).setCell ⟨g, t * 4 + 3, none⟩ d) g' n f :=
  (((h.apart _ _ _ hg).apart _ _ _ hg).apart _ _ _ hg).apart _ _ _ hg
theorem pairs_none (w : World) : PairsAt w none 0 0 [] := ⟨fun h => absurd rfl h, fun h => absurd rfl h, fun i hi => by simp at hi, by simp, fun i hi => by simp at hi⟩

set_option maxRecDepth 100000 in
set_option maxHeartbeats 2000000 in
theorem rcheck_any (base : Option Addr) (b o c : Nat) (hs : List EvD) (pb : Nat → Option Addr) (pc pg po : Nat → Nat) (w : World) (h : EvsAt w base b o hs pb pc pg po) :
    Calls Tryd.prog 129 #[.slice base hs.length c] w fun e w' => e = .returned (.int .i64 (hErr hs)) ∧ Below w.heap.size w w' := by
  have HA : Hid _ := h
  clear h
  by_cases hbig : 100000 < hs.length
  · have hb : (100000 : Int) < (hs.length : Int) := by omega
    go_enter Tryd.func129, Tryd.ntmps129
    go_wp2
    go_ret
    have e2 : hErr hs = 2 := by unfold hErr; rw [if_pos hbig]
    exact ⟨by rw [e2]; rfl, Below.refl _ _⟩
  · have hb : (hs.length : Int) ≤ 100000 := by omega
    have hbn : hs.length ≤ 100000 := by omega
    clear hbig
    have hop := op_neq
    have hm1 : ∀ w : World, (Instr.makeSlice 140 (.int .i64 64) (.int .i64 64)).run Tryd.prog w = .ok (.slice (some ⟨w.heap.size, 0, none⟩) 64 64) (w.alloc (.cells (madeCells #[.bool false] 64) 4)) := fun w => run_make_known (P := Tryd.prog) 140 4 (.bool false) 1 1 bs_under b_info 64 (by omega) (by omega) w
    have hm2 : ∀ w : World, (Instr.makeSlice 26 (.int .i64 64) (.int .i64 64)).run Tryd.prog w = .ok (.slice (some ⟨w.heap.size, 0, none⟩) 64 64) (w.alloc (.cells (madeCells #[.int .i64 0, .int .i64 0, .int .i64 0, .int .i64 0] 256) 43)) := fun w => run_make_known (P := Tryd.prog) 26 43 (.agg #[.int .i64 0, .int .i64 0, .int .i64 0, .int .i64 0]) 4 32 ops_under op_info 64 (by omega) (by omega) w
    go_enter Tryd.func129, Tryd.ntmps129
    go_wp2_with fail
    go_loopw [5] (fun i wr => ∃ (j : Nat) (s : St) (f : Nat → Value), j ≤ hs.length ∧ i = .int .i64 j ∧ stN hs j = some s ∧ Below w.heap.size w wr ∧ w.heap.size + 1 < wr.heap.size ∧ Vals wr w.heap.size 64 (fun t => .bool (decide (0 < s.beg t))) ∧ Vals wr (w.heap.size + 1) 256 f ∧ OpsR hs s f) (fun i _ => hs.length - (intOf i).toNat)
    case atStart =>
      refine ⟨0, ⟨[], fun _ => 0⟩, fun _ => .int .i64 0, Nat.zero_le _, rfl, rfl, (below_alloc _ _).alloc (by simp) _, by simp, ?_, ?_, ?_⟩
      · exact (Vals.made w 64 _ (.bool false)).below (by simp) (below_alloc _ _)
      · have := Vals.made4 (w.alloc (.cells (madeCells #[.bool false] 64) 4)) 256 43 (.int .i64 0)
        simpa using this
      · intro t _ h0; simp at h0
    case round =>
      obtain ⟨j, s, f, hj, rfl, hst, hbw, hsz, hU, hP, hR⟩ := hrel
      by_cases hlt : j < hs.length
      · obtain rfl : base = some ⟨b, o, none⟩ := HA.out.base (by omega)
        have EV := HA.out.below hbw
        obtain ⟨d0, d1⟩ := EV.c0 j hlt
        obtain ⟨d2, d3, d4, d5⟩ := EV.c1 j hlt
        obtain ⟨d6, d7, d8, d9⟩ := EV.c2 j hlt
        have hsz0 : w.heap.size < wr.heap.size := by omega
        have HU : Hid (Vals _ _ _ _) := hU
        have HP : Hid (Vals _ _ _ _) := hP
        have HR : Hid (OpsR _ _ _) := hR
        have HS : Hid _ := hst
        have HB : Hid _ := hbw
        have hok := stN_ok hst
        have FAIL : Hid (stepS hs s j = none → hErr hs = 3) := fun hf => hErr_form hbn (stN_fails hst hf hlt)
        have HE : Hid _ := EV
        have j0 : (0 : Int) ≤ (j : Int) := Int.natCast_nonneg _
        have j1 : (j : Int) < (hs.length : Int) := by omega
        clear hU hP hR hst hbw EV
        by_cases ht0 : (evAt hs j).th < 0
        · have F : Hid _ := FAIL.out (stepS_out (by omega))
          go_wp2_with fail
          go_quiet (fail)
          go_wp2_with fail
          go_ret
          exact ⟨by rw [F.out]; rfl, below_drewN (HB.out.alloc HB.out.size _) _⟩
        · by_cases ht1 : 64 ≤ (evAt hs j).th
          · have F : Hid _ := FAIL.out (stepS_out (by omega))
            have hnn : 0 ≤ (evAt hs j).th := by omega
            have q1 : decide ((evAt hs j).th < 0) = false := by simp; omega
            go_wp2_with fail
            go_quiet (fail)
            go_wp2_with fail
            go_ret
            exact ⟨by rw [F.out]; rfl, below_drewN (HB.out.alloc HB.out.size _) _⟩
          · obtain ⟨t, ht⟩ : ∃ t : Nat, (evAt hs j).th = t := ⟨(evAt hs j).th.toNat, by omega⟩
            have ht64 : t < 64 := by omega
            have htI : (t : Int) < 64 := by omega
            have ht0I : (0 : Int) ≤ (t : Int) := by omega
            have q1 : decide ((t : Int) < 0) = false := by simp
            have q2 : decide (64 ≤ (t : Int)) = false := by simp; omega
            obtain ⟨k0, f0⟩ := HU.out t ht64
            simp only at k0
            rw [ht] at d0
            have HT : Hid _ := ht
            clear ht0 ht1 ht
            by_cases hk1 : (evAt hs j).op.kind < 1
            · have F : Hid _ := FAIL.out (stepS_kind hok (Or.inl hk1))
              go_wp2_with fail
              go_quiet (fail)
              go_wp2_with fail
              go_ret
              exact ⟨by rw [F.out]; rfl, below_drewN (HB.out.alloc HB.out.size _) _⟩
            · have q3 : decide ((evAt hs j).op.kind < 1) = false := by simp; omega
              by_cases hk2 : 9 < (evAt hs j).op.kind
              · have F : Hid _ := FAIL.out (stepS_kind hok (Or.inr hk2))
                clear hk1
                go_wp2_with fail
                go_quiet (fail)
                go_wp2_with fail
                go_ret
                exact ⟨by rw [F.out]; rfl, below_drewN (HB.out.alloc HB.out.size _) _⟩
              · have q4 : decide (9 < (evAt hs j).op.kind) = false := by simp; omega
                have HK1 : Hid (1 ≤ (evAt hs j).op.kind) := by show 1 ≤ (evAt hs j).op.kind; omega
                have HK2 : Hid ((evAt hs j).op.kind ≤ 9) := by show (evAt hs j).op.kind ≤ 9; omega
                clear hk1 hk2
                cases hr : (evAt hs j).ret
                · rw [hr] at d1
                  by_cases hbg : s.beg t = 0
                  · have q5 : decide (0 < s.beg t) = false := by simp [hbg]
                    rw [q5] at k0
                    have hi0 : isInv (evAt hs j) = isZ (evAt hs j).rt := by
                      have h1 : decide (1 ≤ (evAt hs j).op.kind) = true := by have := HK1.out; simp; omega
                      have h2 : decide ((evAt hs j).op.kind ≤ 9) = true := by have := HK2.out; simp; omega
                      unfold isInv; rw [h1, h2]; rfl
                    have HI0 : Hid _ := hi0
                    have HBG : Hid _ := hbg
                    clear hi0 hbg
                    go_wp2_with fail
                    go_quiet (fail)
                    go_wp2_with fail
                    have B0 : Below wr.heap.size wr ((wr.alloc (.cells #[.int .i64 t, .bool false, .int .i64 (evAt hs j).op.kind, .int .i64 (evAt hs j).op.key, .int .i64 (evAt hs j).op.val, .int .i64 (evAt hs j).op.hi, .bool (evAt hs j).rt.ok, .int .i64 (evAt hs j).rt.key, .int .i64 (evAt hs j).rt.val, .slice (pb j) (evAt hs j).rt.pairs.length (pc j)] 84)).drewN nq) := below_drewN (below_alloc _ _) _
                    have x0 : ((wr.alloc (.cells #[.int .i64 t, .bool false, .int .i64 (evAt hs j).op.kind, .int .i64 (evAt hs j).op.key, .int .i64 (evAt hs j).op.val, .int .i64 (evAt hs j).op.hi, .bool (evAt hs j).rt.ok, .int .i64 (evAt hs j).rt.key, .int .i64 (evAt hs j).rt.val, .slice (pb j) (evAt hs j).rt.pairs.length (pc j)] 84)).drewN nq).cell? ⟨wr.heap.size, 0, none⟩ = some (.int .i64 t) := cell_new wr _ _ 0
                    have x1 : ((wr.alloc (.cells #[.int .i64 t, .bool false, .int .i64 (evAt hs j).op.kind, .int .i64 (evAt hs j).op.key, .int .i64 (evAt hs j).op.val, .int .i64 (evAt hs j).op.hi, .bool (evAt hs j).rt.ok, .int .i64 (evAt hs j).rt.key, .int .i64 (evAt hs j).rt.val, .slice (pb j) (evAt hs j).rt.pairs.length (pc j)] 84)).drewN nq).cell? ⟨wr.heap.size, 1, none⟩ = some (.bool false) := cell_new wr _ _ 1
                    have x2 : ((wr.alloc (.cells #[.int .i64 t, .bool false, .int .i64 (evAt hs j).op.kind, .int .i64 (evAt hs j).op.key, .int .i64 (evAt hs j).op.val, .int .i64 (evAt hs j).op.hi, .bool (evAt hs j).rt.ok, .int .i64 (evAt hs j).rt.key, .int .i64 (evAt hs j).rt.val, .slice (pb j) (evAt hs j).rt.pairs.length (pc j)] 84)).drewN nq).cell? ⟨wr.heap.size, 2, none⟩ = some (.int .i64 (evAt hs j).op.kind) := cell_new wr _ _ 2
                    have x3 : ((wr.alloc (.cells #[.int .i64 t, .bool false, .int .i64 (evAt hs j).op.kind, .int .i64 (evAt hs j).op.key, .int .i64 (evAt hs j).op.val, .int .i64 (evAt hs j).op.hi, .bool (evAt hs j).rt.ok, .int .i64 (evAt hs j).rt.key, .int .i64 (evAt hs j).rt.val, .slice (pb j) (evAt hs j).rt.pairs.length (pc j)] 84)).drewN nq).cell? ⟨wr.heap.size, 3, none⟩ = some (.int .i64 (evAt hs j).op.key) := cell_new wr _ _ 3
                    have x4 : ((wr.alloc (.cells #[.int .i64 t, .bool false, .int .i64 (evAt hs j).op.kind, .int .i64 (evAt hs j).op.key, .int .i64 (evAt hs j).op.val, .int .i64 (evAt hs j).op.hi, .bool (evAt hs j).rt.ok, .int .i64 (evAt hs j).rt.key, .int .i64 (evAt hs j).rt.val, .slice (pb j) (evAt hs j).rt.pairs.length (pc j)] 84)).drewN nq).cell? ⟨wr.heap.size, 4, none⟩ = some (.int .i64 (evAt hs j).op.val) := cell_new wr _ _ 4
                    have x5 : ((wr.alloc (.cells #[.int .i64 t, .bool false, .int .i64 (evAt hs j).op.kind, .int .i64 (evAt hs j).op.key, .int .i64 (evAt hs j).op.val, .int .i64 (evAt hs j).op.hi, .bool (evAt hs j).rt.ok, .int .i64 (evAt hs j).rt.key, .int .i64 (evAt hs j).rt.val, .slice (pb j) (evAt hs j).rt.pairs.length (pc j)] 84)).drewN nq).cell? ⟨wr.heap.size, 5, none⟩ = some (.int .i64 (evAt hs j).op.hi) := cell_new wr _ _ 5
                    have x6 : ((wr.alloc (.cells #[.int .i64 t, .bool false, .int .i64 (evAt hs j).op.kind, .int .i64 (evAt hs j).op.key, .int .i64 (evAt hs j).op.val, .int .i64 (evAt hs j).op.hi, .bool (evAt hs j).rt.ok, .int .i64 (evAt hs j).rt.key, .int .i64 (evAt hs j).rt.val, .slice (pb j) (evAt hs j).rt.pairs.length (pc j)] 84)).drewN nq).cell? ⟨wr.heap.size, 6, none⟩ = some (.bool (evAt hs j).rt.ok) := cell_new wr _ _ 6
                    have x7 : ((wr.alloc (.cells #[.int .i64 t, .bool false, .int .i64 (evAt hs j).op.kind, .int .i64 (evAt hs j).op.key, .int .i64 (evAt hs j).op.val, .int .i64 (evAt hs j).op.hi, .bool (evAt hs j).rt.ok, .int .i64 (evAt hs j).rt.key, .int .i64 (evAt hs j).rt.val, .slice (pb j) (evAt hs j).rt.pairs.length (pc j)] 84)).drewN nq).cell? ⟨wr.heap.size, 7, none⟩ = some (.int .i64 (evAt hs j).rt.key) := cell_new wr _ _ 7
                    have x8 : ((wr.alloc (.cells #[.int .i64 t, .bool false, .int .i64 (evAt hs j).op.kind, .int .i64 (evAt hs j).op.key, .int .i64 (evAt hs j).op.val, .int .i64 (evAt hs j).op.hi, .bool (evAt hs j).rt.ok, .int .i64 (evAt hs j).rt.key, .int .i64 (evAt hs j).rt.val, .slice (pb j) (evAt hs j).rt.pairs.length (pc j)] 84)).drewN nq).cell? ⟨wr.heap.size, 8, none⟩ = some (.int .i64 (evAt hs j).rt.val) := cell_new wr _ _ 8
                    have x9 : ((wr.alloc (.cells #[.int .i64 t, .bool false, .int .i64 (evAt hs j).op.kind, .int .i64 (evAt hs j).op.key, .int .i64 (evAt hs j).op.val, .int .i64 (evAt hs j).op.hi, .bool (evAt hs j).rt.ok, .int .i64 (evAt hs j).rt.key, .int .i64 (evAt hs j).rt.val, .slice (pb j) (evAt hs j).rt.pairs.length (pc j)] 84)).drewN nq).cell? ⟨wr.heap.size, 9, none⟩ = some (.slice (pb j) (evAt hs j).rt.pairs.length (pc j)) := cell_new wr _ _ 9
                    have hz0 : wr.heap.size < ((wr.alloc (.cells #[.int .i64 t, .bool false, .int .i64 (evAt hs j).op.kind, .int .i64 (evAt hs j).op.key, .int .i64 (evAt hs j).op.val, .int .i64 (evAt hs j).op.hi, .bool (evAt hs j).rt.ok, .int .i64 (evAt hs j).rt.key, .int .i64 (evAt hs j).rt.val, .slice (pb j) (evAt hs j).rt.pairs.length (pc j)] 84)).drewN nq).heap.size := by simp
                    generalize ((wr.alloc (.cells #[.int .i64 t, .bool false, .int .i64 (evAt hs j).op.kind, .int .i64 (evAt hs j).op.key, .int .i64 (evAt hs j).op.val, .int .i64 (evAt hs j).op.hi, .bool (evAt hs j).rt.ok, .int .i64 (evAt hs j).rt.key, .int .i64 (evAt hs j).rt.val, .slice (pb j) (evAt hs j).rt.pairs.length (pc j)] 84)).drewN nq) = W0 at *
                    have y0 := BelowBy.cell hz0 x0
                    have y1 := BelowBy.cell hz0 x1
                    have y2 := BelowBy.cell hz0 x2
                    have y3 := BelowBy.cell hz0 x3
                    have y4 := BelowBy.cell hz0 x4
                    have y5 := BelowBy.cell hz0 x5
                    have y6 := BelowBy.cell hz0 x6
                    have y7 := BelowBy.cell hz0 x7
                    have y8 := BelowBy.cell hz0 x8
                    have y9 := BelowBy.cell hz0 x9
                    have Bp : Hid (∀ p : BelowBy W0, Below wr.heap.size wr p.W) := fun p => p.up B0
                    clear x0 x1 x2 x3 x4 x5 x6 x7 x8 x9 d0 d1 d2 d3 d4 d5 d6 d7 d8 d9
                    refine wp_region_below (by kernel_rfl) (by kernel_rfl) ?_
                    repeat (go_big_quiet_step ((go_at_call 101; exact below_call (sameRet_any (pb j) none (pg j) (po j) (pc j) 0 0 0 (evAt hs j).rt RetD.zero _ ((HE.out.prs j hlt).1.below (Bp.out _)) (pairs_none _)))))
                    refine wpQuiet_nil ?_
                    rintro _ ⟨p, rfl⟩
                    rw [retEq_zero]
                    have hUp : Hid (Vals _ _ _ _) := HU.out.below hsz0 (Bp.out p)
                    have hPp : Hid (Vals _ _ _ _) := HP.out.below hsz (Bp.out p)
                    have hBp : Hid _ := HB.out.trans ((Bp.out p).mono HB.out.size)
                    cases hz : isZ (evAt hs j).rt
                    · have F : Hid _ := FAIL.out (stepS_bad HT.out ht64 hr (by rw [HI0.out]; exact hz))
                      go_wp2_with fail
                      go_ret
                      exact ⟨by rw [F.out]; rfl, hBp.out⟩
                    · have HN : Hid _ := stN_next HS.out (stepS_go HT.out ht64 hr HBG.out (by rw [HI0.out]; exact hz))
                      obtain ⟨a0, a1⟩ := hUp.out t ht64
                      obtain ⟨b0, b1⟩ := hPp.out (t * 4) (by omega)
                      obtain ⟨b2, b3⟩ := hPp.out (t * 4 + 1) (by omega)
                      obtain ⟨b4, b5⟩ := hPp.out (t * 4 + 2) (by omega)
                      obtain ⟨b6, b7⟩ := hPp.out (t * 4 + 3) (by omega)
                      have hps : wr.heap.size ≤ p.W.heap.size := (Bp.out p).size
                      go_wp2_with fail
                      refine ⟨⟨j + 1, _, _, by omega, by go_num, HN.out, ?_, by simp; omega, vals4_apart (vals_under hUp.out (by simp)) (by omega), vals4 (hPp.out.apart _ _ _ (by omega)), opsR_put HR.out ?_ ?_⟩, by simp [intOf]; omega⟩
                      · exact (((((hBp.out.setCell (by simp) _).setCell (by simp) _).setCell (by simp) _).setCell (by simp) _).setCell (by simp) _)
                      · intro t' hne h0
                        simp only [upd, if_neg hne] at h0
                        exact ⟨h0, opOf_go hne h0 (hok.beg t')⟩
                      · intro _
                        exact opOf_new
                  · have q5 : decide (0 < s.beg t) = true := by simp; omega
                    rw [q5] at k0
                    have F : Hid _ := FAIL.out (stepS_busy HT.out ht64 hr hbg)
                    clear hbg
                    go_wp2_with fail
                    go_quiet (fail)
                    go_wp2_with fail
                    go_ret
                    exact ⟨by rw [F.out]; rfl, below_drewN (HB.out.alloc HB.out.size _) _⟩
                · rw [hr] at d1
                  by_cases hbg : s.beg t = 0
                  · have q5 : decide (0 < s.beg t) = false := by simp [hbg]
                    rw [q5] at k0
                    have F : Hid _ := FAIL.out (stepS_lone HT.out ht64 hr hbg)
                    clear hbg
                    go_wp2_with fail
                    go_quiet (fail)
                    go_wp2_with fail
                    go_ret
                    exact ⟨by rw [F.out]; rfl, below_drewN (HB.out.alloc HB.out.size _) _⟩
                  · have q5 : decide (0 < s.beg t) = true := by simp; omega
                    rw [q5] at k0
                    obtain ⟨r0, r1, r2, r3⟩ := HR.out t ht64 (by omega)
                    have z0 := HP.out (t * 4) (by omega)
                    have z1 := HP.out (t * 4 + 1) (by omega)
                    have z2 := HP.out (t * 4 + 2) (by omega)
                    have z3 := HP.out (t * 4 + 3) (by omega)
                    rw [r0] at z0
                    rw [r1] at z1
                    rw [r2] at z2
                    rw [r3] at z3
                    obtain ⟨z0, g0⟩ := z0
                    obtain ⟨z1, g1⟩ := z1
                    obtain ⟨z2, g2⟩ := z2
                    obtain ⟨z3, g3⟩ := z3
                    clear r0 r1 r2 r3
                    have HBG : Hid (0 < s.beg t) := by show 0 < s.beg t; omega
                    clear hbg
                    cases hoe : opEq (evAt hs j).op (opOf hs s t)
                    · have F : Hid _ := FAIL.out (stepS_other HT.out ht64 hr (by rw [opEq_comm]; exact hoe))
                      go_wp2_with fail
                      go_quiet (fail)
                      go_wp2_with fail
                      go_quiet (fail)
                      go_wp2_with fail
                      go_ret
                      exact ⟨by rw [F.out]; rfl, below_drewN (below_drewN (HB.out.alloc HB.out.size _) _) _⟩
                    · have HN : Hid _ := stN_next HS.out (stepS_back HT.out ht64 hr HBG.out (by rw [opEq_comm]; exact hoe))
                      go_wp2_with fail
                      go_quiet (fail)
                      go_wp2_with fail
                      generalize nq = n1
                      go_quiet (fail)
                      go_wp2_with fail
                      have B2 : Below wr.heap.size wr ((wr.alloc (.cells #[.int .i64 t, .bool true, .int .i64 (evAt hs j).op.kind, .int .i64 (evAt hs j).op.key, .int .i64 (evAt hs j).op.val, .int .i64 (evAt hs j).op.hi, .bool (evAt hs j).rt.ok, .int .i64 (evAt hs j).rt.key, .int .i64 (evAt hs j).rt.val, .slice (pb j) (evAt hs j).rt.pairs.length (pc j)] 84)).drewN (n1 + nq)) := below_drewN (below_alloc _ _) _
                      have hUp := HU.out.below hsz0 B2
                      have hPp := HP.out.below hsz B2
                      have hBp := HB.out.trans (B2.mono HB.out.size)
                      refine ⟨⟨j + 1, _, _, by omega, by go_num, HN.out, ?_, by simp; omega, vals4_apart (vals_under hUp (by simp)) (by omega), vals4 (hPp.apart _ _ _ (by omega)), opsR_put HR.out ?_ ?_⟩, by simp [intOf]; omega⟩
                      · repeat (refine Below.setCell ?_ (by simp) _)
                        exact hBp
                      · intro t' hne h0
                        simp only [upd, if_neg hne] at h0
                        exact ⟨h0, opOf_back hne (by have := hok.beg t; have := HBG.out; omega)⟩
                      · intro h0
                        simp [upd] at h0
      · obtain rfl : j = hs.length := by omega
        obtain ⟨e1, e2⟩ := hErr_ok hbn hst
        have E1 : Hid _ := e1
        clear e1 e2 hU hP hR hst
        go_wp2
        go_ret
        exact ⟨by rw [E1.out]; rfl, hbw⟩
end Go.Proofs.YtcphajjonecmbaaDoor
