/- Layer 5: the reference's Events, where it lays. -/
import Derived.Test.YtlciogcdpiomhaaEREv2
import Derived.Test.YtlciogcdpiomhaaERCnt
import Derived.Deep.CutRange
namespace Go.Proofs.Ytlciogcdpiomhaa
open Go.RowKit
attribute [local go_sem ↓] Go.wp_at_zero Go.wp_at_succ

set_option maxRecDepth 100000 in


set_option maxHeartbeats 4000000 in
theorem rEvents_rest (a1 : Option Addr) (b1 o1 c1 : Nat) (l : List CD) (pb : Nat → Option Addr) (pc pg po : Nat → Nat) (w : World) (hx : CdsAt w a1 b1 o1 l pb pc pg po) (hsm : l.length ≤ 100000) (hnar : cntN l l.length ≤ 100000) :
    Calls Try.prog 19 #[.slice a1 l.length c1] w fun e w' => ∃ v err, e = .returned (.tuple #[v, .int .i64 err]) ∧ Below w.heap.size w w' ∧ EvAns l w w' v err := by
  have HX : Hid _ := hx
  clear hx
  have hb : (l.length : Int) ≤ 100000 := by omega
  go_enter Try.func19, Try.ntmps19
  go_wp2_with fail
  go_loopw [4, 5] (fun n i wr => ∃ j : Nat, j ≤ l.length ∧ i = .int .i64 j ∧ n = .int .i64 (cntN l j) ∧ Below w.heap.size w wr) (fun _ i _ => l.length - (intOf i).toNat)
  case atStart => exact ⟨0, Nat.zero_le _, rfl, rfl, Below.refl _ _⟩
  case round =>
    obtain ⟨j, hj, rfl, rfl, hbw⟩ := hrel
    have HW : Hid _ := hbw
    have hcn := cntN_le l j
    by_cases hlt : j < l.length
    · obtain rfl : a1 = some ⟨b1, o1, none⟩ := HX.out.base (by omega)
      have EX := HX.out.below hbw
      have zx : b1 < wr.heap.size := EX.lt (by omega)
      obtain ⟨d9, d10⟩ := EX.c2 j hlt
      have j0 : (0 : Int) ≤ (j : Int) := Int.natCast_nonneg _
      have j1 : (j : Int) < (l.length : Int) := by omega
      have HC : Hid (cntN l (j + 1) = cntN l j + 1 + (if (cdAt l j).to = -1 then 0 else 1)) := rfl
      clear EX hbw
      by_cases ht : (cdAt l j).to = -1
      · have hd : ((cdAt l j).to != -1) = false := by simp [ht]
        have HT : Hid _ := ht
        clear ht
        go_wp2_with fail
        refine ⟨⟨j + 1, by omega, by go_num, ?_, HW.out⟩, by simp [intOf]; omega⟩
        rw [HC.out, if_pos HT.out]
        congr 1
      · have hd : ((cdAt l j).to != -1) = true := by simp [ht]
        have HT : Hid ((cdAt l j).to = -1 → False) := ht
        clear ht
        go_wp2_with fail
        refine ⟨⟨j + 1, by omega, by go_num, ?_, HW.out⟩, by simp [intOf]; omega⟩
        rw [HC.out, if_neg HT.out]
        congr 1
    · obtain rfl : j = l.length := by omega
      clear hbw hlt hj
      have HN : Hid (∃ n, n = cntN l l.length) := ⟨_, rfl⟩
      obtain ⟨n, hn⟩ := HN.out
      have hem : (empties l).length = n := by unfold empties; rw [List.length_replicate, hn]
      have HEM : Hid _ := hem
      have HN : Hid _ := hn
      rw [← hn]
      rw [← hn] at hcn hnar
      clear hn hem
      have hw2 : (n : Int) ≤ 100000 := by omega
      have hm1 : ∀ w : World, (Instr.makeSlice 22 (.int .i64 n) (.int .i64 n)).run Try.prog w = .ok (.slice (some ⟨w.heap.size, 0, none⟩) n n) (w.alloc (.cells (madeCells #[.int .i64 0, .bool false, .int .i64 0, .int .i64 0, .int .i64 0, .int .i64 0, .bool false, .int .i64 0, .int .i64 0, .slice none 0 0] (n * 10)) 70)) := fun w => run_make_known (P := Try.prog) 22 70 (.agg #[.int .i64 0, .bool false, .int .i64 0, .int .i64 0, .int .i64 0, .int .i64 0, .bool false, .int .i64 0, .int .i64 0, .slice none 0 0]) 10 96 evs_under ev_info n (by omega) (by omega) w
      have hm2 : ∀ w : World, (Instr.makeSlice 67 (.int .i64 n) (.int .i64 n)).run Try.prog w = .ok (.slice (some ⟨w.heap.size, 0, none⟩) n n) (w.alloc (.cells (madeCells #[.bool false] n) 4)) := fun w => by simpa [Value.cells] using run_make_known (P := Try.prog) 67 4 (.bool false) 1 1 bs_under b_info n (by omega) (by omega) w
      generalize wr = W0 at *
      go_wp2_with fail
      clear hm1 hm2
      have hws := HW.out.size
      go_loopw [8] (fun i wr => ∃ j : Nat, j ≤ l.length ∧ i = .int .i64 j ∧ Below w.heap.size w wr ∧ W0.heap.size + 1 < wr.heap.size ∧ TwoAt wr W0.heap.size n (layN l (empties l) j) (tkB l j) ∧ ∀ k, k < j → CondR l k) (fun i _ => l.length - (intOf i).toNat)
      case atStart =>
        refine ⟨0, Nat.zero_le _, rfl, (HW.out.alloc HW.out.size _).alloc (by simp; omega) _, by simp, TwoAt.made W0 l n _ _, fun k hk => by omega⟩
      case round =>
        obtain ⟨j, hj, rfl, hbw, hsz, htwo, hcond⟩ := hrel
        have HW1 : Hid _ := hbw
        have HT : Hid (TwoAt _ _ _ _ _) := htwo
        have HC : Hid _ := hcond
        clear htwo hcond HW
        by_cases hlt : j < l.length
        · obtain rfl : a1 = some ⟨b1, o1, none⟩ := HX.out.base (by omega)
          have EX := HX.out.below hbw
          have zx : b1 < wr.heap.size := EX.lt (by omega)
          obtain ⟨d0, d1, d2, d3, d4⟩ := EX.c0 j hlt
          obtain ⟨d5, d6, d7, d8⟩ := EX.c1 j hlt
          obtain ⟨d9, d10⟩ := EX.c2 j hlt
          have j0 : (0 : Int) ≤ (j : Int) := Int.natCast_nonneg _
          have j1 : (j : Int) < (l.length : Int) := by omega
          obtain ⟨C, hC⟩ : ∃ C, C = wr.alloc (.cells #[.int .i64 (cdAt l j).th, .int .i64 (cdAt l j).op.kind, .int .i64 (cdAt l j).op.key, .int .i64 (cdAt l j).op.val, .int .i64 (cdAt l j).op.hi, .bool (cdAt l j).rt.ok, .int .i64 (cdAt l j).rt.key, .int .i64 (cdAt l j).rt.val, .slice (pb j) (cdAt l j).rt.pairs.length (pc j), .int .i64 (cdAt l j).fr, .int .i64 (cdAt l j).to] 88) := ⟨_, rfl⟩
          have hc : ∀ k, C.cell? ⟨wr.heap.size, k, none⟩ = #[.int .i64 (cdAt l j).th, .int .i64 (cdAt l j).op.kind, .int .i64 (cdAt l j).op.key, .int .i64 (cdAt l j).op.val, .int .i64 (cdAt l j).op.hi, .bool (cdAt l j).rt.ok, .int .i64 (cdAt l j).rt.key, .int .i64 (cdAt l j).rt.val, .slice (pb j) (cdAt l j).rt.pairs.length (pc j), .int .i64 (cdAt l j).fr, .int .i64 (cdAt l j).to][k]? := fun k => by rw [hC]; exact cell_new wr _ _ k
          have hb0 : Below wr.heap.size wr C := by rw [hC]; exact below_alloc _ _
          have z0 : C.heap.size = wr.heap.size + 1 := by rw [hC]; simp
          have B0 : Hid (Below wr.heap.size wr C) := hb0
          have PX : Hid _ := EX.prs j hlt
          have HEX : Hid _ := EX.below hb0
          have HT0 : Hid (TwoAt C W0.heap.size n (layN l (empties l) j) (tkB l j)) := HT.out.below hsz hb0
          clear EX hbw hb0 HT
          go_upto_region 18 with fail
          rw [← hC]
          have k0 : C.cell? ⟨wr.heap.size, 0, none⟩ = some (.int .i64 (cdAt l j).th) := hc 0
          have k1 : C.cell? ⟨wr.heap.size, 1, none⟩ = some (.int .i64 (cdAt l j).op.kind) := hc 1
          have k2 : C.cell? ⟨wr.heap.size, 2, none⟩ = some (.int .i64 (cdAt l j).op.key) := hc 2
          have k3 : C.cell? ⟨wr.heap.size, 3, none⟩ = some (.int .i64 (cdAt l j).op.val) := hc 3
          have k4 : C.cell? ⟨wr.heap.size, 4, none⟩ = some (.int .i64 (cdAt l j).op.hi) := hc 4
          have k5 : C.cell? ⟨wr.heap.size, 5, none⟩ = some (.bool (cdAt l j).rt.ok) := hc 5
          have k6 : C.cell? ⟨wr.heap.size, 6, none⟩ = some (.int .i64 (cdAt l j).rt.key) := hc 6
          have k7 : C.cell? ⟨wr.heap.size, 7, none⟩ = some (.int .i64 (cdAt l j).rt.val) := hc 7
          have k8 : C.cell? ⟨wr.heap.size, 8, none⟩ = some (.slice (pb j) (cdAt l j).rt.pairs.length (pc j)) := hc 8
          have k9 : C.cell? ⟨wr.heap.size, 9, none⟩ = some (.int .i64 (cdAt l j).fr) := hc 9
          have k10 : C.cell? ⟨wr.heap.size, 10, none⟩ = some (.int .i64 (cdAt l j).to) := hc 10
          have hsz0 : wr.heap.size < C.heap.size := by omega
          clear hC hc d0 d1 d2 d3 d4 d5 d6 d7 d8 d9 d10
          go_cut [90] from 38 to 140 (fun c wx => c = .bool (q1B l j) ∧ Below C.heap.size C wx)
          case first =>
            have y5 := BelowBy.cell hsz0 k5
            have y6 := BelowBy.cell hsz0 k6
            have y7 := BelowBy.cell hsz0 k7
            have y8 := BelowBy.cell hsz0 k8
            have y10 := BelowBy.cell hsz0 k10
            clear k0 k1 k2 k3 k4 k5 k6 k7 k8 k10
            by_cases hA : (cdAt l j).fr < 0
            · have y9 := BelowBy.cell hsz0 k9
              have hA1 : decide ((cdAt l j).fr < 0) = true := decide_eq_true hA
              have QB : Hid (q1B l j = true) := by show q1B l j = true; unfold q1B; rw [hA1]; rfl
              have SR : Hid True := trivial
              clear k9 hA
              refine wp_region_below (by kernel_rfl) (by kernel_rfl) ?_
              repeat (go_big_quiet_step ((go_at_call 52; fail)))
              refine wpQuiet_nil ?_
              rintro _ ⟨p, rfl⟩
              have PB : Hid (Below C.heap.size C p.W) := p.h
              go_wp2_with fail
              go_meet
              exact ⟨by rw [QB.out], PB.out⟩
            · obtain ⟨f, hf⟩ : ∃ f : Nat, (cdAt l j).fr = f := ⟨(cdAt l j).fr.toNat, by omega⟩
              have QA : Hid (q1B l j = (decide (((cntN l l.length : Nat) : Int) ≤ (f : Int)) || (tkB l j f || ((decide (0 < j) && decide ((f : Int) ≤ (cdAt l (j - 1)).fr)) || (decide ((cdAt l j).to = -1) && !retEq (cdAt l j).rt RetD.zero))))) := by
                show q1B l j = _
                unfold q1B
                rw [hf, Int.toNat_natCast, decide_eq_false (show ¬ ((f : Int) < 0) by omega)]
                rfl
              rw [hf] at k9
              have y9 := BelowBy.cell hsz0 k9
              have f0 : (0 : Int) ≤ (f : Int) := Int.natCast_nonneg _
              have hA1 : decide ((f : Int) < 0) = false := decide_eq_false (by omega)
              rw [← HN.out] at QA
              clear hA hf k9
              by_cases hB : (f : Int) ≥ (n : Int)
              · have hB1 : decide ((n : Int) ≤ (f : Int)) = true := decide_eq_true hB
                have hB2 : decide (n ≤ f) = true := decide_eq_true (by omega)
                have hB3 : n ≤ f := by omega
                have QB : Hid (q1B l j = true) := by show q1B l j = true; rw [QA.out, hB1]; rfl
                clear hB
                refine wp_region_below (by kernel_rfl) (by kernel_rfl) ?_
                repeat (go_big_quiet_step (fail))
                refine wpQuiet_nil ?_
                rintro _ ⟨p, rfl⟩
                have PB : Hid (Below C.heap.size C p.W) := p.h
                go_wp2_with fail
                go_meet
                exact ⟨by rw [QB.out], PB.out⟩
              · have hB1 : decide ((n : Int) ≤ (f : Int)) = false := decide_eq_false hB
                have hB2 : decide (n ≤ f) = false := decide_eq_false (by omega)
                have f1 : (f : Int) < (n : Int) := by omega
                have QC : Hid (q1B l j = (tkB l j f || ((decide (0 < j) && decide ((f : Int) ≤ (cdAt l (j - 1)).fr)) || (decide ((cdAt l j).to = -1) && !retEq (cdAt l j).rt RetD.zero)))) := by show q1B l j = _; rw [QA.out, hB1]; rfl
                have yt : C.cell? ⟨W0.heap.size + 1, f, none⟩ = some (.bool (tkB l j f)) := by obtain ⟨_, _, _, _, _, _, _, hV⟩ := HT0.out; exact (hV f (by omega)).1
                have zt : W0.heap.size + 1 < C.heap.size := by omega
                clear hB
                cases hT : tkB l j f
                case true =>
                  rw [hT] at yt
                  have yt := BelowBy.cell zt yt
                  have QB : Hid (q1B l j = true) := by show q1B l j = true; rw [QC.out, hT]; rfl
                  clear hT
                  refine wp_region_below (by kernel_rfl) (by kernel_rfl) ?_
                  repeat (go_big_quiet_step (fail))
                  refine wpQuiet_nil ?_
                  rintro _ ⟨p, rfl⟩
                  have PB : Hid (Below C.heap.size C p.W) := p.h
                  go_wp2_with fail
                  go_meet
                  exact ⟨by rw [QB.out], PB.out⟩
                case false =>
                  rw [hT] at yt
                  have yt := BelowBy.cell zt yt
                  by_cases hj0 : 0 < j
                  · obtain ⟨k, hk⟩ : ∃ k, k = j - 1 := ⟨_, rfl⟩
                    have yk := (HEX.out.c2 k (by omega)).1
                    have zk : b1 < C.heap.size := by omega
                    have yk := BelowBy.cell zk yk
                    have QE : Hid (q1B l j = (decide ((f : Int) ≤ (cdAt l k).fr) || (decide ((cdAt l j).to = -1) && !retEq (cdAt l j).rt RetD.zero))) := by show q1B l j = _; rw [QC.out, hT, decide_eq_true hj0, ← hk]; rfl
                    have hj1 : decide ((0 : Int) < (j : Int)) = true := decide_eq_true (by omega)
                    have hj2 : decide (0 < j) = true := decide_eq_true (by omega)
                    have hw : IntKind.i64.wrap ((j : Int) - 1) = (k : Int) := by rw [show (j : Int) - 1 = (k : Int) by omega]; exact wrap_small k (by omega)
                    have k0 : (0 : Int) ≤ (k : Int) := Int.natCast_nonneg _
                    have k1 : (k : Int) < (l.length : Int) := by omega
                    clear hT hk hj0
                    by_cases hD : (f : Int) ≤ (cdAt l k).fr
                    · have hD1 : decide ((f : Int) ≤ (cdAt l k).fr) = true := decide_eq_true hD
                      have QB : Hid (q1B l j = true) := by show q1B l j = true; rw [QE.out, hD1]; rfl
                      clear hD
                      refine wp_region_below (by kernel_rfl) (by kernel_rfl) ?_
                      repeat (go_big_quiet_step (fail))
                      refine wpQuiet_nil ?_
                      rintro _ ⟨p, rfl⟩
                      have PB : Hid (Below C.heap.size C p.W) := p.h
                      go_wp2_with fail
                      go_meet
                      exact ⟨by rw [QB.out], PB.out⟩
                    · have hD1 : decide ((f : Int) ≤ (cdAt l k).fr) = false := decide_eq_false hD
                      have QD : Hid (q1B l j = (decide ((cdAt l j).to = -1) && !retEq (cdAt l j).rt RetD.zero)) := by show q1B l j = _; rw [QE.out, hD1]; rfl
                      clear hD
                      by_cases hE : (cdAt l j).to = -1
                      · have hE1 : decide ((cdAt l j).to = -1) = true := decide_eq_true hE
                        have hE2 : ((cdAt l j).to == -1) = true := by simp [hE]
                        cases hZ : retEq (cdAt l j).rt RetD.zero
                        · have QB : Hid (q1B l j = true) := by show q1B l j = true; rw [QD.out, hE1, hZ]; rfl
                          have SR : Hid (∀ p : BelowBy C, Calls Try.prog 52 #[.agg #[.bool (cdAt l j).rt.ok, .int .i64 (cdAt l j).rt.key, .int .i64 (cdAt l j).rt.val, .slice (pb j) (cdAt l j).rt.pairs.length (pc j)], .agg #[.bool false, .int .i64 0, .int .i64 0, .slice none 0 0]] p.W fun e w' => e = .returned (.bool false) ∧ Below p.W.heap.size p.W w') := fun p => by
                            have := sameRet_any (pb j) none (pg j) (po j) (pc j) 0 0 0 (cdAt l j).rt RetD.zero _ ((PX.out.1.below B0.out).below p.h) (pairs_none _)
                            rw [hZ] at this
                            exact this
                          clear hZ hE
                          refine wp_region_below (by kernel_rfl) (by kernel_rfl) ?_
                          repeat (go_big_quiet_step (((go_at_call 52; exact below_call (SR.out _)))))
                          refine wpQuiet_nil ?_
                          rintro _ ⟨p, rfl⟩
                          have PB : Hid (Below C.heap.size C p.W) := p.h
                          go_wp2_with fail
                          go_meet
                          exact ⟨by rw [QB.out], PB.out⟩
                        · have QB : Hid (q1B l j = false) := by show q1B l j = false; rw [QD.out, hE1, hZ]; rfl
                          have SR : Hid (∀ p : BelowBy C, Calls Try.prog 52 #[.agg #[.bool (cdAt l j).rt.ok, .int .i64 (cdAt l j).rt.key, .int .i64 (cdAt l j).rt.val, .slice (pb j) (cdAt l j).rt.pairs.length (pc j)], .agg #[.bool false, .int .i64 0, .int .i64 0, .slice none 0 0]] p.W fun e w' => e = .returned (.bool true) ∧ Below p.W.heap.size p.W w') := fun p => by
                            have := sameRet_any (pb j) none (pg j) (po j) (pc j) 0 0 0 (cdAt l j).rt RetD.zero _ ((PX.out.1.below B0.out).below p.h) (pairs_none _)
                            rw [hZ] at this
                            exact this
                          clear hZ hE
                          refine wp_region_below (by kernel_rfl) (by kernel_rfl) ?_
                          repeat (go_big_quiet_step (((go_at_call 52; exact below_call (SR.out _)))))
                          refine wpQuiet_nil ?_
                          rintro _ ⟨p, rfl⟩
                          have PB : Hid (Below C.heap.size C p.W) := p.h
                          go_wp2_with fail
                          go_meet
                          exact ⟨by rw [QB.out], PB.out⟩
                      · have hE1 : decide ((cdAt l j).to = -1) = false := decide_eq_false hE
                        have hE2 : ((cdAt l j).to == -1) = false := by simp [hE]
                        have QB : Hid (q1B l j = false) := by show q1B l j = false; rw [QD.out, hE1]; rfl
                        clear hE
                        refine wp_region_below (by kernel_rfl) (by kernel_rfl) ?_
                        repeat (go_big_quiet_step (fail))
                        refine wpQuiet_nil ?_
                        rintro _ ⟨p, rfl⟩
                        have PB : Hid (Below C.heap.size C p.W) := p.h
                        go_wp2_with fail
                        go_meet
                        exact ⟨by rw [QB.out], PB.out⟩
                  · have hj1 : decide ((0 : Int) < (j : Int)) = false := decide_eq_false (by omega)
                    have hj2 : decide (0 < j) = false := decide_eq_false (by omega)
                    have QD : Hid (q1B l j = (decide ((cdAt l j).to = -1) && !retEq (cdAt l j).rt RetD.zero)) := by show q1B l j = _; rw [QC.out, hT, decide_eq_false hj0]; rfl
                    clear hT hj0
                    by_cases hE : (cdAt l j).to = -1
                    · have hE1 : decide ((cdAt l j).to = -1) = true := decide_eq_true hE
                      have hE2 : ((cdAt l j).to == -1) = true := by simp [hE]
                      cases hZ : retEq (cdAt l j).rt RetD.zero
                      · have QB : Hid (q1B l j = true) := by show q1B l j = true; rw [QD.out, hE1, hZ]; rfl
                        have SR : Hid (∀ p : BelowBy C, Calls Try.prog 52 #[.agg #[.bool (cdAt l j).rt.ok, .int .i64 (cdAt l j).rt.key, .int .i64 (cdAt l j).rt.val, .slice (pb j) (cdAt l j).rt.pairs.length (pc j)], .agg #[.bool false, .int .i64 0, .int .i64 0, .slice none 0 0]] p.W fun e w' => e = .returned (.bool false) ∧ Below p.W.heap.size p.W w') := fun p => by
                          have := sameRet_any (pb j) none (pg j) (po j) (pc j) 0 0 0 (cdAt l j).rt RetD.zero _ ((PX.out.1.below B0.out).below p.h) (pairs_none _)
                          rw [hZ] at this
                          exact this
                        clear hZ hE
                        refine wp_region_below (by kernel_rfl) (by kernel_rfl) ?_
                        repeat (go_big_quiet_step (((go_at_call 52; exact below_call (SR.out _)))))
                        refine wpQuiet_nil ?_
                        rintro _ ⟨p, rfl⟩
                        have PB : Hid (Below C.heap.size C p.W) := p.h
                        go_wp2_with fail
                        go_meet
                        exact ⟨by rw [QB.out], PB.out⟩
                      · have QB : Hid (q1B l j = false) := by show q1B l j = false; rw [QD.out, hE1, hZ]; rfl
                        have SR : Hid (∀ p : BelowBy C, Calls Try.prog 52 #[.agg #[.bool (cdAt l j).rt.ok, .int .i64 (cdAt l j).rt.key, .int .i64 (cdAt l j).rt.val, .slice (pb j) (cdAt l j).rt.pairs.length (pc j)], .agg #[.bool false, .int .i64 0, .int .i64 0, .slice none 0 0]] p.W fun e w' => e = .returned (.bool true) ∧ Below p.W.heap.size p.W w') := fun p => by
                          have := sameRet_any (pb j) none (pg j) (po j) (pc j) 0 0 0 (cdAt l j).rt RetD.zero _ ((PX.out.1.below B0.out).below p.h) (pairs_none _)
                          rw [hZ] at this
                          exact this
                        clear hZ hE
                        refine wp_region_below (by kernel_rfl) (by kernel_rfl) ?_
                        repeat (go_big_quiet_step (((go_at_call 52; exact below_call (SR.out _)))))
                        refine wpQuiet_nil ?_
                        rintro _ ⟨p, rfl⟩
                        have PB : Hid (Below C.heap.size C p.W) := p.h
                        go_wp2_with fail
                        go_meet
                        exact ⟨by rw [QB.out], PB.out⟩
                    · have hE1 : decide ((cdAt l j).to = -1) = false := decide_eq_false hE
                      have hE2 : ((cdAt l j).to == -1) = false := by simp [hE]
                      have QB : Hid (q1B l j = false) := by show q1B l j = false; rw [QD.out, hE1]; rfl
                      clear hE
                      refine wp_region_below (by kernel_rfl) (by kernel_rfl) ?_
                      repeat (go_big_quiet_step (fail))
                      refine wpQuiet_nil ?_
                      rintro _ ⟨p, rfl⟩
                      have PB : Hid (Below C.heap.size C p.W) := p.h
                      go_wp2_with fail
                      go_meet
                      exact ⟨by rw [QB.out], PB.out⟩
          case rest =>
            obtain ⟨rfl, hbx⟩ := hcut
            have zc := hbx.size
            have HT1 : Hid (TwoAt wc W0.heap.size n (layN l (empties l) j) (tkB l j)) := HT0.out.below (by omega) hbx
            have BW : Hid (Below w.heap.size w wc) := (HW1.out.trans (B0.out.mono HW1.out.size)).trans (hbx.mono (by have := HW1.out.size; omega))
            have PX1 : Hid (PairsAt wc (pb j) (pg j) (po j) (cdAt l j).rt.pairs) := (PX.out.1.below B0.out).below hbx
            have m0 : wc.cell? ⟨wr.heap.size, 0, none⟩ = some (.int .i64 (cdAt l j).th) := (hbx.cell (p := ⟨wr.heap.size, 0, none⟩) hsz0).trans k0
            have m1 : wc.cell? ⟨wr.heap.size, 1, none⟩ = some (.int .i64 (cdAt l j).op.kind) := (hbx.cell (p := ⟨wr.heap.size, 1, none⟩) hsz0).trans k1
            have m2 : wc.cell? ⟨wr.heap.size, 2, none⟩ = some (.int .i64 (cdAt l j).op.key) := (hbx.cell (p := ⟨wr.heap.size, 2, none⟩) hsz0).trans k2
            have m3 : wc.cell? ⟨wr.heap.size, 3, none⟩ = some (.int .i64 (cdAt l j).op.val) := (hbx.cell (p := ⟨wr.heap.size, 3, none⟩) hsz0).trans k3
            have m4 : wc.cell? ⟨wr.heap.size, 4, none⟩ = some (.int .i64 (cdAt l j).op.hi) := (hbx.cell (p := ⟨wr.heap.size, 4, none⟩) hsz0).trans k4
            have m5 : wc.cell? ⟨wr.heap.size, 5, none⟩ = some (.bool (cdAt l j).rt.ok) := (hbx.cell (p := ⟨wr.heap.size, 5, none⟩) hsz0).trans k5
            have m6 : wc.cell? ⟨wr.heap.size, 6, none⟩ = some (.int .i64 (cdAt l j).rt.key) := (hbx.cell (p := ⟨wr.heap.size, 6, none⟩) hsz0).trans k6
            have m7 : wc.cell? ⟨wr.heap.size, 7, none⟩ = some (.int .i64 (cdAt l j).rt.val) := (hbx.cell (p := ⟨wr.heap.size, 7, none⟩) hsz0).trans k7
            have m8 : wc.cell? ⟨wr.heap.size, 8, none⟩ = some (.slice (pb j) (cdAt l j).rt.pairs.length (pc j)) := (hbx.cell (p := ⟨wr.heap.size, 8, none⟩) hsz0).trans k8
            have m9 : wc.cell? ⟨wr.heap.size, 9, none⟩ = some (.int .i64 (cdAt l j).fr) := (hbx.cell (p := ⟨wr.heap.size, 9, none⟩) hsz0).trans k9
            have m10 : wc.cell? ⟨wr.heap.size, 10, none⟩ = some (.int .i64 (cdAt l j).to) := (hbx.cell (p := ⟨wr.heap.size, 10, none⟩) hsz0).trans k10
            clear k0 k1 k2 k3 k4 k5 k6 k7 k8 k9 k10 hbx HT0 HEX
            cases hq : q1B l j
            case true =>
              have NO : Hid (ProgOk l → False) := fun q => by
                have := ((cond_q l j).1 (((prog_ref l).1 q).2.1 j hlt)).1
                rw [hq] at this; cases this
              clear hq
              go_wp2_with fail
              go_ret2
              exact ⟨_, _, rfl, BW.out, ⟨fun q => by omega, fun _ _ => ⟨rfl, rfl⟩, fun _ q => absurd q NO.out⟩⟩
            case false =>
              obtain ⟨f, hf, hfn⟩ := q1_false hq
              rw [← HN.out] at hfn
              have HQ : Hid _ := hq
              have HF : Hid _ := hf
              rw [hf] at m9
              clear hq hf
              have f0 : (0 : Int) ≤ (f : Int) := Int.natCast_nonneg _
              have f1 : (f : Int) < (n : Int) := by omega
              obtain ⟨⟨F, hV⟩, hVB⟩ := HT1.out.hasV
              have nb := hVB f hfn
              have n0 := hV (f * 10) (by omega)
              have n1 := hV (f * 10 + 1) (by omega)
              have n2 := hV (f * 10 + 2) (by omega)
              have n3 := hV (f * 10 + 3) (by omega)
              have n4 := hV (f * 10 + 4) (by omega)
              have n5 := hV (f * 10 + 5) (by omega)
              have n6 := hV (f * 10 + 6) (by omega)
              have n7 := hV (f * 10 + 7) (by omega)
              have n8 := hV (f * 10 + 8) (by omega)
              have n9 := hV (f * 10 + 9) (by omega)
              clear hV hVB
              obtain ⟨W3, hW3⟩ : ∃ W3, W3 = (World.setCell (World.setCell (World.setCell (World.setCell (World.setCell (World.setCell (World.setCell (World.setCell (World.setCell (World.setCell (World.setCell wc ⟨W0.heap.size + 1, f, none⟩ (.bool true)) ⟨W0.heap.size, f * 10, none⟩ (.int .i64 (cdAt l j).th)) ⟨W0.heap.size, f * 10 + 1, none⟩ (.bool false)) ⟨W0.heap.size, f * 10 + 2, none⟩ (.int .i64 (cdAt l j).op.kind)) ⟨W0.heap.size, f * 10 + 3, none⟩ (.int .i64 (cdAt l j).op.key)) ⟨W0.heap.size, f * 10 + 4, none⟩ (.int .i64 (cdAt l j).op.val)) ⟨W0.heap.size, f * 10 + 5, none⟩ (.int .i64 (cdAt l j).op.hi)) ⟨W0.heap.size, f * 10 + 6, none⟩ (.bool false)) ⟨W0.heap.size, f * 10 + 7, none⟩ (.int .i64 0)) ⟨W0.heap.size, f * 10 + 8, none⟩ (.int .i64 0)) ⟨W0.heap.size, f * 10 + 9, none⟩ (.slice none 0 0)) := ⟨_, rfl⟩
              have ll : (layN l (empties l) j).length = n := by rw [layN_length]; exact HEM.out
              have HLL : Hid _ := ll
              obtain ⟨hT3, hS3, hB3, hO⟩ := two_put (B' := fun p => if p = f then true else tkB l j p) HT1.out ll hfn (fun _ => rfl) (invE (cdAt l j)) rfl (W3 := W3) (by rw [hW3]; rfl) BW.out (by omega)
              have q0 : W3.cell? ⟨wr.heap.size, 0, none⟩ = some (.int .i64 (cdAt l j).th) := hO _ _ _ (by omega) (by omega) m0
              have q1 : W3.cell? ⟨wr.heap.size, 1, none⟩ = some (.int .i64 (cdAt l j).op.kind) := hO _ _ _ (by omega) (by omega) m1
              have q2 : W3.cell? ⟨wr.heap.size, 2, none⟩ = some (.int .i64 (cdAt l j).op.key) := hO _ _ _ (by omega) (by omega) m2
              have q3 : W3.cell? ⟨wr.heap.size, 3, none⟩ = some (.int .i64 (cdAt l j).op.val) := hO _ _ _ (by omega) (by omega) m3
              have q4 : W3.cell? ⟨wr.heap.size, 4, none⟩ = some (.int .i64 (cdAt l j).op.hi) := hO _ _ _ (by omega) (by omega) m4
              have q5 : W3.cell? ⟨wr.heap.size, 5, none⟩ = some (.bool (cdAt l j).rt.ok) := hO _ _ _ (by omega) (by omega) m5
              have q6 : W3.cell? ⟨wr.heap.size, 6, none⟩ = some (.int .i64 (cdAt l j).rt.key) := hO _ _ _ (by omega) (by omega) m6
              have q7 : W3.cell? ⟨wr.heap.size, 7, none⟩ = some (.int .i64 (cdAt l j).rt.val) := hO _ _ _ (by omega) (by omega) m7
              have q8 : W3.cell? ⟨wr.heap.size, 8, none⟩ = some (.slice (pb j) (cdAt l j).rt.pairs.length (pc j)) := hO _ _ _ (by omega) (by omega) m8
              have q9 : W3.cell? ⟨wr.heap.size, 9, none⟩ = some (.int .i64 f) := hO _ _ _ (by omega) (by omega) m9
              have q10 : W3.cell? ⟨wr.heap.size, 10, none⟩ = some (.int .i64 (cdAt l j).to) := hO _ _ _ (by omega) (by omega) m10
              have P3 : Hid (PairsAt W3 (pb j) (pg j) (po j) (cdAt l j).rt.pairs) := by
                have hp := PX.out.1
                refine ⟨PX1.out.base, fun q => by have := PX1.out.lt q; omega, fun i hi => ?_, PX1.out.len⟩
                have hlw : pg j < w.heap.size := (HX.out.prs j hlt).1.lt (by omega)
                exact ⟨hO _ _ _ (by omega) (by omega) (PX1.out.cells i hi).1, hO _ _ _ (by omega) (by omega) (PX1.out.cells i hi).2⟩
              have T3 : Hid (TwoAt _ _ _ _ _) := hT3
              have B3 : Hid _ := hB3
              clear ll hT3 hB3 hO
              go_upto_region 22 with fail
              rw [← hW3]
              clear hW3 m0 m1 m2 m3 m4 m5 m6 m7 m8 m9 m10 n0 n1 n2 n3 n4 n5 n6 n7 n8 n9 nb
              by_cases ht : (cdAt l j).to = -1
              · have hd : ((cdAt l j).to == -1) = true := by simp [ht]
                have HTO : Hid _ := ht
                clear ht
                go_wp2_with fail
                refine ⟨⟨j + 1, by omega, by go_num, B3.out, by omega, ?_, ?_⟩, by simp [intOf]; omega⟩
                · have e1 : layN l (empties l) (j + 1) = (layN l (empties l) j).set f (invE (cdAt l j)) := lay_pend HF.out (by rw [HLL.out]; exact hfn) HTO.out
                  have e2 : tkB l (j + 1) = fun p => if p = f then true else tkB l j p := funext fun p => tkB_pend HF.out HTO.out p
                  rw [e1, e2]
                  exact T3.out
                · intro k hk
                  by_cases e : k = j
                  · rw [e]; exact (cond_q l j).2 ⟨HQ.out, fun q => absurd HTO.out q⟩
                  · exact HC.out k (by omega)
              · have hd : ((cdAt l j).to == -1) = false := by simp [ht]
                have HTO : Hid ((cdAt l j).to ≠ -1) := ht
                clear ht
                by_cases hA : (cdAt l j).to ≤ (f : Int)
                · have hA1 : decide ((cdAt l j).to ≤ (f : Int)) = true := decide_eq_true hA
                  have QB : Hid (q2B l j = true) := by show q2B l j = true; unfold q2B; rw [HF.out, hA1]; rfl
                  have NO : Hid (ProgOk l → False) := fun q => by
                    have := ((cond_q l j).1 (((prog_ref l).1 q).2.1 j hlt)).2 HTO.out
                    rw [QB.out] at this; cases this
                  go_wp2_with fail
                  go_ret2
                  exact ⟨_, _, rfl, B3.out, ⟨fun q => by omega, fun _ _ => ⟨rfl, rfl⟩, fun _ q => absurd q NO.out⟩⟩
                · obtain ⟨t, ht⟩ : ∃ t : Nat, (cdAt l j).to = t := ⟨(cdAt l j).to.toNat, by omega⟩
                  have HTT : Hid _ := ht
                  rw [ht] at q10 hd hA
                  clear ht
                  have t0 : (0 : Int) ≤ (t : Int) := Int.natCast_nonneg _
                  have hft : f < t := by omega
                  have hA1 : decide ((t : Int) ≤ (f : Int)) = false := decide_eq_false hA
                  have hA2 : decide (t ≤ f) = false := decide_eq_false (by omega)
                  have QA : Hid (q2B l j = (decide ((n : Int) ≤ (t : Int)) || tkB l j t)) := by show q2B l j = _; unfold q2B; rw [HTT.out, HF.out, hA1, ← HN.out, Int.toNat_natCast]; rfl
                  by_cases hB : (n : Int) ≤ (t : Int)
                  · have hB1 : decide ((n : Int) ≤ (t : Int)) = true := decide_eq_true hB
                    have hB2 : decide (n ≤ t) = true := decide_eq_true (by omega)
                    have QB : Hid (q2B l j = true) := by show q2B l j = true; rw [QA.out, hB1]; rfl
                    have NO : Hid (ProgOk l → False) := fun q => by
                      have := ((cond_q l j).1 (((prog_ref l).1 q).2.1 j hlt)).2 HTO.out
                      rw [QB.out] at this; cases this
                    go_wp2_with fail
                    go_ret2
                    exact ⟨_, _, rfl, B3.out, ⟨fun q => by omega, fun _ _ => ⟨rfl, rfl⟩, fun _ q => absurd q NO.out⟩⟩
                  · have hB1 : decide ((n : Int) ≤ (t : Int)) = false := decide_eq_false hB
                    have hB2 : decide (n ≤ t) = false := decide_eq_false (by omega)
                    have t1 : (t : Int) < (n : Int) := by omega
                    have QC : Hid (q2B l j = tkB l j t) := by show q2B l j = _; rw [QA.out, hB1]; rfl
                    have yt := T3.out.hasV.2 t (by omega)
                    simp only [if_neg (show ¬ t = f by omega)] at yt
                    cases hT : tkB l j t
                    case true =>
                      rw [hT] at yt
                      have QB : Hid (q2B l j = true) := by show q2B l j = true; rw [QC.out, hT]
                      clear hT
                      have NO : Hid (ProgOk l → False) := fun q => by
                        have := ((cond_q l j).1 (((prog_ref l).1 q).2.1 j hlt)).2 HTO.out
                        rw [QB.out] at this; cases this
                      go_wp2_with fail
                      go_ret2
                      exact ⟨_, _, rfl, B3.out, ⟨fun q => by omega, fun _ _ => ⟨rfl, rfl⟩, fun _ q => absurd q NO.out⟩⟩
                    case false =>
                      rw [hT] at yt
                      have QB : Hid (q2B l j = false) := by show q2B l j = false; rw [QC.out, hT]
                      clear hT
                      obtain ⟨W4, hW4⟩ : ∃ W4, W4 = W3.setCell ⟨W0.heap.size + 1, t, none⟩ (.bool true) := ⟨_, rfl⟩
                      have T4 : Hid (TwoAt W4 W0.heap.size n ((layN l (empties l) j).set f (invE (cdAt l j))) (fun p => if p = t then true else if p = f then true else tkB l j p)) := by rw [hW4]; exact T3.out.mark (fun _ => rfl)
                      have B4 : Hid (Below w.heap.size w W4) := by rw [hW4]; exact B3.out.setCell (show w.heap.size ≤ W0.heap.size + 1 by omega) _
                      have z4 : W4.heap.size = W3.heap.size := by rw [hW4]; simp
                      have P4 : Hid (PairsAt W4.drew (pb j) (pg j) (po j) (cdAt l j).rt.pairs) := by
                        have hlw : (cdAt l j).rt.pairs.length ≠ 0 → pg j < w.heap.size := fun q => (HX.out.prs j hlt).1.lt q
                        have : PairsAt W4 (pb j) (pg j) (po j) (cdAt l j).rt.pairs := by rw [hW4]; exact pairs_set_any P3.out (fun q => by have := hlw q; omega)
                        exact this.below (Below.refl _ _).drew
                      have r0 : W4.cell? ⟨wr.heap.size, 0, none⟩ = some (.int .i64 (cdAt l j).th) := by rw [hW4, World.cell?_setCell_other _ _ _ _ (fun q => absurd (congrArg Addr.block q) (by simp; omega))]; exact q0
                      have r1 : W4.cell? ⟨wr.heap.size, 1, none⟩ = some (.int .i64 (cdAt l j).op.kind) := by rw [hW4, World.cell?_setCell_other _ _ _ _ (fun q => absurd (congrArg Addr.block q) (by simp; omega))]; exact q1
                      have r2 : W4.cell? ⟨wr.heap.size, 2, none⟩ = some (.int .i64 (cdAt l j).op.key) := by rw [hW4, World.cell?_setCell_other _ _ _ _ (fun q => absurd (congrArg Addr.block q) (by simp; omega))]; exact q2
                      have r3 : W4.cell? ⟨wr.heap.size, 3, none⟩ = some (.int .i64 (cdAt l j).op.val) := by rw [hW4, World.cell?_setCell_other _ _ _ _ (fun q => absurd (congrArg Addr.block q) (by simp; omega))]; exact q3
                      have r4 : W4.cell? ⟨wr.heap.size, 4, none⟩ = some (.int .i64 (cdAt l j).op.hi) := by rw [hW4, World.cell?_setCell_other _ _ _ _ (fun q => absurd (congrArg Addr.block q) (by simp; omega))]; exact q4
                      have r5 : W4.cell? ⟨wr.heap.size, 5, none⟩ = some (.bool (cdAt l j).rt.ok) := by rw [hW4, World.cell?_setCell_other _ _ _ _ (fun q => absurd (congrArg Addr.block q) (by simp; omega))]; exact q5
                      have r6 : W4.cell? ⟨wr.heap.size, 6, none⟩ = some (.int .i64 (cdAt l j).rt.key) := by rw [hW4, World.cell?_setCell_other _ _ _ _ (fun q => absurd (congrArg Addr.block q) (by simp; omega))]; exact q6
                      have r7 : W4.cell? ⟨wr.heap.size, 7, none⟩ = some (.int .i64 (cdAt l j).rt.val) := by rw [hW4, World.cell?_setCell_other _ _ _ _ (fun q => absurd (congrArg Addr.block q) (by simp; omega))]; exact q7
                      have r8 : W4.cell? ⟨wr.heap.size, 8, none⟩ = some (.slice (pb j) (cdAt l j).rt.pairs.length (pc j)) := by rw [hW4, World.cell?_setCell_other _ _ _ _ (fun q => absurd (congrArg Addr.block q) (by simp; omega))]; exact q8
                      have r10 : W4.cell? ⟨wr.heap.size, 10, none⟩ = some (.int .i64 t) := by rw [hW4, World.cell?_setCell_other _ _ _ _ (fun q => absurd (congrArg Addr.block q) (by simp; omega))]; exact q10
                      go_upto_region 26 with fail
                      rw [← hW4]
                      clear hW4 q0 q1 q2 q3 q4 q5 q6 q7 q8 q9 q10 yt
                      have hz4 : wr.heap.size < W4.drew.heap.size := by show _ < W4.heap.size; omega
                      have s0 : W4.drew.cell? ⟨wr.heap.size, 0, none⟩ = some (.int .i64 (cdAt l j).th) := r0
                      have s1 : W4.drew.cell? ⟨wr.heap.size, 1, none⟩ = some (.int .i64 (cdAt l j).op.kind) := r1
                      have s2 : W4.drew.cell? ⟨wr.heap.size, 2, none⟩ = some (.int .i64 (cdAt l j).op.key) := r2
                      have s3 : W4.drew.cell? ⟨wr.heap.size, 3, none⟩ = some (.int .i64 (cdAt l j).op.val) := r3
                      have s4 : W4.drew.cell? ⟨wr.heap.size, 4, none⟩ = some (.int .i64 (cdAt l j).op.hi) := r4
                      have s5 : W4.drew.cell? ⟨wr.heap.size, 5, none⟩ = some (.bool (cdAt l j).rt.ok) := r5
                      have s6 : W4.drew.cell? ⟨wr.heap.size, 6, none⟩ = some (.int .i64 (cdAt l j).rt.key) := r6
                      have s7 : W4.drew.cell? ⟨wr.heap.size, 7, none⟩ = some (.int .i64 (cdAt l j).rt.val) := r7
                      have s8 : W4.drew.cell? ⟨wr.heap.size, 8, none⟩ = some (.slice (pb j) (cdAt l j).rt.pairs.length (pc j)) := r8
                      have s10 : W4.drew.cell? ⟨wr.heap.size, 10, none⟩ = some (.int .i64 t) := r10
                      clear r0 r1 r2 r3 r4 r5 r6 r7 r8 r10
                      have hne : wr.heap.size ≠ W0.heap.size := by omega
                      have TD : Hid (TwoAt W4.drew W0.heap.size n ((layN l (empties l) j).set f (invE (cdAt l j))) (fun p => if p = t then true else if p = f then true else tkB l j p)) := T4.out.below (by omega) (Below.refl _ _).drew
                      go_region_held3 (fun w' => w'.cell? ⟨wr.heap.size, 0, none⟩ = some (.int .i64 (cdAt l j).th) ∧ w'.cell? ⟨wr.heap.size, 1, none⟩ = some (.int .i64 (cdAt l j).op.kind) ∧ w'.cell? ⟨wr.heap.size, 2, none⟩ = some (.int .i64 (cdAt l j).op.key) ∧ w'.cell? ⟨wr.heap.size, 3, none⟩ = some (.int .i64 (cdAt l j).op.val) ∧ w'.cell? ⟨wr.heap.size, 4, none⟩ = some (.int .i64 (cdAt l j).op.hi) ∧ w'.cell? ⟨wr.heap.size, 5, none⟩ = some (.bool (cdAt l j).rt.ok) ∧ w'.cell? ⟨wr.heap.size, 6, none⟩ = some (.int .i64 (cdAt l j).rt.key) ∧ w'.cell? ⟨wr.heap.size, 7, none⟩ = some (.int .i64 (cdAt l j).rt.val) ∧ w'.cell? ⟨wr.heap.size, 8, none⟩ = some (.slice (pb j) (cdAt l j).rt.pairs.length (pc j)) ∧ w'.cell? ⟨wr.heap.size, 10, none⟩ = some (.int .i64 t))
                          (first
                            | (with_reducible exact ⟨s0, s1, s2, s3, s4, s5, s6, s7, s8, s10⟩)
                            | (with_reducible exact ⟨(hb2.cell (p := ⟨wr.heap.size, 0, none⟩) hz4).trans s0, (hb2.cell (p := ⟨wr.heap.size, 1, none⟩) hz4).trans s1, (hb2.cell (p := ⟨wr.heap.size, 2, none⟩) hz4).trans s2, (hb2.cell (p := ⟨wr.heap.size, 3, none⟩) hz4).trans s3, (hb2.cell (p := ⟨wr.heap.size, 4, none⟩) hz4).trans s4, (hb2.cell (p := ⟨wr.heap.size, 5, none⟩) hz4).trans s5, (hb2.cell (p := ⟨wr.heap.size, 6, none⟩) hz4).trans s6, (hb2.cell (p := ⟨wr.heap.size, 7, none⟩) hz4).trans s7, (hb2.cell (p := ⟨wr.heap.size, 8, none⟩) hz4).trans s8, (hb2.cell (p := ⟨wr.heap.size, 10, none⟩) hz4).trans s10⟩)
                            | (go_split_ands; refine ⟨?_, ?_, ?_, ?_, ?_, ?_, ?_, ?_, ?_, ?_⟩ <;> (refine setMany_other (g := W0.heap.size) hne (evC (retE (cdAt l j)) (.slice (some ⟨g2, 0, none⟩) (cdAt l j).rt.pairs.length c2)) (W := w2) (b := t * 10) ?_; assumption)))
                          (first | (go_at_call 56; refine (copyRet_any (pb j) (pg j) (po j) (pc j) (cdAt l j).rt _ P4.out PX.out.2.1 PX.out.2.2).mono ?_; rintro e w2 ⟨g2, c2, rfl, hg2, hgl2, hpa2, hb2⟩; have z2 := hb2.size; simp only [World.drew] at z2 hg2; have T2 : Hid (TwoAt w2 W0.heap.size n ((layN l (empties l) j).set f (invE (cdAt l j))) (fun p => if p = t then true else if p = f then true else tkB l j p)) := TD.out.below (by show _ < W4.heap.size; omega) hb2; obtain ⟨⟨F2, V2⟩, _⟩ := T2.out.hasV; have n0 := V2 (t * 10) (by omega); have n1 := V2 (t * 10 + 1) (by omega); have n2 := V2 (t * 10 + 2) (by omega); have n3 := V2 (t * 10 + 3) (by omega); have n4 := V2 (t * 10 + 4) (by omega); have n5 := V2 (t * 10 + 5) (by omega); have n6 := V2 (t * 10 + 6) (by omega); have n7 := V2 (t * 10 + 7) (by omega); have n8 := V2 (t * 10 + 8) (by omega); have n9 := V2 (t * 10 + 9) (by omega)))
                      have T5 : Hid (TwoAt (setMany W0.heap.size w2 (t * 10) (evC (retE (cdAt l j)) (.slice (some ⟨g2, 0, none⟩) (cdAt l j).rt.pairs.length c2))) W0.heap.size n (((layN l (empties l) j).set f (invE (cdAt l j))).set t (retE (cdAt l j))) (fun p => if p = t then true else if p = f then true else tkB l j p)) :=
                        T2.out.put (by rw [List.length_set]; exact HLL.out) (by omega) (retE (cdAt l j)) (some ⟨g2, 0, none⟩) c2 g2 0 hpa2 (fun q => by cases q) PX.out.2.2 (fun _ => ⟨by omega, by omega⟩)
                      have B5 : Hid (Below w.heap.size w (setMany W0.heap.size w2 (t * 10) (evC (retE (cdAt l j)) (.slice (some ⟨g2, 0, none⟩) (cdAt l j).rt.pairs.length c2)))) := setMany_below (by omega) _ (B4.out.trans ((below_of_drew hb2).mono (by have := B4.out.size; omega)))
                      clear n0 n1 n2 n3 n4 n5 n6 n7 n8 n9 s0 s1 s2 s3 s4 s5 s6 s7 s8 s10 hb2 hpa2 V2
                      go_wp2_with fail
                      refine ⟨⟨j + 1, by omega, by go_num, B5.out, by simp; omega, ?_, ?_⟩, by simp [intOf]; omega⟩
                      · have e1 : layN l (empties l) (j + 1) = ((layN l (empties l) j).set f (invE (cdAt l j))).set t (retE (cdAt l j)) := lay_ret HF.out (by rw [HLL.out]; exact hfn) HTT.out (by rw [HLL.out]; omega)
                        have e2 : tkB l (j + 1) = fun p => if p = t then true else if p = f then true else tkB l j p := funext fun p => tkB_back HF.out HTT.out p
                        rw [e1, e2]
                        exact T5.out
                      · intro k hk
                        by_cases e : k = j
                        · rw [e]; exact (cond_q l j).2 ⟨HQ.out, fun _ => QB.out⟩
                        · exact HC.out k (by omega)
        · obtain rfl : j = l.length := by omega
          have HL : Hid ((layL l).length = n) := by show (layL l).length = n; rw [layL_length, HN.out]
          obtain ⟨qb, qc, qg, qo, hev⟩ := TwoAt.evs (hs := layL l) HT.out HL.out (by omega) (by unfold maxLen; omega)
          have HEV : Hid (EvsAt wr (some ⟨W0.heap.size, 0, none⟩) W0.heap.size 0 (layL l) qb qc qg qo) := hev
          have CK := rcheck_any (some ⟨W0.heap.size, 0, none⟩) W0.heap.size 0 n (layL l) qb qc qg qo wr hev
          rw [HL.out] at CK
          have HCK : Hid (Calls Try.prog _ _ _ _) := CK
          have hs3 := hErr_small (hs := layL l) (by rw [HL.out]; omega)
          have HS3 : Hid _ := hs3
          clear hev CK HT hs3 hbw
          generalize wr = W1 at *
          go_wp2_with fail
          refine HCK.out.mono ?_
          rintro e w2 ⟨rfl, hb2⟩
          have B2 : Hid (Below w.heap.size w w2) := HW1.out.trans (hb2.mono HW1.out.size)
          have E2 : Hid (EvsAt w2 (some ⟨W0.heap.size, 0, none⟩) W0.heap.size 0 (layL l) qb qc qg qo) := HEV.out.below hb2
          have z2 := hb2.size
          clear hb2 HCK
          by_cases he : hErr (layL l) = 0
          · rw [he]
            have HE : Hid _ := he
            clear he
            go_wp2_with fail
            have CL := calls_any (some ⟨W0.heap.size, 0, none⟩) W0.heap.size 0 n (layL l) qb qc qg qo w2 E2.out HE.out
            rw [HL.out] at CL
            refine CL.mono ?_
            clear CL
            rintro e w3 ⟨v, m, rfl, hb3, hmap, hown, _⟩
            obtain ⟨base, cap, g3, rfl, _, hca, _⟩ := calls_of_owns hown
            have HSC : Hid ((spansL (layL l)).length = l.length) := spans_count HC.out HE.out
            have hml : m.length = l.length := by rw [← HSC.out, ← hmap, List.length_map]
            have HCA : Hid _ := hca
            have HMP : Hid _ := hmap
            have B3 : Hid (Below w.heap.size w w3) := B2.out.trans (hb3.mono B2.out.size)
            have E3 : Hid (EvsAt w3 (some ⟨W0.heap.size, 0, none⟩) W0.heap.size 0 (layL l) qb qc qg qo) := E2.out.below hb3
            have z3 := hb3.size
            clear hown hca hmap hb3
            rw [hml]
            go_wp2_with fail
            go_loopw [12] (fun i wr => ∃ j : Nat, j ≤ l.length ∧ i = .int .i64 j ∧ Below w3.heap.size w3 wr ∧ ∀ k, k < j → ((spAt (spansL (layL l)) k).1 : Int) = (cdAt l k).fr ∧ (spAt (spansL (layL l)) k).2 = (cdAt l k).to) (fun i _ => l.length - (intOf i).toNat)
            case atStart => exact ⟨0, Nat.zero_le _, rfl, Below.refl _ _, fun k hk => by omega⟩
            case round =>
              obtain ⟨j, hj, rfl, hbw, hmt⟩ := hrel
              have HW2 : Hid _ := hbw
              have HMT : Hid _ := hmt
              by_cases hlt2 : j < l.length
              · obtain rfl : a1 = some ⟨b1, o1, none⟩ := HX.out.base (by omega)
                obtain rfl : base = some ⟨g3, 0, none⟩ := HCA.out.base (by omega)
                have EX := (HX.out.below B3.out).below hbw
                have CX := HCA.out.below hbw
                have zx : b1 < wr.heap.size := EX.lt (by omega)
                have zg : g3 < wr.heap.size := CX.lt (by omega)
                obtain ⟨d9, d10⟩ := EX.c2 j hlt2
                obtain ⟨c9, c10⟩ := CX.ft HMP.out (k := j) (by rw [HSC.out]; exact hlt2)
                obtain ⟨p, hp⟩ : ∃ p : Int, p = ((spAt (spansL (layL l)) j).1 : Int) := ⟨_, rfl⟩
                obtain ⟨q, hq⟩ : ∃ q : Int, q = (spAt (spansL (layL l)) j).2 := ⟨_, rfl⟩
                rw [← hp] at c9
                rw [← hq] at c10
                have HP : Hid _ := hp
                have HQ : Hid _ := hq
                have j0 : (0 : Int) ≤ (j : Int) := Int.natCast_nonneg _
                have j1 : (j : Int) < (l.length : Int) := by omega
                clear EX CX hbw hmt hp hq
                by_cases h1 : p = (cdAt l j).fr
                · have h1a : (p != (cdAt l j).fr) = false := by simp [h1]
                  have h1b : decide (p = (cdAt l j).fr) = true := decide_eq_true h1
                  have H1 : Hid _ := h1
                  by_cases h2 : q = (cdAt l j).to
                  · have h2a : (q != (cdAt l j).to) = false := by simp [h2]
                    have h2b : decide (q = (cdAt l j).to) = true := decide_eq_true h2
                    have H2 : Hid _ := h2
                    clear h1 h2
                    go_wp2_with fail
                    go_quiet (fail)
                    go_wp2_with fail
                    refine ⟨⟨j + 1, by omega, by go_num, below_drewN HW2.out _, fun k hk => ?_⟩, by simp [intOf]; omega⟩
                    by_cases e : k = j
                    · rw [e, ← HP.out, ← HQ.out]; exact ⟨H1.out, H2.out⟩
                    · exact HMT.out k (by omega)
                  · have h2a : (q != (cdAt l j).to) = true := by simp [h2]
                    have h2b : decide (q = (cdAt l j).to) = false := decide_eq_false h2
                    have NO : Hid (ProgOk l → False) := fun z => h2 (by rw [HQ.out]; exact ((((prog_ref l).1 z).2.2.2).2 j hlt2).2)
                    clear h1 h2
                    go_wp2_with fail
                    go_quiet (fail)
                    go_wp2_with fail
                    go_ret2
                    exact ⟨_, _, rfl, below_drewN (B3.out.trans (HW2.out.mono B3.out.size)) _, ⟨fun q => by omega, fun _ _ => ⟨rfl, rfl⟩, fun _ q => absurd q NO.out⟩⟩
                · have h1a : (p != (cdAt l j).fr) = true := by simp [h1]
                  have h1b : decide (p = (cdAt l j).fr) = false := decide_eq_false h1
                  have NO : Hid (ProgOk l → False) := fun z => h1 (by rw [HP.out]; exact ((((prog_ref l).1 z).2.2.2).2 j hlt2).1)
                  clear h1
                  go_wp2_with fail
                  go_quiet (fail)
                  go_wp2_with fail
                  go_ret2
                  exact ⟨_, _, rfl, below_drewN (B3.out.trans (HW2.out.mono B3.out.size)) _, ⟨fun q => by omega, fun _ _ => ⟨rfl, rfl⟩, fun _ q => absurd q NO.out⟩⟩
              · obtain rfl : j = l.length := by omega
                have YES : Hid (ProgOk l) := (prog_ref l).2 ⟨by rw [← HN.out]; omega, HC.out, HE.out, HSC.out, HMT.out⟩
                clear hbw hmt
                go_wp2_with fail
                go_ret2
                exact ⟨_, _, rfl, B3.out.trans (HW2.out.mono B3.out.size), ⟨fun q => by omega, fun _ q => absurd YES.out q, fun _ _ => ⟨rfl, W0.heap.size, qb, qc, qg, qo, hws, by rw [HL.out]; rfl, E3.out.below HW2.out⟩⟩⟩
          · have h3 : hErr (layL l) = 3 := by rcases HS3.out with z | z; exact absurd z he; exact z
            have NO : Hid (ProgOk l → False) := fun z => he z.1
            rw [h3]
            clear he h3
            go_wp2_with fail
            go_ret2
            exact ⟨_, _, rfl, B2.out, ⟨fun q => by omega, fun _ _ => ⟨rfl, rfl⟩, fun _ q => absurd q NO.out⟩⟩

/-- The reference's Events, whole. -/
theorem rEvents_any (a1 : Option Addr) (b1 o1 c1 : Nat) (l : List CD) (pb : Nat → Option Addr) (pc pg po : Nat → Nat) (w : World) (hx : CdsAt w a1 b1 o1 l pb pc pg po) :
    Calls Try.prog 19 #[.slice a1 l.length c1] w fun e w' => ∃ v err, e = .returned (.tuple #[v, .int .i64 err]) ∧ Below w.heap.size w w' ∧ EvAns l w w' v err := by
  by_cases hbig : 100000 < l.length
  · refine (rEvents_big a1 c1 l w hx.len hbig).mono ?_
    rintro e w' ⟨rfl, hb⟩
    exact ⟨_, _, rfl, hb, ⟨fun _ => ⟨rfl, rfl⟩, fun q => by omega, fun q => by omega⟩⟩
  · by_cases hwide : 100000 < cntN l l.length
    · refine (rEvents_wide a1 b1 o1 c1 l pb pc pg po w hx (by omega) hwide).mono ?_
      rintro e w' ⟨rfl, hb⟩
      exact ⟨_, _, rfl, hb, ⟨fun q => by omega, fun _ _ => ⟨rfl, rfl⟩, fun _ q => by have := ((prog_ref l).1 q).1; omega⟩⟩
    · exact rEvents_rest a1 b1 o1 c1 l pb pc pg po w hx (by omega) (by omega)
end Go.Proofs.Ytlciogcdpiomhaa
