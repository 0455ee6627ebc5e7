
/- Layer 5: the reference's Cut and Done; EventParts, walked. -/

import Derived.Test.YtgbfippcnmpgfaaEParts

namespace Go.Proofs.Ytgbfippcnmpgfaa

open Go.RowKit

attribute [local go_sem ↓] Go.wp_at_zero Go.wp_at_succ

section

variable (base : Option Addr) (b o c : Nat) (hs : List EvD) (pb : Nat → Option Addr) (pc pg po : Nat → Nat) (w : World) (h : EvsAt w base b o hs pb pc pg po)

include h

set_option maxRecDepth 100000 in
set_option maxHeartbeats 1000000 in
theorem rCut_any (n : Int) : Calls Try.prog 13 #[.slice base hs.length c, .int .i64 n] w fun e w' => ∃ v, e = .returned (.tuple #[v, .int .i64 (cutE hs n)]) ∧ Below w.heap.size w w' ∧ EvsNew w' w.heap.size w.heap.size v (cutL hs n) := by
  have HA : Hid _ := h
  clear h
  by_cases he : hErr hs = 0
  · have hn : (hErr hs != 0) = false := by simp [he]
    have hsn : (spansL hs).length ≤ 100000 := by obtain ⟨_, s, hst, hsl⟩ := hErr_zero he; rw [hsl]; have := (stN_ok hst).len; omega
    have HE : Hid _ := he
    clear he
    by_cases h0 : n < 0
    · have F : Hid (cutE hs n = 1 ∧ cutL hs n = []) := by
        have he := HE.out
        show cutE hs n = 1 ∧ cutL hs n = []
        simp [cutE, cutL, he, h0]
      go_enter Try.func13, Try.ntmps13
      go_wp2_with fail
      refine (rCalls_any base b o c hs pb pc pg po _ HA.out).mono ?_
      rintro e w1 ⟨v, rfl, hb, _, hown⟩
      clear hown
      go_wp2_with fail
      go_ret2
      rw [F.out.1, F.out.2]
      exact ⟨_, rfl, hb, EvsNew.nil _ _ _⟩
    · have F : Hid (cutE hs n = 0 ∧ cutL hs n = keptN hs (Kcut n) hs.length) := by
        have he := HE.out
        show cutE hs n = 0 ∧ cutL hs n = keptN hs (Kcut n) hs.length
        simp [cutE, cutL, he, h0]
      go_enter Try.func13, Try.ntmps13
      go_wp2_with fail
      refine (rCalls_any base b o c hs pb pc pg po _ HA.out).mono ?_
      rintro e w1 ⟨v, rfl, hb, _, hown⟩
      obtain ⟨l1, hm1, ho1, hr1⟩ := hown HE.out
      have hl1 : l1.length = (spansL hs).length := by rw [← hm1, List.length_map]
      obtain ⟨ca, cc, rfl⟩ := owns_form ho1
      rw [hl1]
      have B1 : Hid _ := hb
      have z1 := hb.size
      clear hown hm1 ho1 hr1 hb
      have KP : Hid (∀ (W : World) (kb : Nat), Below w.heap.size w W → kb < W.heap.size → (∀ k, k < (spansL hs).length → W.cell? ⟨kb, k, none⟩ = some (.bool (Kcut n k))) → Calls Try.prog 34 #[.slice base hs.length c, .slice (some ⟨kb, 0, none⟩) (spansL hs).length (spansL hs).length] W fun e w' => ∃ v, e = .returned v ∧ Below W.heap.size W w' ∧ EvsNew w' W.heap.size W.heap.size v (keptN hs (Kcut n) hs.length)) :=
        fun W kb hW hkb hK => kept_any base b o c hs pb pc pg po W (HA.out.below hW) HE.out (Kcut n) kb hkb hK
      generalize (spansL hs).length = l at *
      have hm : ∀ w : World, (Instr.makeSlice 70 (.int .i64 l) (.int .i64 l)).run Try.prog w = .ok (.slice (some ⟨w.heap.size, 0, none⟩) l l) (w.alloc (.cells (madeCells #[.bool false] (l * 1)) 4)) := fun w => run_make_known (P := Try.prog) 70 4 (.bool false) 1 1 bs_under b_info l (by omega) (by omega) w
      go_wp2_with fail
      go_loopw [9] (fun i wr => ∃ (j : Nat) (F : Nat → Value), j ≤ l ∧ i = .int .i64 j ∧ Below w1.heap.size w1 wr ∧ w1.heap.size < wr.heap.size ∧ Vals wr w1.heap.size l F ∧ ∀ k, k < j → F k = .bool (Kcut n k)) (fun i _ => l - (intOf i).toNat)
      case atStart => exact ⟨0, fun _ => .bool false, Nat.zero_le _, rfl, below_alloc _ _, by simp, Vals.made w1 l _ _, fun k hk => by omega⟩
      case round =>
        obtain ⟨j, G, hj, rfl, hbw, hsz, hV, hG⟩ := hrel
        have HW : Hid _ := hbw
        have HV : Hid (Vals _ _ _ _) := hV
        have HG : Hid _ := hG
        by_cases hlt : j < l
        · have m0 := hV j hlt
          have j0 : (0 : Int) ≤ (j : Int) := Int.natCast_nonneg _
          have j1 : (j : Int) < (l : Int) := by omega
          clear hbw hV hG
          go_wp2_with fail
          refine ⟨⟨j + 1, _, by omega, by go_num, HW.out.setCell (by simp) _, by simpa using hsz, HV.out.set _ _, fun k hk => ?_⟩, by simp [intOf]; omega⟩
          by_cases e : k = j
          · subst e; rw [putV_same]; rfl
          · rw [putV_other _ _ _ _ e]; exact HG.out k (by omega)
        · obtain rfl : j = l := by omega
          have HC : Hid (Calls _ _ _ _ _) := KP.out wr w1.heap.size (B1.out.trans (hbw.mono z1)) hsz (fun k hk => by rw [(hV k hk).1, hG k hk])
          have B2 : Hid (Below w.heap.size w wr) := B1.out.trans (hbw.mono z1)
          clear hbw hV hG
          go_wp2_with fail
          refine HC.out.mono ?_
          rintro e w3 ⟨v3, rfl, hb3, hE3⟩
          have E3 : Hid _ := hE3
          have B3 : Hid _ := hb3
          clear hE3 hb3
          go_wp2_with fail
          go_ret2
          rw [F.out.1, F.out.2]
          exact ⟨_, rfl, B2.out.trans (B3.out.mono B2.out.size), EvsNew.down E3.out B2.out.size B2.out.size⟩
  · have hn : (hErr hs != 0) = true := by simp [he]
    have F : Hid (cutE hs n = hErr hs ∧ cutL hs n = []) := by unfold cutE cutL; rw [if_pos he, if_pos he]; exact ⟨rfl, rfl⟩
    clear he
    go_enter Try.func13, Try.ntmps13
    go_wp2_with fail
    refine (rCalls_any base b o c hs pb pc pg po _ HA.out).mono ?_
    rintro e w1 ⟨v, rfl, hb, _, hown⟩
    clear hown
    go_wp2_with fail
    go_ret2
    rw [F.out.1, F.out.2]
    exact ⟨_, rfl, hb, EvsNew.nil _ _ _⟩

set_option maxRecDepth 100000 in
set_option maxHeartbeats 1000000 in
theorem rDone_any : Calls Try.prog 14 #[.slice base hs.length c] w fun e w' => ∃ v, e = .returned (.tuple #[v, .int .i64 (hErr hs)]) ∧ Below w.heap.size w w' ∧ EvsNew w' w.heap.size w.heap.size v (doneL hs) := by
  have HA : Hid _ := h
  clear h
  by_cases he : hErr hs = 0
  · have hn : (hErr hs != 0) = false := by simp [he]
    have hsn : (spansL hs).length ≤ 100000 := by obtain ⟨_, s, hst, hsl⟩ := hErr_zero he; rw [hsl]; have := (stN_ok hst).len; omega
    have HE : Hid _ := he
    clear he
    have F : Hid (doneL hs = keptN hs (Kdone hs) hs.length) := by
      have he := HE.out
      show doneL hs = keptN hs (Kdone hs) hs.length
      simp [doneL, he]
    go_enter Try.func14, Try.ntmps14
    go_wp2_with fail
    refine (rCalls_any base b o c hs pb pc pg po _ HA.out).mono ?_
    rintro e w1 ⟨v, rfl, hb, _, hown⟩
    obtain ⟨l1, hm1, ho1, hr1⟩ := hown HE.out
    have hl1 : l1.length = (spansL hs).length := by rw [← hm1, List.length_map]
    obtain ⟨ca, cc, cg, rfl, _, hC1, _⟩ := calls_of_owns ho1
    rw [hl1]
    have hsp : Hid (∀ k, k < (spansL hs).length → w1.cell? ⟨cg, k * 11 + 10, none⟩ = some (.int .i64 (spAt (spansL hs) k).2)) := fun k hk => (hC1.ft hm1 hk).2
    have hcb : Hid ((spansL hs).length ≠ 0 → ca = some ⟨cg, 0, none⟩ ∧ cg < w1.heap.size) := fun q => ⟨hC1.base (by omega), hC1.lt (by omega)⟩
    have B1 : Hid _ := hb
    have z1 := hb.size
    clear hown hm1 ho1 hr1 hb hC1
    have KP : Hid (∀ (W : World) (kb : Nat), Below w.heap.size w W → kb < W.heap.size → (∀ k, k < (spansL hs).length → W.cell? ⟨kb, k, none⟩ = some (.bool (decide ((spAt (spansL hs) k).2 ≠ -1)))) → Calls Try.prog 34 #[.slice base hs.length c, .slice (some ⟨kb, 0, none⟩) (spansL hs).length (spansL hs).length] W fun e w' => ∃ v, e = .returned v ∧ Below W.heap.size W w' ∧ EvsNew w' W.heap.size W.heap.size v (keptN hs (Kdone hs) hs.length)) :=
      fun W kb hW hkb hK => kept_any base b o c hs pb pc pg po W (HA.out.below hW) HE.out (Kdone hs) kb hkb hK
    generalize spansL hs = sp at *
    have hm : ∀ w : World, (Instr.makeSlice 70 (.int .i64 sp.length) (.int .i64 sp.length)).run Try.prog w = .ok (.slice (some ⟨w.heap.size, 0, none⟩) sp.length sp.length) (w.alloc (.cells (madeCells #[.bool false] (sp.length * 1)) 4)) := fun w => run_make_known (P := Try.prog) 70 4 (.bool false) 1 1 bs_under b_info sp.length (by omega) (by omega) w
    go_wp2_with fail
    go_loopw [7] (fun i wr => ∃ (j : Nat) (F : Nat → Value), j ≤ sp.length ∧ i = .int .i64 j ∧ Below w1.heap.size w1 wr ∧ w1.heap.size < wr.heap.size ∧ Vals wr w1.heap.size sp.length F ∧ ∀ k, k < j → F k = .bool (decide ((spAt sp k).2 ≠ -1))) (fun i _ => sp.length - (intOf i).toNat)
    case atStart => exact ⟨0, fun _ => .bool false, Nat.zero_le _, rfl, below_alloc _ _, by simp, Vals.made w1 sp.length _ _, fun k hk => by omega⟩
    case round =>
      obtain ⟨j, G, hj, rfl, hbw, hsz, hV, hG⟩ := hrel
      have HW : Hid _ := hbw
      have HV : Hid (Vals _ _ _ _) := hV
      have HG : Hid _ := hG
      by_cases hlt : j < sp.length
      · have m0 := hV j hlt
        obtain ⟨rfl, hcg⟩ := hcb.out (by omega)
        have s0 := (hbw.cell (p := ⟨cg, j * 11 + 10, none⟩) hcg).trans (hsp.out j hlt)
        have j0 : (0 : Int) ≤ (j : Int) := Int.natCast_nonneg _
        have j1 : (j : Int) < (sp.length : Int) := by omega
        clear hbw hV hG
        go_wp2_with fail
        refine ⟨⟨j + 1, _, by omega, by go_num, HW.out.setCell (by simp) _, by simpa using hsz, HV.out.set _ _, fun k hk => ?_⟩, by simp [intOf]; omega⟩
        by_cases e : k = j
        · subst e; rw [putV_same]; congr 1; rw [Bool.eq_iff_iff]; simp
        · rw [putV_other _ _ _ _ e]; exact HG.out k (by omega)
      · obtain rfl : j = sp.length := by omega
        have HC : Hid (Calls _ _ _ _ _) := KP.out wr w1.heap.size (B1.out.trans (hbw.mono z1)) hsz (fun k hk => by rw [(hV k hk).1, hG k hk])
        have B2 : Hid (Below w.heap.size w wr) := B1.out.trans (hbw.mono z1)
        clear hbw hV hG
        go_wp2_with fail
        refine HC.out.mono ?_
        rintro e w3 ⟨v3, rfl, hb3, hE3⟩
        have E3 : Hid _ := hE3
        have B3 : Hid _ := hb3
        clear hE3 hb3
        go_wp2_with fail
        go_ret2
        rw [HE.out, F.out]
        exact ⟨_, rfl, B2.out.trans (B3.out.mono B2.out.size), EvsNew.down E3.out B2.out.size B2.out.size⟩
  · have hn : (hErr hs != 0) = true := by simp [he]
    have F : Hid (doneL hs = []) := by show doneL hs = []; unfold doneL; rw [if_pos he]
    clear he
    go_enter Try.func14, Try.ntmps14
    go_wp2_with fail
    refine (rCalls_any base b o c hs pb pc pg po _ HA.out).mono ?_
    rintro e w1 ⟨v, rfl, hb, _, hown⟩
    clear hown
    go_wp2_with fail
    go_ret2
    rw [F.out]
    exact ⟨_, rfl, hb, EvsNew.nil _ _ _⟩

theorem Of_new (t : Int) : Calls Try.prog 9 #[.slice base hs.length c, .int .i64 t] w fun e w' => ∃ v, e = .returned (.tuple #[v, .int .i64 (hErr hs)]) ∧ Below w.heap.size w w' ∧ EvsNew w' w.heap.size w.heap.size v (ofL' hs t) := by
  refine (Of_any base b o c hs pb pc pg po w h t).mono ?_
  rintro e w' ⟨v, rfl, hb, h0, h1⟩
  refine ⟨v, rfl, hb, ?_⟩
  unfold ofL'
  by_cases he : hErr hs = 0
  · rw [if_neg (fun q => q he)]; exact h1 he
  · rw [if_pos he, h0 he]; exact EvsNew.nil _ _ _
theorem rOf_new (t : Int) : Calls Try.prog 15 #[.slice base hs.length c, .int .i64 t] w fun e w' => ∃ v, e = .returned (.tuple #[v, .int .i64 (hErr hs)]) ∧ Below w.heap.size w w' ∧ EvsNew w' w.heap.size w.heap.size v (ofL' hs t) := by
  refine (rOf_any base b o c hs pb pc pg po w h t).mono ?_
  rintro e w' ⟨v, rfl, hb, h0, h1⟩
  refine ⟨v, rfl, hb, ?_⟩
  unfold ofL'
  by_cases he : hErr hs = 0
  · rw [if_neg (fun q => q he)]; exact h1 he
  · rw [if_pos he, h0 he]; exact EvsNew.nil _ _ _

end

end Go.Proofs.Ytgbfippcnmpgfaa
