
/- Layer 17: Heavy, whole. -/

import Derived.Test.YtiencggnijfjoaaWHeavy

namespace Go.Proofs.Ytiencggnijfjoaa

open Go.RowKit

attribute [local go_sem ↓] Go.wp_at_zero Go.wp_at_succ

theorem keys_room2 {t : NL} : (keysA t).length = 0 ∨ (keysA t).length + 2 ≤ t.length := by
  by_cases h : (rootR t).2 = 0
  · exact Or.inr (keys_room h)
  · exact Or.inl (by unfold keysA; rw [if_neg h]; rfl)
set_option maxRecDepth 100000 in
set_option maxHeartbeats 1000000 in
theorem Heavy_any (base : Option Addr) (b o c : Nat) (t : NL) (bw : Option Addr) (gw ow cw : Nat) (W : List Int) (w : World) (h : NodesAt w base b o t) (hw : WsAt w bw gw ow W) :
    Calls Try.prog 35 #[.slice base t.length c, .slice bw W.length cw] w fun e w' => ∃ v, e = .returned (.tuple #[v, .int .i64 (heavyE t W)]) ∧ w'.ownsRow w.heap.size 54 6 v (heavyA t W).length (ndCells (heavyA t W)) ∧ Below w.heap.size w w' := by
  have HA : Hid (NodesAt _ _ _ _ _) := h
  have HW : Hid (WsAt _ _ _ _ _) := hw
  have lw := hw.len
  unfold maxLen at lw
  clear h hw
  by_cases he : keyE t = 0
  · have d : (keyE t != 0) = false := by simp [he]
    have hfe := keyE_form he
    obtain ⟨hbig, hf⟩ := formE_ok hfe
    have hpos := hf.pos
    have HFE : Hid (formE t = 0) := hfe
    have hnl : (normL t).length = t.length := by rw [normL_ok hfe, partL_length]; exact (theL_form hf).2.2
    have HNL : Hid ((normL t).length = t.length) := hnl
    have hroom := keys_room2 (t := t)
    have HE : Hid (keyE t = 0) := he
    by_cases hl : W.length = (keysA t).length
    · have dl : ((W.length : Int) != ((keysA t).length : Int)) = false := by rw [hl]; simp
      cases ha : W.any noW
      · have HQ : Hid (W.any noW = false) := ha
        have FE : Hid (heavyE t W = 0) := by show heavyE t W = _; unfold heavyE; rw [if_neg (by simp [he]), if_neg (by simp [hl, ha])]
        have FA : Hid (heavyA t W = wtN (normL t) W W.length) := by show heavyA t W = _; unfold heavyA; rw [if_pos FE.out]
        have hwr : W.length = 0 ∨ W.length + 2 ≤ t.length := by omega
        clear he ha hfe hf hroom hnl hl
        go_enter Try.func35, Try.ntmps35
        go_wp2_with fail
        refine (keysOf_any base b o c t _ HA.out).mono ?_
        rintro e w1 ⟨v1, rfl, ho1, hb1⟩
        obtain ⟨bs1, cp1, rfl⟩ := own_slice ho1
        have B1 : Hid (Below w.heap.size w w1) := hb1
        clear ho1 hb1
        generalize (keysA t).length = kl at *
        go_wp2_with (first | (go_at_call 61; refine (containsW_any bw gw ow cw W _ (HW.out.below B1.out)).mono ?_; rintro e w2 ⟨rfl, hb2⟩; rw [HQ.out]; have B2 : Hid (Below w.heap.size w w2) := B1.out.trans (hb2.mono B1.out.size); clear hb2))
        refine (norm_any base b o c t _ (HA.out.below B2.out)).mono ?_
        rintro e w3 ⟨v3, rfl, ho3, hb3⟩
        obtain ⟨g3, c3, rfl, hg1, hg2, -⟩ := owns_some ho3 (by rw [HNL.out]; exact hpos)
        have T0 : Hid (MAt w2 w3 g3 c3 (wtN (normL t) W 0)) := ⟨ho3, hb3⟩
        have HLN : Hid (∀ m, (wtN (normL t) W m).length = t.length) := fun m => by rw [wtN_length]; exact HNL.out
        have HST : Hid (∀ m, wtN (normL t) W (m + 1) = setW (wtN (normL t) W m) (2 + m) (W.getD m 0)) := fun _ => rfl
        rw [HFE.out, HNL.out]
        clear ho3 hb3
        generalize wtN (normL t) W = T at *
        go_wp2_with fail
        go_loopw [35] (fun i wr => ∃ m : Nat, m ≤ W.length ∧ i = .int .i64 m ∧ MAt w2 wr g3 c3 (T m)) (fun i _ => W.length - (intOf i).toNat)
        case atStart => exact ⟨0, Nat.zero_le _, rfl, T0.out⟩
        case round =>
          obtain ⟨m, hm, rfl, hT⟩ := hrel
          have TM : Hid (MAt _ _ _ _ _) := hT
          have BW : Hid (Below w.heap.size w wr) := B2.out.trans (hT.below.mono B2.out.size)
          obtain ⟨-, hgl⟩ := hT.lt
          by_cases hlm : m < W.length
          · obtain rfl : bw = some ⟨gw, ow, none⟩ := HW.out.base (by omega)
            have hgw := HW.out.lt (by omega)
            have p0 := (HW.out.below BW.out).cells m hlm
            have hgr : gw < wr.heap.size := by have := BW.out.size; omega
            have m0 : (0 : Int) ≤ (m : Int) := Int.natCast_nonneg _
            have m1 : (m : Int) < (W.length : Int) := by omega
            have i0 : (0 : Int) ≤ ((2 + m : Nat) : Int) := Int.natCast_nonneg _
            have hmt : 2 + m < t.length := by omega
            have i1 : ((2 + m : Nat) : Int) < (t.length : Int) := by omega
            have ew : IntKind.i64.wrap (2 + (m : Int)) = ((2 + m : Nat) : Int) := by rw [wrap_ok _ (by omega) (by omega)]; omega
            have hmN : 2 + m < (T m).length := by rw [HLN.out]; exact hmt
            obtain ⟨c0, f0⟩ := hT.wt (2 + m) hmN
            have ST : Hid (MAt w2 _ g3 c3 (T (m + 1))) := (by rw [HST.out m]; exact hT.putW (2 + m) (W.getD m 0) hmN hg1)
            clear hT
            generalize W.getD m 0 = y at *
            generalize hq2 : 2 + m = q at *
            go_wp2_with fail
            exact ⟨⟨m + 1, by omega, by go_num, ST.out⟩, by simp [intOf]; omega⟩
          · obtain rfl : m = W.length := by omega
            clear hT
            go_wp2_with fail
            go_ret2
            refine ⟨_, by rw [FE.out]; rfl, ?_, BW.out⟩
            rw [FA.out, HLN.out]
            have := TM.out.own
            rw [HLN.out] at this
            exact owns_down this B2.out.size
      · have HQ : Hid (W.any noW = true) := ha
        have FE : Hid (heavyE t W = 1) := by show heavyE t W = _; unfold heavyE; rw [if_neg (by simp [he]), if_pos (Or.inr ha)]
        have FA : Hid (heavyA t W = []) := by show heavyA t W = _; unfold heavyA; rw [if_neg (by rw [FE.out]; simp)]
        clear he ha hfe hf hroom hnl hl
        go_enter Try.func35, Try.ntmps35
        go_wp2_with fail
        refine (keysOf_any base b o c t _ HA.out).mono ?_
        rintro e w1 ⟨v1, rfl, ho1, hb1⟩
        obtain ⟨bs1, cp1, rfl⟩ := own_slice ho1
        have B1 : Hid (Below w.heap.size w w1) := hb1
        clear ho1 hb1
        generalize (keysA t).length = kl at *
        go_wp2_with (first | (go_at_call 61; refine (containsW_any bw gw ow cw W _ (HW.out.below B1.out)).mono ?_; rintro e w2 ⟨rfl, hb2⟩; rw [HQ.out]; have B2 : Hid (Below w.heap.size w w2) := B1.out.trans (hb2.mono B1.out.size); clear hb2))
        go_ret2
        exact ⟨_, by rw [FE.out]; rfl, by rw [FA.out]; exact World.ownsRow_nil _ _ _ _, B2.out⟩
    · have dl : ((W.length : Int) != ((keysA t).length : Int)) = true := by simp; omega
      have FE : Hid (heavyE t W = 1) := by show heavyE t W = _; unfold heavyE; rw [if_neg (by simp [he]), if_pos (Or.inl hl)]
      have FA : Hid (heavyA t W = []) := by show heavyA t W = _; unfold heavyA; rw [if_neg (by rw [FE.out]; simp)]
      clear he hfe hf hroom hnl
      go_enter Try.func35, Try.ntmps35
      go_wp2_with fail
      refine (keysOf_any base b o c t _ HA.out).mono ?_
      rintro e w1 ⟨v1, rfl, ho1, hb1⟩
      obtain ⟨bs1, cp1, rfl⟩ := own_slice ho1
      have B1 : Hid (Below w.heap.size w w1) := hb1
      clear ho1 hb1
      generalize (keysA t).length = kl at *
      go_wp2_with fail
      go_ret2
      exact ⟨_, by rw [FE.out]; rfl, by rw [FA.out]; exact World.ownsRow_nil _ _ _ _, B1.out⟩
  · have d : (keyE t != 0) = true := by simp [he]
    have FE : Hid (heavyE t W = keyE t) := by show heavyE t W = _; unfold heavyE; rw [if_pos he]
    have FA : Hid (heavyA t W = []) := by show heavyA t W = _; unfold heavyA; rw [if_neg (by rw [FE.out]; exact he)]
    clear he
    go_enter Try.func35, Try.ntmps35
    go_wp2_with (first | (go_at_call 44; refine (keysOf_any base b o c t _ HA.out).mono ?_; rintro e w1 ⟨v1, rfl, -, hb1⟩; have B1 : Hid (Below w.heap.size w w1) := hb1; clear hb1))
    go_ret2
    exact ⟨_, by rw [FE.out]; rfl, by rw [FA.out]; exact World.ownsRow_nil _ _ _ _, B1.out⟩
end Go.Proofs.Ytiencggnijfjoaa
