
/- Layer 17: keysOf. -/

import Derived.Test.YtiencggnijfjoaaWPure

namespace Go.Proofs.Ytiencggnijfjoaa

open Go.RowKit

attribute [local go_sem ↓] Go.wp_at_zero Go.wp_at_succ

theorem MAt.key {w0 x : World} {g cap : Nat} {T : NL} (h : MAt w0 x g cap T) (i : Nat) (hi : i < T.length) : (x.cell? ⟨g, i * 6, none⟩ = some (.int .i64 (ndAt T i).key) ∧ x.frozen? ⟨g, i * 6, none⟩ = false) ∧ x.cell? ⟨g, i * 6 + 1, none⟩ = some (.int .i64 (ndAt T i).inf) := by
  obtain ⟨g', cap', hv, -, -, -, -, hc, hfr⟩ := owns_some h.own (by omega)
  injection hv with e1 _ _
  injection e1 with e1
  injection e1 with e1 _ _
  subst e1
  obtain ⟨b0, b1, -⟩ := ndCells_get T i hi
  exact ⟨⟨(hc _ (by omega)).trans b0, hfr _⟩, (hc _ (by omega)).trans b1⟩
theorem MAt.putK {w0 x : World} {g cap : Nat} {T : NL} (h : MAt w0 x g cap T) (i : Nat) (a : Int) (hi : i < T.length) (hg : w0.heap.size ≤ g) : MAt w0 (x.setCell ⟨g, i * 6, none⟩ (.int .i64 a)) g cap (setK T i a) := by
  refine ⟨?_, h.below.setCell hg _⟩
  unfold setK
  rw [ndCells_setK 0 (.int .i64 a) T i _ hi (by omega) (fun j hj hn => by
    have c : j = 1 ∨ j = 2 ∨ j = 3 ∨ j = 4 ∨ j = 5 := by omega
    rcases c with rfl | rfl | rfl | rfl | rfl <;> rfl) rfl, List.length_set]
  exact owns_put h.own _ _
set_option maxRecDepth 100000 in
set_option maxHeartbeats 1000000 in
theorem keysOf_any (base : Option Addr) (b o c : Nat) (t : NL) (w : World) (h : NodesAt w base b o t) :
    Calls Try.prog 44 #[.slice base t.length c] w fun e w' => ∃ v, e = .returned (.tuple #[v, .int .i64 (keyE t)]) ∧ w'.ownsRow w.heap.size 54 6 v (keysA t).length (ndCells (keysA t)) ∧ Below w.heap.size w w' := by
  have HA : Hid (NodesAt _ _ _ _ _) := h
  clear h
  by_cases h4 : (rootR t).2 = 4
  · have F : Hid (keysA t = []) := by show keysA t = _; unfold keysA; rw [if_neg (by omega)]
    have FE : Hid (keyE t = 0) := by show keyE t = _; unfold keyE; rw [if_pos h4]
    have H4 : Hid ((rootR t).2 = 4) := h4
    clear h4
    go_enter Try.func44, Try.ntmps44
    go_wp2_with (first | (go_at_call 66; refine (Root_any _ b o c t _ HA.out).mono ?_; rintro e w1 ⟨rfl, hb1⟩; rw [H4.out]; have B1 : Hid (Below w.heap.size w w1) := hb1; clear hb1))
    go_ret2
    refine ⟨_, by rw [FE.out]; rfl, ?_, B1.out⟩
    rw [F.out]
    exact World.ownsRow_nil _ _ _ _
  · by_cases h0 : (rootR t).2 = 0
    · have he := rootR_form h0
      obtain ⟨hbig, hf⟩ := formE_ok he
      have hpos := hf.pos
      obtain rfl : base = some ⟨b, o, none⟩ := HA.out.base (by omega)
      have FE : Hid (keyE t = 0) := by show keyE t = _; unfold keyE; rw [if_neg h4, h0]
      have FA : Hid (keysA t = subL (namL t) (rootR t).1) := by show keysA t = _; unfold keysA; rw [if_pos h0]
      obtain ⟨x, hx, hxl⟩ := root_at h0
      have FS : Hid (subE (namL t) (rootR t).1 = 0) := by
        show subE _ _ = _
        unfold subE
        rw [if_neg (by simp [namL_formE he]), if_pos ⟨by rw [hx]; simp, by rw [hx, namL_length]; simpa using hxl⟩]
      have H0 : Hid ((rootR t).2 = 0) := h0
      have HLN : Hid (∀ m, (namN t m).length = t.length) := namN_length t
      have HLL : Hid ((namL t).length = t.length) := namL_length t
      clear h4 h0 he hf hx
      go_enter Try.func44, Try.ntmps44
      go_wp2_with (first | (go_at_call 66; refine (Root_any _ b o c t _ HA.out).mono ?_; rintro e w1 ⟨rfl, hb1⟩; rw [H0.out]; have B1 : Hid (Below w.heap.size w w1) := hb1; have hz1 := hb1.size; clear hb1) | (go_at_call 67; refine (nclone_any _ b o c t _ (HA.out.below B1.out) hpos (by omega)).mono ?_; rintro e w2 ⟨g2, c2, rfl, ho2, hb2⟩; have T0 : Hid (MAt w1 w2 g2 c2 (namN t 0)) := ⟨(by rw [namN_zero]; exact ho2), hb2⟩; have hz2 := hb2.size; obtain ⟨hg1, hg2⟩ := owns_lt ho2 g2 rfl; clear hb2 ho2))
      go_loopw [22] (fun i wr => ∃ m : Nat, m ≤ t.length ∧ i = .int .i64 m ∧ MAt w1 wr g2 c2 (namN t m)) (fun i _ => t.length - (intOf i).toNat)
      case atStart => exact ⟨0, Nat.zero_le _, rfl, T0.out⟩
      case round =>
        obtain ⟨m, hm, rfl, hT⟩ := hrel
        have TM : Hid (MAt _ _ _ _ _) := hT
        obtain ⟨-, hgl⟩ := hT.lt
        by_cases hlm : m < t.length
        · have m0 : (0 : Int) ≤ (m : Int) := Int.natCast_nonneg _
          have m1 : (m : Int) < (t.length : Int) := by omega
          have hmN : m < (namN t m).length := by rw [HLN.out]; exact hlm
          obtain ⟨c0, c1⟩ := hT.key m hmN
          rw [namN_at t m m hlm, if_neg (by omega)] at c0 c1
          by_cases hi : (ndAt t m).inf = 0
          · have ST : Hid (MAt w1 _ g2 c2 (namN t (m + 1))) := (by rw [← namN_succ t m hlm hi]; exact hT.putK m (m : Int) hmN hg1)
            have d : ((ndAt t m).inf == 0) = true := by simp [hi]
            clear hT hi
            generalize (ndAt t m).inf = k1 at *
            go_wp2_with fail
            exact ⟨⟨m + 1, by omega, by go_num, ST.out⟩, by simp [intOf]; omega⟩
          · have HS : Hid (namN t (m + 1) = namN t m) := namN_same t m hlm hi
            have d : ((ndAt t m).inf == 0) = false := by simp [hi]
            clear hT hi
            generalize (ndAt t m).inf = k1 at *
            go_wp2_with fail
            exact ⟨⟨m + 1, by omega, by go_num, by rw [HS.out]; exact TM.out⟩, by simp [intOf]; omega⟩
        · obtain rfl : m = t.length := by omega
          have BW : Hid (Below w.heap.size w wr) := B1.out.trans (hT.below.mono B1.out.size)
          have TA : Hid (MAt w1 wr g2 c2 (namL t)) := hT
          clear hT
          go_wp2_with fail
          have hc := Sub_any (some ⟨g2, 0, none⟩) g2 0 c2 (namL t) (rootR t).1 wr TA.out.nodes
          rw [HLL.out] at hc
          refine hc.mono ?_
          rintro e w3 ⟨v3, rfl, ho3, hb3⟩
          have O3 : Hid (World.ownsRow _ _ _ _ _ _ _) := ho3
          have B3 : Hid (Below w.heap.size w w3) := BW.out.trans (hb3.mono BW.out.size)
          rw [FS.out]
          clear ho3 hb3 hc
          go_wp2_with fail
          go_ret2
          refine ⟨_, by rw [FE.out]; rfl, ?_, B3.out⟩
          rw [FA.out]
          exact owns_down O3.out BW.out.size
    · have F : Hid (keysA t = []) := by show keysA t = _; unfold keysA; rw [if_neg h0]
      have FE : Hid (keyE t = (rootR t).2) := by show keyE t = _; unfold keyE; rw [if_neg h4]
      have d4 : ((rootR t).2 == 4) = false := by simp [h4]
      have d0 : ((rootR t).2 != 0) = true := by simp [h0]
      clear h4 h0
      go_enter Try.func44, Try.ntmps44
      go_wp2_with (first | (go_at_call 66; refine (Root_any _ b o c t _ HA.out).mono ?_; rintro e w1 ⟨rfl, hb1⟩; have B1 : Hid (Below w.heap.size w w1) := hb1; clear hb1))
      go_ret2
      refine ⟨_, by rw [FE.out]; rfl, ?_, B1.out⟩
      rw [F.out]
      exact World.ownsRow_nil _ _ _ _
end Go.Proofs.Ytiencggnijfjoaa
