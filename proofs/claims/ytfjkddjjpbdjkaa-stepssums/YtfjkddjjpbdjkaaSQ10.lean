
/- Layer 18, pure: sums and violations of trees. -/

import Derived.Test.YtfjkddjjpbdjkaaSQ8

namespace Go.Proofs.Ytfjkddjjpbdjkaa

/-- The sums of weights to the leaves, from left to right. -/
def BT.sms : BT → Int → List Int
  | .leaf d, a => [a + d.wt]
  | .node d l r, a => l.sms (a + d.wt) ++ r.sms (a + d.wt)
theorem BT.sms_add : ∀ (b : BT) (a d : Int), b.sms (a + d) = (b.sms a).map (· + d)
  | .leaf p, a, d => by simp only [BT.sms, List.map_cons, List.map_nil]; congr 1; omega
  | .node p l r, a, d => by
    simp only [BT.sms, List.map_append]
    rw [show a + d + p.wt = a + p.wt + d by omega, BT.sms_add l, BT.sms_add r]
theorem BT.mir_sms : ∀ (b : BT) (a : Int), b.mir.sms a = (b.sms a).reverse
  | .leaf _, _ => rfl
  | .node p l r, a => by simp only [BT.mir, BT.sms, List.reverse_append, BT.mir_sms l, BT.mir_sms r]
theorem BT.mt_sms (mi : Bool) (b c : BT) {a d : Int} (h : b.sms a = c.sms d) : (b.mt mi).sms a = (c.mt mi).sms d := by
  cases mi
  · exact h
  · show b.mir.sms a = c.mir.sms d
    rw [BT.mir_sms, BT.mir_sms, h]
theorem BT.sms_length : ∀ (b : BT) (a d : Int), (b.sms a).length = (b.sms d).length
  | .leaf _, _, _ => rfl
  | .node p l r, a, d => by simp only [BT.sms, List.length_append, BT.sms_length l _ (d + p.wt), BT.sms_length r _ (d + p.wt)]
theorem BT.sms_pos : ∀ (b : BT) (a : Int), 0 < (b.sms a).length
  | .leaf _, _ => by simp [BT.sms]
  | .node p l r, a => by have := BT.sms_pos l (a + p.wt); simp only [BT.sms, List.length_append]; omega
theorem BT.wset_sms (w : Int) : ∀ (b : BT) (a : Int), (b.wset w).sms a = b.sms (a + w - b.wt)
  | .leaf p, a => by simp only [BT.wset, BT.sms, BT.wt, BT.dat, PD.w]; congr 1; omega
  | .node p l r, a => by simp only [BT.wset, BT.sms, BT.wt, BT.dat, PD.w]; rw [show a + w - p.wt + p.wt = a + w by omega]
theorem sms2 {b : BT} {x y : Int} {L R : List Int} (h : x = y) (h' : L = R) : b.sms x ++ L = b.sms y ++ R := by rw [h, h']
theorem sms1 {b : BT} {x y : Int} (h : x = y) : b.sms x = b.sms y := by rw [h]
theorem step_sms {root : Bool} {k : Int} {b c : BT} (h : StepR root k b c) (hk : k ≠ 12) (a : Int) : c.sms a = b.sms a := by
  cases h with
  | root => exact absurd rfl hk
  | _ =>
    simp only [BT.sms, BT.wset_sms, PD.w, List.append_assoc]
    (repeat' (first | apply sms2 | apply sms1)) <;> omega
/-- The violations of a tree. -/
def BT.z (b : BT) : Int := if b.wt = 0 then 1 else 0
def BT.bad : BT → Int
  | .leaf d => max (d.wt - 1) 0
  | .node d l r => max (d.wt - 1) 0 + ((if l.wt = 0 ∧ d.wt = 0 then 1 else 0) + (if r.wt = 0 ∧ d.wt = 0 then 1 else 0) + l.bad + r.bad)
/-- The children that weigh nothing; the violations below. -/
def BT.zz : BT → Int
  | .leaf _ => 0
  | .node _ l r => l.z + r.z
def BT.rst : BT → Int
  | .leaf _ => 0
  | .node _ l r => l.bad + r.bad
theorem BT.z_01 (b : BT) : 0 ≤ b.z ∧ b.z ≤ 1 := by unfold BT.z; split <;> omega
theorem BT.z_one {b : BT} (h : b.wt = 0) : b.z = 1 := by unfold BT.z; rw [if_pos h]
theorem BT.z_zero {b : BT} (h : b.wt ≠ 0) : b.z = 0 := by unfold BT.z; rw [if_neg h]
theorem BT.zz_nn (b : BT) : 0 ≤ b.zz := by
  cases b with
  | leaf => simp [BT.zz]
  | node d l r => have := l.z_01; have := r.z_01; simp only [BT.zz]; omega
theorem BT.node_bad (d : PD) (l r : BT) : (BT.node d l r).bad = max (d.wt - 1) 0 + (if d.wt = 0 then l.z + r.z else 0) + (l.bad + r.bad) := by
  simp only [BT.bad, BT.z]
  by_cases h : d.wt = 0
  · simp only [h, and_true, if_true]; omega
  · simp only [h, and_false, if_false]; omega
theorem BT.bad_is (b : BT) : b.bad = max (b.wt - 1) 0 + (if b.wt = 0 then b.zz else 0) + b.rst := by
  cases b with
  | leaf d => simp only [BT.bad, BT.wt, BT.dat, BT.zz, BT.rst]; omega
  | node d l r => exact BT.node_bad d l r
theorem BT.wset_bad (a : Int) (b : BT) : (b.wset a).bad = max (a - 1) 0 + (if a = 0 then b.zz else 0) + b.rst := by
  cases b with
  | leaf d => simp only [BT.bad, BT.wset, PD.w, BT.zz, BT.rst, ite_self]; omega
  | node d l r => exact BT.node_bad (d.w a) l r
theorem BT.mir_wt (b : BT) : b.mir.wt = b.wt := by cases b <;> rfl
theorem BT.mir_bad : ∀ b : BT, b.mir.bad = b.bad
  | .leaf _ => rfl
  | .node d l r => by
    have z1 : l.mir.z = l.z := by unfold BT.z; rw [BT.mir_wt]
    have z2 : r.mir.z = r.z := by unfold BT.z; rw [BT.mir_wt]
    simp only [BT.mir, BT.node_bad, BT.mir_bad l, BT.mir_bad r, z1, z2]
    split <;> omega
theorem BT.mt_bad (mi : Bool) (b : BT) : (b.mt mi).bad = b.bad := by
  cases mi
  · rfl
  · exact b.mir_bad
theorem BT.mt_wt (mi : Bool) (b : BT) : (b.mt mi).wt = b.wt := by
  cases mi
  · rfl
  · exact b.mir_wt
theorem BT.wset1_bad (b : BT) : (b.wset 1).bad ≤ b.bad := by
  rw [BT.wset_bad, BT.bad_is]
  have := b.zz_nn
  split <;> split <;> omega
theorem zz_some {l : BT} (h : bwO (blO (some l)) = 0 ∨ bwO (brO (some l)) = 0) : 1 ≤ l.zz := by
  cases l with
  | leaf d => simp [blO, brO, bwO] at h
  | node d a c =>
    have := a.z_01; have := c.z_01
    simp only [BT.zz]
    rcases h with h | h
    · have := BT.z_one (b := a) h; omega
    · have := BT.z_one (b := c) h; omega
/-- Kinds behind which there are less. -/
def lessK (k : Int) : Bool := decide (k = 2 ∨ k = 3 ∨ (5 ≤ k ∧ k ≤ 11))
theorem BT.node_wt (d : PD) (l r : BT) : (BT.node d l r).wt = d.wt := rfl
theorem BT.node_z (d : PD) (l r : BT) : (BT.node d l r).z = if d.wt = 0 then 1 else 0 := rfl
theorem BT.wset_z (a : Int) (b : BT) : (b.wset a).z = if a = 0 then 1 else 0 := by unfold BT.z; rw [BT.wset_wt]
set_option maxHeartbeats 2000000 in
theorem step_bad {root : Bool} {k : Int} {b c : BT} (h : StepR root k b c) (hb : b.ok) : c.bad ≤ b.bad ∧ c.z + c.bad ≤ b.z + b.bad + (if k = 12 then 1 else 0) ∧ (lessK k = true → c.bad < b.bad ∧ c.z + c.bad < b.z + b.bad) := by
  have W : ∀ {a : BT}, a.ok → 0 ≤ a.wt := fun h => (BT.ok_wt h).1
  cases h with
  | @blk x l r h1 h2 h3 h4 =>
    have := hb.1.2
    have e1 : 1 ≤ l.zz + r.zz := by
      have := l.zz_nn; have := r.zz_nn
      rcases h4 with h | h | h | h
      · have := zz_some (Or.inl h); omega
      · have := zz_some (Or.inr h); omega
      · have := zz_some (Or.inl h); omega
      · have := zz_some (Or.inr h); omega
    simp only [BT.node_bad, BT.wset_bad, BT.bad_is l, BT.bad_is r, h1, h2, BT.node_z, BT.wset_z, BT.z_one h1, BT.z_one h2, PD.w, lessK]
    refine ⟨?_, ?_, fun q => ?_⟩
    · simp; (repeat' split) <;> omega
    · simp; (repeat' split) <;> omega
    · simp at q
  | @rb1 x l ll lr r h1 h2 h3 h4 =>
    have wx := hb.1.2
    have zf_lr := lr.z_01
    have ze_ll := BT.z_one (b := ll) h3
    have ze_r := BT.z_zero (b := r) (by omega)
    simp only [BT.node_bad, BT.node_z, PD.w, lessK, h2, ze_ll, ze_r]
    refine ⟨?_, ?_, fun _ => ⟨?_, ?_⟩⟩ <;> simp <;> (repeat' split) <;> omega
  | @rb2 x l lr ll lrl lrr r h1 h2 h3 h4 h5 =>
    have wx := hb.1.2
    have zf_lrl := lrl.z_01
    have zf_lrr := lrr.z_01
    have ze_ll := BT.z_zero (b := ll) (by omega)
    have ze_r := BT.z_zero (b := r) (by omega)
    simp only [BT.node_bad, BT.node_z, PD.w, lessK, h2, h3, ze_ll, ze_r]
    refine ⟨?_, ?_, fun _ => ⟨?_, ?_⟩⟩ <;> simp <;> (repeat' split) <;> omega
  | @push x r l rl rr h1 h2 h3 h4 =>
    have wx := hb.1.2
    have zn_l := l.zz_nn
    have ze_l := BT.z_zero (b := l) (by omega)
    have ze_rl := BT.z_zero (b := rl) (by omega)
    have ze_rr := BT.z_zero (b := rr) (by omega)
    simp only [BT.node_bad, BT.wset_bad, BT.bad_is l, BT.node_z, BT.wset_z, PD.w, lessK, h2, ze_l, ze_rl, ze_rr]
    refine ⟨?_, ?_, fun q => by simp at q⟩ <;> simp <;> (repeat' split) <;> omega
  | @w1 x r l rl rr h1 h2 h3 =>
    have wx := hb.1.2
    have zf_rr := rr.z_01
    have zn_l := l.zz_nn
    have zn_rl := rl.zz_nn
    have ze_l := BT.z_zero (b := l) (by omega)
    have ze_rl := BT.z_zero (b := rl) (by omega)
    simp only [BT.node_bad, BT.wset_bad, BT.bad_is l, BT.bad_is rl, BT.node_z, BT.wset_z, PD.w, lessK, h2, ze_l, ze_rl]
    refine ⟨?_, ?_, fun _ => ⟨?_, ?_⟩⟩ <;> simp <;> (repeat' split) <;> omega
  | @w2 x r rl l rll rlr rr h1 h2 h3 h4 h5 =>
    have wx := hb.1.2
    have zf_rr := rr.z_01
    have zn_l := l.zz_nn
    have ze_l := BT.z_zero (b := l) (by omega)
    have ze_rll := BT.z_zero (b := rll) (by omega)
    have ze_rlr := BT.z_zero (b := rlr) (by omega)
    simp only [BT.node_bad, BT.wset_bad, BT.bad_is l, BT.node_z, BT.wset_z, PD.w, lessK, h2, h3, ze_l, ze_rll, ze_rlr]
    refine ⟨?_, ?_, fun _ => ⟨?_, ?_⟩⟩ <;> simp <;> (repeat' split) <;> omega
  | @w3 x r rl rll l rlll rllr rlr rr h1 h2 h3 h4 h5 =>
    have wx := hb.1.2
    have zf_rr := rr.z_01
    have zf_rlll := rlll.z_01
    have zf_rllr := rllr.z_01
    have zn_l := l.zz_nn
    have ze_l := BT.z_zero (b := l) (by omega)
    have ze_rlr := BT.z_zero (b := rlr) (by omega)
    simp only [BT.node_bad, BT.wset_bad, BT.bad_is l, BT.node_z, BT.wset_z, PD.w, lessK, h2, h3, h4, ze_l, ze_rlr]
    refine ⟨?_, ?_, fun _ => ⟨?_, ?_⟩⟩ <;> simp <;> (repeat' split) <;> omega
  | @w4 x r rl l rll rlr rr h1 h2 h3 h4 =>
    have wx := hb.1.2
    have zf_rr := rr.z_01
    have zf_rll := rll.z_01
    have zn_l := l.zz_nn
    have zn_rlr := rlr.zz_nn
    have ze_l := BT.z_zero (b := l) (by omega)
    have ze_rlr := BT.z_one (b := rlr) h4
    simp only [BT.node_bad, BT.wset_bad, BT.bad_is l, BT.bad_is rlr, BT.node_z, BT.wset_z, PD.w, lessK, h2, h3, h4, ze_l, ze_rlr]
    refine ⟨?_, ?_, fun _ => ⟨?_, ?_⟩⟩ <;> simp <;> (repeat' split) <;> omega
  | @w5 x r l rl rr h1 h2 h3 =>
    have wx := hb.1.2
    have zf_rl := rl.z_01
    have zn_l := l.zz_nn
    have zn_rr := rr.zz_nn
    have ze_l := BT.z_zero (b := l) (by omega)
    have ze_rr := BT.z_one (b := rr) h3
    simp only [BT.node_bad, BT.wset_bad, BT.bad_is l, BT.bad_is rr, BT.node_z, BT.wset_z, PD.w, lessK, h2, h3, ze_l, ze_rr]
    refine ⟨?_, ?_, fun _ => ⟨?_, ?_⟩⟩ <;> simp <;> (repeat' split) <;> omega
  | @w6 x r rl l rll rlr rr h1 h2 h3 h4 =>
    have wx := hb.1.2
    have zf_rll := rll.z_01
    have zf_rlr := rlr.z_01
    have zn_l := l.zz_nn
    have ze_l := BT.z_zero (b := l) (by omega)
    have ze_rr := BT.z_zero (b := rr) (by omega)
    simp only [BT.node_bad, BT.wset_bad, BT.bad_is l, BT.node_z, BT.wset_z, PD.w, lessK, h2, h3, ze_l, ze_rr]
    refine ⟨?_, ?_, fun _ => ⟨?_, ?_⟩⟩ <;> simp <;> (repeat' split) <;> omega
  | @w7 x l r h1 h2 =>
    have wx := hb.1.2
    have zn_l := l.zz_nn
    have zn_r := r.zz_nn
    have ze_l := BT.z_zero (b := l) (by omega)
    have ze_r := BT.z_zero (b := r) (by omega)
    simp only [BT.node_bad, BT.wset_bad, BT.bad_is l, BT.bad_is r, BT.node_z, BT.wset_z, PD.w, lessK, ze_l, ze_r]
    refine ⟨?_, ?_, fun _ => ⟨?_, ?_⟩⟩ <;> simp <;> (repeat' split) <;> omega
  | root h1 h2 =>
    have w1 := W hb
    have := b.zz_nn
    refine ⟨b.wset1_bad, ?_, fun q => by simp [lessK] at q⟩
    have := b.wset1_bad
    simp only [BT.z, BT.wset_wt]
    simp
    split <;> omega
end Go.Proofs.Ytfjkddjjpbdjkaa
