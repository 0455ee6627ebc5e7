
/- Layer 18, pure: mirrors of tables; the whole of a change. -/

import Derived.Test.YtfjkddjjpbdjkaaSQ4

import Derived.Test.YtfjkddjjpbdjkaaSSt5

import Derived.Test.YtfjkddjjpbdjkaaSMir

namespace Go.Proofs.Ytfjkddjjpbdjkaa

/-- A table, a tree as a move sees it. -/
def mt (mi : Bool) (t : NL) : NL := if mi then mirL t else t
def BT.mt (mi : Bool) (b : BT) : BT := if mi then b.mir else b
def swp (mi : Bool) (n : NdD) : NdD := if mi then swapD n else n
theorem mt_length (mi : Bool) (t : NL) : (mt mi t).length = t.length := by cases mi <;> simp [mt, mirL_length]
theorem mt_at (mi : Bool) (t : NL) (p : Nat) (h : p < t.length) : ndAt (mt mi t) p = swp mi (ndAt t p) := by
  cases mi
  · rfl
  · exact mirL_at t p h
theorem mt_set (mi : Bool) (t : NL) (p : Nat) (n : NdD) : mt mi (t.set p n) = (mt mi t).set p (swp mi n) := by
  cases mi
  · rfl
  · simp [mt, mirL, swp, List.map_set]
theorem swp_swp (mi : Bool) (n : NdD) : swp mi (swp mi n) = n := by cases mi <;> rfl
theorem mt_mt (mi : Bool) (t : NL) : mt mi (mt mi t) = t := by
  cases mi
  · rfl
  · simp only [mt, if_true, mirL, List.map_map]
    conv => rhs; rw [← List.map_id t]
    rfl
theorem BT.mt_mt (mi : Bool) (b : BT) : (b.mt mi).mt mi = b := by
  cases mi
  · rfl
  · exact b.mir_mir
theorem BT.mt_size (mi : Bool) (b : BT) : (b.mt mi).size = b.size := by
  cases mi
  · rfl
  · exact b.mir_size
theorem BT.mt_ok (mi : Bool) {b : BT} (h : b.ok) : (b.mt mi).ok := by
  cases mi
  · exact h
  · exact BT.mir_ok h
theorem AT.mt (mi : Bool) {t : NL} {p : Nat} {b : BT} {M : List Nat} (h : AT t p b M) : ∃ M', AT (mt mi t) p (b.mt mi) M' ∧ M'.Perm M := by
  cases mi
  · exact ⟨M, h, List.Perm.refl _⟩
  · obtain ⟨M', h1, h2⟩ := mir_tree h.tree
    exact ⟨M', ⟨mir_abs h.abs, h1⟩, h2⟩
theorem hang_at (t : NL) (x top : Int) (T : NL) (hT : T.length = t.length) (p : Nat) (hp : p < t.length) : ∀ n, ndAt (hangN t x top T n) p = if p < n then (if (ndAt t p).l = x then ⟨(ndAt T p).key, (ndAt T p).inf, (ndAt T p).wt, (ndAt T p).val, top, (ndAt T p).r⟩ else if (ndAt t p).r = x then ⟨(ndAt T p).key, (ndAt T p).inf, (ndAt T p).wt, (ndAt T p).val, (ndAt T p).l, top⟩ else ndAt T p) else ndAt T p
  | 0 => by simp [hangN]
  | n + 1 => by
    have ih := hang_at t x top T hT p hp n
    have hl := hangN_length t x top T n
    by_cases e : p = n
    · subst e
      rw [if_neg (by omega)] at ih
      rw [if_pos (by omega)]
      unfold hangN
      by_cases q1 : (ndAt t p).l = x
      · rw [if_pos q1, if_pos q1]
        unfold setL
        rw [ndAt_set _ _ _ (by omega), ih]
      · rw [if_neg q1, if_neg q1]
        by_cases q2 : (ndAt t p).r = x
        · rw [if_pos q2, if_pos q2]
          unfold setR
          rw [ndAt_set _ _ _ (by omega), ih]
        · rw [if_neg q2, if_neg q2]; exact ih
    · have ih' : ndAt (hangN t x top T (n + 1)) p = ndAt (hangN t x top T n) p := by
        conv => lhs; unfold hangN
        by_cases q1 : (ndAt t n).l = x
        · rw [if_pos q1]; unfold setL; exact ndAt_set_of_ne _ _ _ _ e
        · rw [if_neg q1]
          by_cases q2 : (ndAt t n).r = x
          · rw [if_pos q2]; unfold setR; exact ndAt_set_of_ne _ _ _ _ e
          · rw [if_neg q2]
      rw [ih', ih]
      by_cases q : p < n
      · rw [if_pos q, if_pos (show p < n + 1 by omega)]
      · rw [if_neg q, if_neg (show ¬ p < n + 1 by omega)]
/-- All weights but the top's stay within the limits. -/
theorem step_ok {root : Bool} {k : Int} {b b' : BT} (h : StepR root k b b') (hb : b.ok) {a : Int} (h0 : 0 ≤ a) (h1 : a ≤ 1000000) : (b'.wset a).ok := by
  cases h with
  | blk => exact ⟨⟨hb.1.1, h0, h1⟩, hb.2.1, BT.wset_ok (by omega) (by omega) hb.2.2.1, BT.wset_ok (by omega) (by omega) hb.2.2.2⟩
  | rb1 =>
    obtain ⟨x1, x2, ⟨l1, l2, l3, l4⟩, r1⟩ := hb
    exact ⟨⟨l1.1, h0, h1⟩, l2, l3, ⟨x1.1, by simp [PD.w], by simp [PD.w]⟩, x2, l4, r1⟩
  | rb2 =>
    obtain ⟨x1, x2, ⟨l1, l2, l3, ⟨m1, m2, m3, m4⟩⟩, r1⟩ := hb
    exact ⟨⟨m1.1, h0, h1⟩, m2, ⟨⟨l1.1, by simp [PD.w], by simp [PD.w]⟩, l2, l3, m3⟩, ⟨x1.1, by simp [PD.w], by simp [PD.w]⟩, x2, m4, r1⟩
  | push hl =>
    obtain ⟨x1, x2, l1, ⟨r1, r2, r3, r4⟩⟩ := hb
    have := BT.ok_wt l1
    exact ⟨⟨x1.1, h0, h1⟩, x2, BT.wset_ok (by omega) (by omega) l1, ⟨r1.1, by simp [PD.w], by simp [PD.w]⟩, r2, r3, r4⟩
  | w1 hl _ hrl =>
    obtain ⟨x1, x2, l1, ⟨r1, r2, r3, r4⟩⟩ := hb
    have := BT.ok_wt l1
    have := BT.ok_wt r3
    exact ⟨⟨r1.1, h0, h1⟩, r2, ⟨⟨x1.1, by simp [PD.w], by simp [PD.w]⟩, x2, BT.wset_ok (by omega) (by omega) l1, BT.wset_ok (by omega) (by omega) r3⟩, r4⟩
  | w2 hl =>
    obtain ⟨x1, x2, l1, ⟨r1, r2, ⟨m1, m2, m3, m4⟩, r4⟩⟩ := hb
    have := BT.ok_wt l1
    exact ⟨⟨r1.1, h0, h1⟩, r2, ⟨⟨x1.1, by simp [PD.w], by simp [PD.w]⟩, x2, BT.wset_ok (by omega) (by omega) l1, ⟨m1.1, by simp [PD.w], by simp [PD.w]⟩, m2, m3, m4⟩, r4⟩
  | w3 hl =>
    obtain ⟨x1, x2, l1, ⟨r1, r2, ⟨m1, m2, ⟨n1, n2, n3, n4⟩, m4⟩, r4⟩⟩ := hb
    have := BT.ok_wt l1
    exact ⟨⟨r1.1, h0, h1⟩, r2, ⟨⟨n1.1, by simp [PD.w], by simp [PD.w]⟩, n2, ⟨⟨x1.1, by simp [PD.w], by simp [PD.w]⟩, x2, BT.wset_ok (by omega) (by omega) l1, n3⟩, ⟨m1.1, by simp [PD.w], by simp [PD.w]⟩, m2, n4, m4⟩, r4⟩
  | w4 hl =>
    obtain ⟨x1, x2, l1, ⟨r1, r2, ⟨m1, m2, m3, m4⟩, r4⟩⟩ := hb
    have := BT.ok_wt l1
    exact ⟨⟨r1.1, h0, h1⟩, r2, ⟨⟨m1.1, by simp [PD.w], by simp [PD.w]⟩, m2, ⟨⟨x1.1, by simp [PD.w], by simp [PD.w]⟩, x2, BT.wset_ok (by omega) (by omega) l1, m3⟩, BT.wset_ok (by omega) (by omega) m4⟩, r4⟩
  | w5 hl =>
    obtain ⟨x1, x2, l1, ⟨r1, r2, r3, r4⟩⟩ := hb
    have := BT.ok_wt l1
    exact ⟨⟨r1.1, h0, h1⟩, r2, ⟨⟨x1.1, by simp [PD.w], by simp [PD.w]⟩, x2, BT.wset_ok (by omega) (by omega) l1, r3⟩, BT.wset_ok (by omega) (by omega) r4⟩
  | w6 hl =>
    obtain ⟨x1, x2, l1, ⟨r1, r2, ⟨m1, m2, m3, m4⟩, r4⟩⟩ := hb
    have := BT.ok_wt l1
    exact ⟨⟨m1.1, h0, h1⟩, m2, ⟨⟨x1.1, by simp [PD.w], by simp [PD.w]⟩, x2, BT.wset_ok (by omega) (by omega) l1, m3⟩, ⟨r1.1, by simp [PD.w], by simp [PD.w]⟩, r2, m4, r4⟩
  | w7 hl hr =>
    have := BT.ok_wt hb.2.2.1
    have := BT.ok_wt hb.2.2.2
    exact ⟨⟨hb.1.1, h0, h1⟩, hb.2.1, BT.wset_ok (by omega) (by omega) hb.2.2.1, BT.wset_ok (by omega) (by omega) hb.2.2.2⟩
  | root => rw [show (b.wset 1).wset a = b.wset a by cases b <;> rfl]; exact BT.wset_ok h0 h1 hb
theorem BT.wset_self (b : BT) : b.wset b.wt = b := by cases b <;> rfl
theorem BT.wset_wset (a c : Int) (b : BT) : (b.wset a).wset c = b.wset c := by cases b <;> rfl
theorem BT.wset_wt (a : Int) (b : BT) : (b.wset a).wt = a := by cases b <;> rfl
theorem BT.mt_wset (mi : Bool) (a : Int) (b : BT) : (b.wset a).mt mi = (b.mt mi).wset a := by
  cases mi
  · rfl
  · exact b.wset_mir a
theorem step_wt {root : Bool} {k : Int} {b b' : BT} (h : StepR root k b b') (hb : b.ok) : 0 ≤ b'.wt := by
  have hw := BT.ok_wt hb
  cases h with
  | root => rw [BT.wset_wt]; omega
  | _ => simp only [BT.wt, BT.dat, PD.w] at hw ⊢; omega
theorem step_size {root : Bool} {k : Int} {b b' : BT} (h : StepR root k b b') : b'.size = b.size := by
  cases h <;> simp only [BT.size, BT.wset_size] <;> omega
/-- The whole of a change: what is built, the root's weight, and what hangs on it. -/
theorem change_tree {t : NL} (hf : InForm t) {x : Nat} (hx0 : x ≠ 0) {b c : BT} {mi root atr : Bool} {k : Int} {Mx : List Nat} (hA : AT t x b Mx) (hN : Mx.Nodup) (hS : StepR root k (b.mt mi) c) {T : NL} {top : Nat}
    {M : List Nat} (hM : M.Perm Mx) (hO : BOut (mt mi t) T M top c) {T2 : NL} {c2 : BT} (h2 : T2 = if atr then wth T top 1 else T) (hc : c2 = if atr then c.wset 1 else c) (hw : c2.wt ≤ 1000000) :
    (ndAt T2 top).wt = c2.wt ∧ top < t.length ∧ T2.length = t.length ∧ ∃ B, GraftR t x (c2.mt mi) 0 B ∧ Abs (hangN t x top (mt mi T2) t.length) 0 B ∧ InForm (hangN t x top (mt mi T2) t.length) ∧ B.ok ∧ B.size = t.length := by
  have hMN : M.Nodup := hM.nodup_iff.2 hN
  obtain ⟨o1, ⟨M', o2, o3⟩, o4⟩ := hO
  rw [mt_length] at o1
  have hM'N : M'.Nodup := o3.nodup_iff.2 hMN
  have hb := abs_ok hf hA.abs
  have hcok : c2.ok := by
    rw [hc]
    cases atr
    · have := step_ok hS (BT.mt_ok mi hb) (a := c.wt) (step_wt hS (BT.mt_ok mi hb)) (by rw [hc] at hw; exact hw)
      rwa [BT.wset_self] at this
    · exact step_ok hS (BT.mt_ok mi hb) (by omega) (by omega)
  have hA2 : AT T2 top c2 M' := by
    rw [h2, hc]
    cases atr
    · exact o2
    · exact o2.wth hM'N
  have hl2 : T2.length = t.length := by
    rw [h2]
    cases atr
    · exact o1
    · exact (wth_length _ _ _).trans o1
  have off2 : ∀ p, p ∉ M → ndAt T2 p = ndAt (mt mi t) p := by
    intro p hp
    rw [h2]
    cases atr
    · exact o4 p hp
    · refine (wth_ne _ _ _ _ fun e => hp ?_).trans (o4 p hp)
      rw [e]; exact o3.subset o2.mem
  obtain ⟨M2, a2, p2⟩ := hA2.mt mi
  have pM : M2.Perm Mx := (p2.trans o3).trans hM
  have hl3 : (mt mi T2).length = t.length := (mt_length _ _).trans hl2
  have off3 : ∀ p, p < t.length → p ∉ Mx → ndAt (mt mi T2) p = ndAt t p := by
    intro p hp hn
    rw [mt_at mi T2 p (by omega), off2 p (fun h => hn (hM.subset h)), mt_at mi t p hp, swp_swp]
  have hh := hang_at t x top (mt mi T2) hl3
  have a3 : AT (hangN t x top (mt mi T2) t.length) top (c2.mt mi) M2 := by
    refine a2.keep (hangN_length _ _ _ _ _) fun y hy => ?_
    have hyx := pM.subset hy
    have hyl := hA.tree.all y hyx
    have hnu := no_up hA.tree hN hyx
    rw [hh y hyl t.length, if_pos hyl, if_neg (fun q => hnu (Or.inl q)), if_neg (fun q => hnu (Or.inr q))]
  have hB : ∀ p, p < t.length → p ∉ Mx → ndP (ndAt (hangN t x top (mt mi T2) t.length) p) = ndP (ndAt t p) ∧ (ndAt (hangN t x top (mt mi T2) t.length) p).l = (if (ndAt t p).l = (x : Int) then (top : Int) else (ndAt t p).l) ∧ (ndAt (hangN t x top (mt mi T2) t.length) p).r = (if (ndAt t p).r = (x : Int) then (top : Int) else (ndAt t p).r) := by
    intro p hp hn
    rw [hh p hp t.length, if_pos hp, off3 p hp hn]
    by_cases q1 : (ndAt t p).l = (x : Int)
    · have := child_ne hf hp q1
      rw [if_pos q1, if_pos q1, if_neg this]
      exact ⟨rfl, rfl, rfl⟩
    · rw [if_neg q1, if_neg q1]
      by_cases q2 : (ndAt t p).r = (x : Int)
      · rw [if_pos q2, if_pos q2]; exact ⟨rfl, rfl, rfl⟩
      · rw [if_neg q2, if_neg q2]; exact ⟨rfl, rfl, rfl⟩
  obtain ⟨L0, t1, t2, t3⟩ := hf.tree
  obtain ⟨L, B, x1, g1, p1⟩ := swap_tree hf hA.tree ((hangN_length _ _ _ _ _).trans hl3) hB a3 pM t1 (Or.inr (root_off hf hA.tree hx0))
  rw [show sig x top 0 = 0 from if_neg (Ne.symm hx0)] at x1
  have hok := graft_ok hf (BT.mt_ok mi hcok) g1
  have hLl : L.length = t.length := p1.length_eq.trans t3
  refine ⟨hA2.wt.symm, by have := hA2.lt; omega, hl2, B, g1, x1.abs, form_of_abs x1 hok (p1.nodup_iff.2 t2) (hLl.trans ((hangN_length _ _ _ _ _).trans hl3).symm), hok, ?_⟩
  obtain ⟨L2, q1, q2⟩ := x1.abs.tree
  rw [← q2, ← x1.tree.det q1, hLl]
end Go.Proofs.Ytfjkddjjpbdjkaa
