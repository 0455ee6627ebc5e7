
/- Layer 18, pure: mirrors of tables; the whole of a change. Layer 18, pure: what a site sees, as trees; what a step makes. Layer 18, pure: the crown about the tree of the keys. Layer 18, pure: steps keep pairs and order. -/

import Derived.Test.YthlhbajaogonnaaDoorSQ4

import Derived.Test.YthlhbajaogonnaaDoorSSt5

import Derived.Test.YthlhbajaogonnaaDoorSMir

namespace Go.Proofs.YthlhbajaogonnaaDoor

/-- A table, a tree as a move sees it. -/
def mt (mi : Bool) (t : NL) : NL := if mi then mirL t else t
def BT.mt (mi : Bool) (b : BT) : BT := if mi then b.mir else b
def swp (mi : Bool) (n : NdD) : NdD := if mi then swapD n else n
theorem mt_length (mi : Bool) (t : NL) : (mt mi t).length = t.length := by cases mi <;> simp [mt, mirL_length]
theorem mt_at (mi : Bool) (t : NL) (p : Nat) (h : p < t.length) : ndAt (mt mi t) p = swp mi (ndAt t p) := by
  cases mi
  · rfl
  · exact mirL_at t p h
theorem mt_set (mi : Bool) (t : NL) (p : Nat) (n : NdD) : mt mi (t.set p n) = (mt mi t).set p (swp mi n) := by
  cases mi
  · rfl
  · simp [mt, mirL, swp, List.map_set]
theorem swp_swp (mi : Bool) (n : NdD) : swp mi (swp mi n) = n := by cases mi <;> rfl
theorem mt_mt (mi : Bool) (t : NL) : mt mi (mt mi t) = t := by
  cases mi
  · rfl
  · simp only [mt, if_true, mirL, List.map_map]
    conv => rhs; rw [← List.map_id t]
    rfl
theorem BT.mt_mt (mi : Bool) (b : BT) : (b.mt mi).mt mi = b := by
  cases mi
  · rfl
  · exact b.mir_mir
theorem BT.mt_size (mi : Bool) (b : BT) : (b.mt mi).size = b.size := by
  cases mi
  · rfl
  · exact b.mir_size
theorem BT.mt_ok (mi : Bool) {b : BT} (h : b.ok) : (b.mt mi).ok := by
  cases mi
  · exact h
  · exact BT.mir_ok h
theorem AT.mt (mi : Bool) {t : NL} {p : Nat} {b : BT} {M : List Nat} (h : AT t p b M) : ∃ M', AT (mt mi t) p (b.mt mi) M' ∧ M'.Perm M := by
  cases mi
  · exact ⟨M, h, List.Perm.refl _⟩
  · obtain ⟨M', h1, h2⟩ := mir_tree h.tree
    exact ⟨M', ⟨mir_abs h.abs, h1⟩, h2⟩
theorem hang_at (t : NL) (x top : Int) (T : NL) (hT : T.length = t.length) (p : Nat) (hp : p < t.length) : ∀ n, ndAt (hangN t x top T n) p = if p < n then (if (ndAt t p).l = x then ⟨(ndAt T p).key, (ndAt T p).inf, (ndAt T p).wt, (ndAt T p).val, top, (ndAt T p).r⟩ else if (ndAt t p).r = x then ⟨(ndAt T p).key, (ndAt T p).inf, (ndAt T p).wt, (ndAt T p).val, (ndAt T p).l, top⟩ else ndAt T p) else ndAt T p
  | 0 => by simp [hangN]
  | n + 1 => by
    have ih := hang_at t x top T hT p hp n
    have hl := hangN_length t x top T n
    by_cases e : p = n
    · subst e
      rw [if_neg (by omega)] at ih
      rw [if_pos (by omega)]
      unfold hangN
      by_cases q1 : (ndAt t p).l = x
      · rw [if_pos q1, if_pos q1]
        unfold setL
        rw [ndAt_set _ _ _ (by omega), ih]
      · rw [if_neg q1, if_neg q1]
        by_cases q2 : (ndAt t p).r = x
        · rw [if_pos q2, if_pos q2]
          unfold setR
          rw [ndAt_set _ _ _ (by omega), ih]
        · rw [if_neg q2, if_neg q2]; exact ih
    · have ih' : ndAt (hangN t x top T (n + 1)) p = ndAt (hangN t x top T n) p := by
        conv => lhs; unfold hangN
        by_cases q1 : (ndAt t n).l = x
        · rw [if_pos q1]; unfold setL; exact ndAt_set_of_ne _ _ _ _ e
        · rw [if_neg q1]
          by_cases q2 : (ndAt t n).r = x
          · rw [if_pos q2]; unfold setR; exact ndAt_set_of_ne _ _ _ _ e
          · rw [if_neg q2]
      rw [ih', ih]
      by_cases q : p < n
      · rw [if_pos q, if_pos (show p < n + 1 by omega)]
      · rw [if_neg q, if_neg (show ¬ p < n + 1 by omega)]
/-- All weights but the top's stay within the limits. -/
theorem step_ok {root : Bool} {k : Int} {b b' : BT} (h : StepR root k b b') (hb : b.ok) {a : Int} (h0 : 0 ≤ a) (h1 : a ≤ 1000000) : (b'.wset a).ok := by
  cases h with
  | blk => exact ⟨⟨hb.1.1, h0, h1⟩, hb.2.1, BT.wset_ok (by omega) (by omega) hb.2.2.1, BT.wset_ok (by omega) (by omega) hb.2.2.2⟩
  | rb1 =>
    obtain ⟨x1, x2, ⟨l1, l2, l3, l4⟩, r1⟩ := hb
    exact ⟨⟨l1.1, h0, h1⟩, l2, l3, ⟨x1.1, by simp [PD.w], by simp [PD.w]⟩, x2, l4, r1⟩
  | rb2 =>
    obtain ⟨x1, x2, ⟨l1, l2, l3, ⟨m1, m2, m3, m4⟩⟩, r1⟩ := hb
    exact ⟨⟨m1.1, h0, h1⟩, m2, ⟨⟨l1.1, by simp [PD.w], by simp [PD.w]⟩, l2, l3, m3⟩, ⟨x1.1, by simp [PD.w], by simp [PD.w]⟩, x2, m4, r1⟩
  | push hl =>
    obtain ⟨x1, x2, l1, ⟨r1, r2, r3, r4⟩⟩ := hb
    have := BT.ok_wt l1
    exact ⟨⟨x1.1, h0, h1⟩, x2, BT.wset_ok (by omega) (by omega) l1, ⟨r1.1, by simp [PD.w], by simp [PD.w]⟩, r2, r3, r4⟩
  | w1 hl _ hrl =>
    obtain ⟨x1, x2, l1, ⟨r1, r2, r3, r4⟩⟩ := hb
    have := BT.ok_wt l1
    have := BT.ok_wt r3
    exact ⟨⟨r1.1, h0, h1⟩, r2, ⟨⟨x1.1, by simp [PD.w], by simp [PD.w]⟩, x2, BT.wset_ok (by omega) (by omega) l1, BT.wset_ok (by omega) (by omega) r3⟩, r4⟩
  | w2 hl =>
    obtain ⟨x1, x2, l1, ⟨r1, r2, ⟨m1, m2, m3, m4⟩, r4⟩⟩ := hb
    have := BT.ok_wt l1
    exact ⟨⟨r1.1, h0, h1⟩, r2, ⟨⟨x1.1, by simp [PD.w], by simp [PD.w]⟩, x2, BT.wset_ok (by omega) (by omega) l1, ⟨m1.1, by simp [PD.w], by simp [PD.w]⟩, m2, m3, m4⟩, r4⟩
  | w3 hl =>
    obtain ⟨x1, x2, l1, ⟨r1, r2, ⟨m1, m2, ⟨n1, n2, n3, n4⟩, m4⟩, r4⟩⟩ := hb
    have := BT.ok_wt l1
    exact ⟨⟨r1.1, h0, h1⟩, r2, ⟨⟨n1.1, by simp [PD.w], by simp [PD.w]⟩, n2, ⟨⟨x1.1, by simp [PD.w], by simp [PD.w]⟩, x2, BT.wset_ok (by omega) (by omega) l1, n3⟩, ⟨m1.1, by simp [PD.w], by simp [PD.w]⟩, m2, n4, m4⟩, r4⟩
  | w4 hl =>
    obtain ⟨x1, x2, l1, ⟨r1, r2, ⟨m1, m2, m3, m4⟩, r4⟩⟩ := hb
    have := BT.ok_wt l1
    exact ⟨⟨r1.1, h0, h1⟩, r2, ⟨⟨m1.1, by simp [PD.w], by simp [PD.w]⟩, m2, ⟨⟨x1.1, by simp [PD.w], by simp [PD.w]⟩, x2, BT.wset_ok (by omega) (by omega) l1, m3⟩, BT.wset_ok (by omega) (by omega) m4⟩, r4⟩
  | w5 hl =>
    obtain ⟨x1, x2, l1, ⟨r1, r2, r3, r4⟩⟩ := hb
    have := BT.ok_wt l1
    exact ⟨⟨r1.1, h0, h1⟩, r2, ⟨⟨x1.1, by simp [PD.w], by simp [PD.w]⟩, x2, BT.wset_ok (by omega) (by omega) l1, r3⟩, BT.wset_ok (by omega) (by omega) r4⟩
  | w6 hl =>
    obtain ⟨x1, x2, l1, ⟨r1, r2, ⟨m1, m2, m3, m4⟩, r4⟩⟩ := hb
    have := BT.ok_wt l1
    exact ⟨⟨m1.1, h0, h1⟩, m2, ⟨⟨x1.1, by simp [PD.w], by simp [PD.w]⟩, x2, BT.wset_ok (by omega) (by omega) l1, m3⟩, ⟨r1.1, by simp [PD.w], by simp [PD.w]⟩, r2, m4, r4⟩
  | w7 hl hr =>
    have := BT.ok_wt hb.2.2.1
    have := BT.ok_wt hb.2.2.2
    exact ⟨⟨hb.1.1, h0, h1⟩, hb.2.1, BT.wset_ok (by omega) (by omega) hb.2.2.1, BT.wset_ok (by omega) (by omega) hb.2.2.2⟩
  | root => rw [show (b.wset 1).wset a = b.wset a by cases b <;> rfl]; exact BT.wset_ok h0 h1 hb
theorem BT.wset_self (b : BT) : b.wset b.wt = b := by cases b <;> rfl
theorem BT.wset_wset (a c : Int) (b : BT) : (b.wset a).wset c = b.wset c := by cases b <;> rfl
theorem BT.wset_wt (a : Int) (b : BT) : (b.wset a).wt = a := by cases b <;> rfl
theorem BT.mt_wset (mi : Bool) (a : Int) (b : BT) : (b.wset a).mt mi = (b.mt mi).wset a := by
  cases mi
  · rfl
  · exact b.wset_mir a
theorem step_wt {root : Bool} {k : Int} {b b' : BT} (h : StepR root k b b') (hb : b.ok) : 0 ≤ b'.wt := by
  have hw := BT.ok_wt hb
  cases h with
  | root => rw [BT.wset_wt]; omega
  | _ => simp only [BT.wt, BT.dat, PD.w] at hw ⊢; omega
theorem step_size {root : Bool} {k : Int} {b b' : BT} (h : StepR root k b b') : b'.size = b.size := by
  cases h <;> simp only [BT.size, BT.wset_size] <;> omega
/-- The whole of a change: what is built, the root's weight, and what hangs on it. -/
theorem change_tree {t : NL} (hf : InForm t) {x : Nat} (hx0 : x ≠ 0) {b c : BT} {mi root atr : Bool} {k : Int} {Mx : List Nat} (hA : AT t x b Mx) (hN : Mx.Nodup) (hS : StepR root k (b.mt mi) c) {T : NL} {top : Nat}
    {M : List Nat} (hM : M.Perm Mx) (hO : BOut (mt mi t) T M top c) {T2 : NL} {c2 : BT} (h2 : T2 = if atr then wth T top 1 else T) (hc : c2 = if atr then c.wset 1 else c) (hw : c2.wt ≤ 1000000) :
    (ndAt T2 top).wt = c2.wt ∧ top < t.length ∧ T2.length = t.length ∧ ∃ B, GraftR t x (c2.mt mi) 0 B ∧ Abs (hangN t x top (mt mi T2) t.length) 0 B ∧ InForm (hangN t x top (mt mi T2) t.length) ∧ B.ok ∧ B.size = t.length := by
  have hMN : M.Nodup := hM.nodup_iff.2 hN
  obtain ⟨o1, ⟨M', o2, o3⟩, o4⟩ := hO
  rw [mt_length] at o1
  have hM'N : M'.Nodup := o3.nodup_iff.2 hMN
  have hb := abs_ok hf hA.abs
  have hcok : c2.ok := by
    rw [hc]
    cases atr
    · have := step_ok hS (BT.mt_ok mi hb) (a := c.wt) (step_wt hS (BT.mt_ok mi hb)) (by rw [hc] at hw; exact hw)
      rwa [BT.wset_self] at this
    · exact step_ok hS (BT.mt_ok mi hb) (by omega) (by omega)
  have hA2 : AT T2 top c2 M' := by
    rw [h2, hc]
    cases atr
    · exact o2
    · exact o2.wth hM'N
  have hl2 : T2.length = t.length := by
    rw [h2]
    cases atr
    · exact o1
    · exact (wth_length _ _ _).trans o1
  have off2 : ∀ p, p ∉ M → ndAt T2 p = ndAt (mt mi t) p := by
    intro p hp
    rw [h2]
    cases atr
    · exact o4 p hp
    · refine (wth_ne _ _ _ _ fun e => hp ?_).trans (o4 p hp)
      rw [e]; exact o3.subset o2.mem
  obtain ⟨M2, a2, p2⟩ := hA2.mt mi
  have pM : M2.Perm Mx := (p2.trans o3).trans hM
  have hl3 : (mt mi T2).length = t.length := (mt_length _ _).trans hl2
  have off3 : ∀ p, p < t.length → p ∉ Mx → ndAt (mt mi T2) p = ndAt t p := by
    intro p hp hn
    rw [mt_at mi T2 p (by omega), off2 p (fun h => hn (hM.subset h)), mt_at mi t p hp, swp_swp]
  have hh := hang_at t x top (mt mi T2) hl3
  have a3 : AT (hangN t x top (mt mi T2) t.length) top (c2.mt mi) M2 := by
    refine a2.keep (hangN_length _ _ _ _ _) fun y hy => ?_
    have hyx := pM.subset hy
    have hyl := hA.tree.all y hyx
    have hnu := no_up hA.tree hN hyx
    rw [hh y hyl t.length, if_pos hyl, if_neg (fun q => hnu (Or.inl q)), if_neg (fun q => hnu (Or.inr q))]
  have hB : ∀ p, p < t.length → p ∉ Mx → ndP (ndAt (hangN t x top (mt mi T2) t.length) p) = ndP (ndAt t p) ∧ (ndAt (hangN t x top (mt mi T2) t.length) p).l = (if (ndAt t p).l = (x : Int) then (top : Int) else (ndAt t p).l) ∧ (ndAt (hangN t x top (mt mi T2) t.length) p).r = (if (ndAt t p).r = (x : Int) then (top : Int) else (ndAt t p).r) := by
    intro p hp hn
    rw [hh p hp t.length, if_pos hp, off3 p hp hn]
    by_cases q1 : (ndAt t p).l = (x : Int)
    · have := child_ne hf hp q1
      rw [if_pos q1, if_pos q1, if_neg this]
      exact ⟨rfl, rfl, rfl⟩
    · rw [if_neg q1, if_neg q1]
      by_cases q2 : (ndAt t p).r = (x : Int)
      · rw [if_pos q2, if_pos q2]; exact ⟨rfl, rfl, rfl⟩
      · rw [if_neg q2, if_neg q2]; exact ⟨rfl, rfl, rfl⟩
  obtain ⟨L0, t1, t2, t3⟩ := hf.tree
  obtain ⟨L, B, x1, g1, p1⟩ := swap_tree hf hA.tree ((hangN_length _ _ _ _ _).trans hl3) hB a3 pM t1 (Or.inr (root_off hf hA.tree hx0))
  rw [show sig x top 0 = 0 from if_neg (Ne.symm hx0)] at x1
  have hok := graft_ok hf (BT.mt_ok mi hcok) g1
  have hLl : L.length = t.length := p1.length_eq.trans t3
  refine ⟨hA2.wt.symm, by have := hA2.lt; omega, hl2, B, g1, x1.abs, form_of_abs x1 hok (p1.nodup_iff.2 t2) (hLl.trans ((hangN_length _ _ _ _ _).trans hl3).symm), hok, ?_⟩
  obtain ⟨L2, q1, q2⟩ := x1.abs.tree
  rw [← q2, ← x1.tree.det q1, hLl]
end Go.Proofs.YthlhbajaogonnaaDoor

namespace Go.Proofs.YthlhbajaogonnaaDoor

open Classical in
/-- The tree from a place on. -/
noncomputable def theB (t : NL) (x : Nat) : BT := if h : ∃ b, Abs t x b then Classical.choose h else .leaf ⟨0, 0, 0, 0⟩
theorem theB_of {t : NL} {x : Nat} {b : BT} (h : Abs t x b) : theB t x = b := by
  unfold theB
  rw [dif_pos ⟨b, h⟩]
  exact (Classical.choose_spec (⟨b, h⟩ : ∃ b, Abs t x b)).det h
/-- A place that is there, or isn't, and its tree as a move sees it. -/
def PA (t : NL) (mi : Bool) (p : Int) (o : Option BT) : Prop := (p = -1 ∧ o = none) ∨ ∃ (n : Nat) (b : BT), p = (n : Int) ∧ n < t.length ∧ Abs (mt mi t) n b ∧ o = some b
theorem PA.wt {t : NL} {mi : Bool} {p : Int} {o : Option BT} (h : PA t mi p o) : wtP t p = bwO o := by
  rcases h with ⟨rfl, rfl⟩ | ⟨n, b, rfl, hn, ha, rfl⟩
  · rfl
  · unfold wtP
    rw [if_neg (by omega), Int.toNat_natCast]
    have e : (ndAt (mt mi t) n).wt = (ndAt t n).wt := by rw [mt_at mi t n hn]; cases mi <;> rfl
    rw [← e]
    cases ha <;> rfl
theorem PA.ok {t : NL} {mi : Bool} {p : Int} {o : Option BT} (h : PA t mi p o) : p = -1 ∨ 0 ≤ p ∧ p < t.length := by
  rcases h with ⟨rfl, -⟩ | ⟨n, b, rfl, hn, -, -⟩
  · exact Or.inl rfl
  · exact Or.inr ⟨by omega, by omega⟩
theorem bel_mt {t : NL} {mi : Bool} {n : Nat} (hn : n < t.length) : belL t mi (n : Int) = (ndAt (mt mi t) n).l ∧ belR t mi (n : Int) = (ndAt (mt mi t) n).r := by
  have q : ¬ ((n : Int) = -1) := by omega
  unfold belL belR
  rw [if_neg q, if_neg q, Int.toNat_natCast, mt_at mi t n hn]
  cases mi <;> exact ⟨rfl, rfl⟩
theorem PA.kids {t : NL} {mi : Bool} {p : Int} {o : Option BT} (h : PA t mi p o) : PA t mi (belL t mi p) (blO o) ∧ PA t mi (belR t mi p) (brO o) := by
  rcases h with ⟨rfl, rfl⟩ | ⟨n, b, rfl, hn, ha, rfl⟩
  · exact ⟨Or.inl ⟨rfl, rfl⟩, Or.inl ⟨rfl, rfl⟩⟩
  · obtain ⟨e1, e2⟩ := bel_mt (mi := mi) hn
    cases ha with
    | leaf _ h1 h2 => rw [e1, e2, h1, h2]; exact ⟨Or.inl ⟨rfl, rfl⟩, Or.inl ⟨rfl, rfl⟩⟩
    | node _ h1 h2 a1 a2 =>
      have l1 := a1.lt
      have l2 := a2.lt
      rw [mt_length] at l1 l2
      rw [e1, e2, h1, h2]
      exact ⟨Or.inr ⟨_, _, rfl, l1, a1, rfl⟩, Or.inr ⟨_, _, rfl, l2, a2, rfl⟩⟩
theorem PA.inn {t : NL} {mi : Bool} {p : Int} {o : Option BT} (h : PA t mi p o) : (belL t mi p != -1) = inO o := by
  rcases h.kids.1 with ⟨h1, h2⟩ | ⟨n, b, h1, hn, ha, h2⟩
  · unfold inO; rw [h1, h2]; rfl
  · unfold inO
    rw [h1, h2]
    show (!((n : Int) == -1)) = true
    rw [beq_eq_false_iff_ne.2 (by omega)]
    rfl
theorem PA.of {t : NL} {mi : Bool} {x : Nat} {b : BT} (h : Abs t x b) : PA t mi (x : Int) (some (b.mt mi)) := by
  refine Or.inr ⟨x, b.mt mi, rfl, h.lt, ?_, rfl⟩
  cases mi
  · exact h
  · exact mir_abs h
open Classical in
/-- What a step makes of a tree. -/
noncomputable def stB (root : Bool) (k : Int) (b : BT) : BT := if h : ∃ c, StepR root k b c then Classical.choose h else b
theorem stB_of {root : Bool} {k : Int} {b c : BT} (h : StepR root k b c) : stB root k b = c := by
  unfold stB
  rw [dif_pos ⟨c, h⟩]
  exact (Classical.choose_spec (⟨c, h⟩ : ∃ c, StepR root k b c)).det h
open Classical in
/-- Another tree in a place. -/
noncomputable def theG (t : NL) (x : Nat) (u : BT) : BT := if h : ∃ B, GraftR t x u 0 B then Classical.choose h else u
theorem theG_of {t : NL} {x : Nat} {u B : BT} (h : GraftR t x u 0 B) : theG t x u = B := by
  unfold theG
  rw [dif_pos ⟨B, h⟩]
  exact (Classical.choose_spec (⟨B, h⟩ : ∃ B, GraftR t x u 0 B)).det h
/-- What stands in the place behind a step, as the move sees it. -/
noncomputable def newB (rt : Bool) (k : Int) (b : BT) : BT := if rt then (stB rt k b).wset 1 else stB rt k b
end Go.Proofs.YthlhbajaogonnaaDoor

namespace Go.Proofs.YthlhbajaogonnaaDoor

theorem end_is {n : NdD} (h : endB n = true) : n.inf = 1 ∧ n.wt = 1 ∧ n.l = -1 ∧ n.r = -1 := by
  simp only [endB, sentB, leafB, Bool.and_eq_true, decide_eq_true_eq] at h
  exact ⟨h.1.1, h.1.2, h.2⟩
theorem arch_is {t : NL} (hf : InForm t) {p : Nat} (hp : p < t.length) (h : archB t p = true) : ∃ l r : Nat, (ndAt t p).l = (l : Int) ∧ (ndAt t p).r = (r : Int) ∧ l < t.length ∧ r < t.length ∧ (ndAt t p).inf = 1 ∧ (ndAt t p).wt = 1 ∧ endB (ndAt t r) = true := by
  unfold archB at h
  rw [Bool.and_eq_true, Bool.and_eq_true] at h
  obtain ⟨h1, h2, h3⟩ := h
  obtain ⟨l, r, hl, hr, h4, h5⟩ := inner_lr hf hp (by simpa using h2)
  rw [hr, Int.toNat_natCast] at h3
  simp only [sentB, decide_eq_true_eq] at h1
  exact ⟨l, r, hl, hr, h4, h5, h1.1, h1.2, h3⟩
def BT.all (P : PD → Prop) : BT → Prop
  | .leaf d => P d
  | .node d l r => P d ∧ l.all P ∧ r.all P
/-- What the crown's nodes say. -/
def PD.cr (d : PD) : Prop := d.inf = 1 ∧ d.wt = 1
/-- A table with a crown: its root of the keys x, the arch l, the ends r and s, the tree of the keys K. -/
structure Crn (t : NL) (x l r s : Nat) (K : BT) : Prop where
  root : rootR t = ((x : Int), 0)
  form : formE t = 0
  lt : x < t.length ∧ l < t.length ∧ r < t.length ∧ s < t.length
  top : (ndAt t 0).l = (l : Int) ∧ (ndAt t 0).r = (r : Int) ∧ (ndP (ndAt t 0)).cr
  arch : (ndAt t l).l = (x : Int) ∧ (ndAt t l).r = (s : Int) ∧ (ndP (ndAt t l)).cr
  er : (ndAt t r).l = -1 ∧ (ndAt t r).r = -1 ∧ (ndP (ndAt t r)).cr
  es : (ndAt t s).l = -1 ∧ (ndAt t s).r = -1 ∧ (ndP (ndAt t s)).cr
  keys : Abs t x K
  nokey : K.all (fun d => d.inf = 0)
theorem all_of_tree {t : NL} {P : PD → Prop} {p : Nat} {b : BT} (h : Abs t p b) : ∀ {L : List Nat}, Tree t p L → ((∀ y ∈ L, P (ndP (ndAt t y))) ↔ b.all P) := by
  induction h with
  | leaf hp hl hr =>
    intro L hT
    cases hT with
    | inner _ hl' => omega
    | leaf => simp [BT.all]
  | node hp hl hr _ _ ih1 ih2 =>
    intro L hT
    cases hT with
    | leaf _ hl' => omega
    | inner _ hl' hr' t1 t2 =>
      obtain rfl := Int.ofNat.inj (hl.symm.trans hl')
      obtain rfl := Int.ofNat.inj (hr.symm.trans hr')
      simp only [BT.all, ← ih1 t1, ← ih2 t2, List.mem_cons, List.mem_append]
      constructor
      · intro h; exact ⟨h _ (Or.inl rfl), fun y hy => h y (Or.inr (Or.inl hy)), fun y hy => h y (Or.inr (Or.inr hy))⟩
      · rintro ⟨h1, h2, h3⟩ y (rfl | hy | hy)
        · exact h1
        · exact h2 y hy
        · exact h3 y hy
theorem crn_of {t : NL} (h : (rootR t).2 = 0) : ∃ x l r s K, Crn t x l r s K := by
  have h0 := h
  unfold rootR at h
  by_cases he : formE t ≠ 0
  · rw [if_pos he] at h; exact absurd h he
  rw [if_neg he] at h
  have he : formE t = 0 := by simpa using he
  obtain ⟨-, hf⟩ := formE_ok he
  by_cases q1 : archB t 0 = false
  · rw [if_pos q1] at h; simp at h
  rw [if_neg q1] at h
  by_cases q2 : endB (ndAt t (ndAt t 0).l.toNat) = true
  · rw [if_pos q2] at h; simp at h
  rw [if_neg q2] at h
  by_cases q3 : archB t (ndAt t 0).l.toNat = false
  · rw [if_pos q3] at h; simp at h
  rw [if_neg q3] at h
  obtain ⟨l, r, hl, hr, l1, l2, l3, l4, l5⟩ := arch_is hf hf.pos (by simpa using q1)
  have q3' := q3
  rw [hl, Int.toNat_natCast] at q3' h
  obtain ⟨x, s, hl', hs, s1, s2, s3, s4, s5⟩ := arch_is hf l1 (by simpa using q3')
  rw [hl', Int.toNat_natCast] at h
  by_cases q4 : ∀ y ∈ theL t x, (ndAt t y).inf = 0
  · obtain ⟨M, m1, -⟩ := form_at hf x s1
    obtain ⟨K, hK, -⟩ := m1.abs
    rw [theL_of m1] at q4
    have e1 := end_is l5
    have e2 := end_is s5
    refine ⟨x, l, r, s, K, ?_, he, ⟨s1, l1, l2, s2⟩, ⟨hl, hr, l3, l4⟩, ⟨hl', hs, s3, s4⟩, ⟨e1.2.2.1, e1.2.2.2, e1.1, e1.2.1⟩, ⟨e2.2.2.1, e2.2.2.2, e2.1, e2.2.1⟩, hK, (all_of_tree (P := fun d => d.inf = 0) hK m1).1 q4⟩
    unfold rootR
    rw [if_neg (by simp [he]), if_neg q1, if_neg q2, if_neg q3, hl, Int.toNat_natCast, hl', Int.toNat_natCast, theL_of m1, if_pos q4]
  · rw [if_neg q4] at h; simp at h
theorem root_is {t : NL} {x l r s : Nat} {K : BT} (he : formE t = 0) (h0 : (ndAt t 0).l = (l : Int) ∧ (ndAt t 0).r = (r : Int) ∧ (ndP (ndAt t 0)).cr) (h1 : (ndAt t l).l = (x : Int) ∧ (ndAt t l).r = (s : Int) ∧ (ndP (ndAt t l)).cr)
    (h2 : (ndAt t r).l = -1 ∧ (ndAt t r).r = -1 ∧ (ndP (ndAt t r)).cr) (h3 : (ndAt t s).l = -1 ∧ (ndAt t s).r = -1 ∧ (ndP (ndAt t s)).cr) (hK : Abs t x K) (hk : K.all (fun d => d.inf = 0)) : Crn t x l r s K := by
  obtain ⟨-, hf⟩ := formE_ok he
  have kid : ∀ {p c : Nat}, p < t.length → Child t p c → c < t.length := fun hp hc => (child_pos hf.good hp hc).2
  have l1 := kid hf.pos (Or.inl h0.1)
  have r1 := kid hf.pos (Or.inr h0.2.1)
  have x1 := kid l1 (Or.inl h1.1)
  have s1 := kid l1 (Or.inr h1.2.1)
  obtain ⟨M, m1, -⟩ := form_at hf x x1
  refine ⟨?_, he, ⟨x1, l1, r1, s1⟩, h0, h1, h2, h3, hK, hk⟩
  have sn : ∀ {n : NdD}, (ndP n).cr → sentB n = true := fun h => by simp only [sentB, decide_eq_true_eq]; exact h
  have en : ∀ {n : NdD}, n.l = -1 → n.r = -1 → (ndP n).cr → endB n = true := fun a b c => by unfold endB; rw [sn c, leafB_yes a b]; rfl
  have nl : ∀ {n : NdD} {c : Nat}, n.l = (c : Int) → leafB n = false := fun h => by simp only [leafB, decide_eq_false_iff_not]; omega
  have a0 : archB t 0 = true := by unfold archB; rw [sn h0.2.2, nl h0.1, h0.2.1, Int.toNat_natCast, en h2.1 h2.2.1 h2.2.2]; rfl
  have al : archB t l = true := by unfold archB; rw [sn h1.2.2, nl h1.1, h1.2.1, Int.toNat_natCast, en h3.1 h3.2.1 h3.2.2]; rfl
  have nend : endB (ndAt t l) = false := by unfold endB; rw [nl h1.1]; simp
  have hq : ∀ y ∈ M, (ndAt t y).inf = 0 := (all_of_tree (P := fun d => d.inf = 0) hK m1).2 hk
  unfold rootR
  rw [if_neg (by simp [he]), if_neg (by simp [a0]), h0.1, Int.toNat_natCast, if_neg (by simp [nend]), if_neg (by simp [al]), h1.1, Int.toNat_natCast, theL_of m1, if_pos hq]
/-- The whole as a tree. -/
theorem Crn.abs {t : NL} {x l r s : Nat} {K : BT} (h : Crn t x l r s K) : Abs t 0 (.node (ndP (ndAt t 0)) (.node (ndP (ndAt t l)) K (.leaf (ndP (ndAt t s)))) (.leaf (ndP (ndAt t r)))) := by
  obtain ⟨-, hf⟩ := formE_ok h.form
  exact Abs.node hf.pos h.top.1 h.top.2.1 (Abs.node h.lt.2.1 h.arch.1 h.arch.2.1 h.keys (Abs.leaf h.lt.2.2.2 h.es.1 h.es.2.1)) (Abs.leaf h.lt.2.2.1 h.er.1 h.er.2.1)
/-- A place of the keys lies in their tree. -/
theorem Crn.keyplace {t : NL} {x l r s : Nat} {K : BT} (h : Crn t x l r s K) {p : Int} (hp : ofK t p = true) : ∃ (n : Nat) (M : List Nat), p = (n : Int) ∧ n < t.length ∧ n ≠ 0 ∧ Tree t x M ∧ n ∈ M := by
  obtain ⟨-, hf⟩ := formE_ok h.form
  simp only [ofK, Bool.and_eq_true, decide_eq_true_eq, bne_iff_ne, ne_eq, h.top.1, h.top.2.1, Int.toNat_natCast, h.arch.2.1] at hp
  obtain ⟨p0, p1, p2, p3, p4⟩ := hp
  obtain ⟨n, rfl⟩ : ∃ n : Nat, p = (n : Int) := ⟨p.toNat, by omega⟩
  obtain ⟨L, t1, t2, t3⟩ := hf.tree
  have hn : n ∈ L := all_in t2 t1.all t3 n (by omega)
  cases t1 with
  | leaf _ h1 => have := h.top.1; omega
  | inner _ h1 h2 u1 u2 =>
    obtain rfl := Int.ofNat.inj (h1.symm.trans h.top.1)
    obtain rfl := Int.ofNat.inj (h2.symm.trans h.top.2.1)
    cases u2 with
    | inner _ h3 => have := h.er.1; omega
    | leaf =>
      cases u1 with
      | leaf _ h3 => have := h.arch.1; omega
      | inner _ h3 h4 u3 u4 =>
        obtain rfl := Int.ofNat.inj (h3.symm.trans h.arch.1)
        obtain rfl := Int.ofNat.inj (h4.symm.trans h.arch.2.1)
        cases u4 with
        | inner _ h5 => have := h.es.1; omega
        | leaf =>
          refine ⟨n, _, rfl, by omega, by omega, u3, ?_⟩
          simp only [List.mem_cons, List.mem_append, List.not_mem_nil, or_false] at hn
          rcases hn with hn | (hn | hn | hn) | hn
          · omega
          · omega
          · exact hn
          · omega
          · omega
end Go.Proofs.YthlhbajaogonnaaDoor

namespace Go.Proofs.YthlhbajaogonnaaDoor

def goesD (d : PD) (key : Int) : Prop := d.inf = 1 ∨ key < d.key
/-- Does the move's left side hold the key? -/
def goesM (mi : Bool) (d : PD) (key : Int) : Prop := if mi then ¬ goesD d key else goesD d key
/-- In order, within a span, as a move sees it. -/
def BT.ord (mi : Bool) : BT → (Int → Prop) → Prop
  | .leaf d, S => d.inf = 0 → S d.key
  | .node d l r, S => l.ord mi (fun k => S k ∧ goesM mi d k) ∧ r.ord mi (fun k => S k ∧ ¬ goesM mi d k)
theorem BT.ord_mono {mi : Bool} : ∀ (b : BT) {S S' : Int → Prop}, (∀ k, S k → S' k) → b.ord mi S → b.ord mi S'
  | .leaf _, _, _, h, q => fun e => h _ (q e)
  | .node _ l r, _, _, h, q => ⟨l.ord_mono (fun k p => ⟨h k p.1, p.2⟩) q.1, r.ord_mono (fun k p => ⟨h k p.1, p.2⟩) q.2⟩
theorem BT.ord_mir (mi : Bool) : ∀ (b : BT) {S : Int → Prop}, b.mir.ord (!mi) S ↔ b.ord mi S
  | .leaf _, _ => Iff.rfl
  | .node d l r, S => by
    have e1 : ∀ k, goesM (!mi) d k ↔ ¬ goesM mi d k := fun k => by cases mi <;> simp [goesM]
    have e2 : ∀ k, ¬ goesM (!mi) d k ↔ goesM mi d k := fun k => by cases mi <;> simp [goesM]
    simp only [BT.mir, BT.ord, BT.ord_mir mi l, BT.ord_mir mi r, e1]
    constructor
    · rintro ⟨a, b⟩; exact ⟨l.ord_mono (fun k p => ⟨p.1, Classical.not_not.1 p.2⟩) b, a⟩
    · rintro ⟨a, b⟩; exact ⟨b, l.ord_mono (fun k p => ⟨p.1, not_not_intro p.2⟩) a⟩
theorem BT.ord_mt (mi : Bool) (b : BT) {S : Int → Prop} : (b.mt mi).ord mi S ↔ b.ord false S := by
  cases mi
  · exact Iff.rfl
  · exact b.ord_mir false
/-- A tree of keys has a leaf, whose key lies in the span. -/
theorem BT.ord_some {mi : Bool} : ∀ {b : BT} {S : Int → Prop}, b.all (fun d => d.inf = 0) → b.ord mi S → ∃ k, S k
  | .leaf d, S, h, q => ⟨d.key, q h⟩
  | .node d l r, S, h, q => by obtain ⟨k, hk⟩ := BT.ord_some h.2.1 q.1; exact ⟨k, hk.1⟩
theorem goes_key {d : PD} (h : d.inf = 0) (k : Int) : goesM false d k ↔ k < d.key := by simp [goesM, goesD, h]
theorem goes_keyM {d : PD} (h : d.inf = 0) (k : Int) : goesM true d k ↔ d.key ≤ k := by simp [goesM, goesD, h]
theorem BT.wset_ord (mi : Bool) (a : Int) (b : BT) (S : Int → Prop) : (b.wset a).ord mi S ↔ b.ord mi S := by cases b <;> exact Iff.rfl
theorem BT.wset_all {P : PD → Prop} {a : Int} (hP : ∀ d, P (d.w a) ↔ P d) (b : BT) : (b.wset a).all P ↔ b.all P := by cases b <;> simp [BT.wset, BT.all, hP]
theorem BT.wset_prs (a : Int) (b : BT) : (b.wset a).prs = b.prs := by cases b <;> rfl
theorem step_prs {root : Bool} {k : Int} {b c : BT} (h : StepR root k b c) : c.prs = b.prs := by
  cases h <;> simp [BT.prs, BT.wset_prs]
theorem step_all {root : Bool} {k : Int} {b c : BT} {P : PD → Prop} (hP : ∀ d a, P (d.w a) ↔ P d) (h : StepR root k b c) : c.all P ↔ b.all P := by
  cases h <;> simp only [BT.all, hP, BT.wset_all (hP · _)] <;> (constructor <;> intro h <;> simp_all)
/-- A step keeps the order. -/
theorem step_ord0 {root : Bool} {k : Int} {b c : BT} (h : StepR root k b c) (hk : b.all (fun d => d.inf = 0)) {S : Int → Prop} (ho : b.ord false S) : c.ord false S := by
  have W : ∀ (a : Int) (b : BT) {S S' : Int → Prop}, (∀ k, S k → S' k) → b.ord false S → (b.wset a).ord false S' := fun a b S S' h q => (BT.wset_ord false a b S').2 (b.ord_mono h q)
  cases h with
  | blk => exact ⟨W _ _ (fun k p => p) ho.1, W _ _ (fun k p => p) ho.2⟩
  | @rb1 x l ll lr r =>
    obtain ⟨kx, ⟨kl, kll, klr⟩, kr⟩ := hk
    obtain ⟨⟨h1, h2⟩, h3⟩ := ho
    obtain ⟨z0, hz0⟩ := BT.ord_some klr h2
    have gx := goes_key kx
    have gl := goes_key kl
    have gl' := goes_key (d := l.w x.wt) kl
    have gx' := goes_key (d := x.w 0) kx
    simp only [PD.w, gx, gl] at *
    refine ⟨ll.ord_mono (fun k p => ?_) h1, lr.ord_mono (fun k p => ?_) h2, r.ord_mono (fun k p => ?_) h3⟩ <;> simp only [gl', gx'] <;> (repeat' apply And.intro) <;> first | omega | exact p.1 | exact p.1.1 | exact p.1.1.1 | exact p.1.1.1.1 | exact p.1.1.1.1.1
  | @rb2 x l lr ll lrl lrr r =>
    obtain ⟨kx, ⟨kl, kll, ⟨klr, klrl, klrr⟩⟩, kr⟩ := hk
    obtain ⟨⟨h1, ⟨h2, h3⟩⟩, h4⟩ := ho
    obtain ⟨z0, hz0⟩ := BT.ord_some klrl h2
    obtain ⟨z1, hz1⟩ := BT.ord_some klrr h3
    have gx := goes_key kx
    have gl := goes_key kl
    have glr := goes_key klr
    have glr' := goes_key (d := lr.w x.wt) klr
    have gl' := goes_key (d := l.w 0) kl
    have gx' := goes_key (d := x.w 0) kx
    simp only [PD.w, gx, gl, glr] at *
    refine ⟨⟨ll.ord_mono (fun k p => ?_) h1, lrl.ord_mono (fun k p => ?_) h2⟩, lrr.ord_mono (fun k p => ?_) h3, r.ord_mono (fun k p => ?_) h4⟩ <;> simp only [glr', gl', gx'] <;> (repeat' apply And.intro) <;> first | omega | exact p.1 | exact p.1.1 | exact p.1.1.1 | exact p.1.1.1.1 | exact p.1.1.1.1.1
  | push => exact ⟨W _ _ (fun k p => p) ho.1, ho.2⟩
  | @w1 x r l rl rr =>
    obtain ⟨kx, kl, ⟨kr, krl, krr⟩⟩ := hk
    obtain ⟨h1, h2, h3⟩ := ho
    obtain ⟨z0, hz0⟩ := BT.ord_some krl h2
    have gx := goes_key kx
    have gr := goes_key kr
    have gr' := goes_key (d := r.w x.wt) kr
    have gx' := goes_key (d := x.w 1) kx
    simp only [PD.w, gx, gr] at *
    refine ⟨⟨W _ l (fun k p => ?_) h1, W _ rl (fun k p => ?_) h2⟩, rr.ord_mono (fun k p => ?_) h3⟩ <;> simp only [gr', gx'] <;> (repeat' apply And.intro) <;> first | omega | exact p.1 | exact p.1.1 | exact p.1.1.1 | exact p.1.1.1.1 | exact p.1.1.1.1.1
  | @w2 x r rl l rll rlr rr =>
    obtain ⟨kx, kl, ⟨kr, ⟨krl, krll, krlr⟩, krr⟩⟩ := hk
    obtain ⟨h1, ⟨h2, h3⟩, h4⟩ := ho
    obtain ⟨z0, hz0⟩ := BT.ord_some krll h2
    obtain ⟨z1, hz1⟩ := BT.ord_some krlr h3
    have gx := goes_key kx
    have gr := goes_key kr
    have grl := goes_key krl
    have gr' := goes_key (d := r.w x.wt) kr
    have gx' := goes_key (d := x.w 1) kx
    have grl' := goes_key (d := rl.w 0) krl
    simp only [PD.w, gx, gr, grl] at *
    refine ⟨⟨W _ l (fun k p => ?_) h1, rll.ord_mono (fun k p => ?_) h2, rlr.ord_mono (fun k p => ?_) h3⟩, rr.ord_mono (fun k p => ?_) h4⟩ <;> simp only [gr', gx', grl'] <;> (repeat' apply And.intro) <;> first | omega | exact p.1 | exact p.1.1 | exact p.1.1.1 | exact p.1.1.1.1 | exact p.1.1.1.1.1
  | @w3 x r rl rll l rlll rllr rlr rr =>
    obtain ⟨kx, kl, ⟨kr, ⟨krl, ⟨krll, krlll, krllr⟩, krlr⟩, krr⟩⟩ := hk
    obtain ⟨h1, ⟨⟨h2, h3⟩, h4⟩, h5⟩ := ho
    obtain ⟨z0, hz0⟩ := BT.ord_some krlll h2
    obtain ⟨z1, hz1⟩ := BT.ord_some krllr h3
    obtain ⟨z2, hz2⟩ := BT.ord_some krlr h4
    have gx := goes_key kx
    have gr := goes_key kr
    have grl := goes_key krl
    have grll := goes_key krll
    have gr' := goes_key (d := r.w x.wt) kr
    have gx' := goes_key (d := x.w 1) kx
    have grl' := goes_key (d := rl.w 1) krl
    have grll' := goes_key (d := rll.w 0) krll
    simp only [PD.w, gx, gr, grl, grll] at *
    refine ⟨⟨⟨W _ l (fun k p => ?_) h1, rlll.ord_mono (fun k p => ?_) h2⟩, rllr.ord_mono (fun k p => ?_) h3, rlr.ord_mono (fun k p => ?_) h4⟩, rr.ord_mono (fun k p => ?_) h5⟩ <;> simp only [gr', gx', grl', grll'] <;> (repeat' apply And.intro) <;> first | omega | exact p.1 | exact p.1.1 | exact p.1.1.1 | exact p.1.1.1.1 | exact p.1.1.1.1.1
  | @w4 x r rl l rll rlr rr =>
    obtain ⟨kx, kl, ⟨kr, ⟨krl, krll, krlr⟩, krr⟩⟩ := hk
    obtain ⟨h1, ⟨h2, h3⟩, h4⟩ := ho
    obtain ⟨z0, hz0⟩ := BT.ord_some krll h2
    obtain ⟨z1, hz1⟩ := BT.ord_some krlr h3
    have gx := goes_key kx
    have gr := goes_key kr
    have grl := goes_key krl
    have gr' := goes_key (d := r.w x.wt) kr
    have gx' := goes_key (d := x.w 1) kx
    have grl' := goes_key (d := rl.w 0) krl
    simp only [PD.w, gx, gr, grl] at *
    refine ⟨⟨⟨W _ l (fun k p => ?_) h1, rll.ord_mono (fun k p => ?_) h2⟩, W _ rlr (fun k p => ?_) h3⟩, rr.ord_mono (fun k p => ?_) h4⟩ <;> simp only [gr', gx', grl'] <;> (repeat' apply And.intro) <;> first | omega | exact p.1 | exact p.1.1 | exact p.1.1.1 | exact p.1.1.1.1 | exact p.1.1.1.1.1
  | @w5 x r l rl rr =>
    obtain ⟨kx, kl, ⟨kr, krl, krr⟩⟩ := hk
    obtain ⟨h1, h2, h3⟩ := ho
    obtain ⟨z0, hz0⟩ := BT.ord_some krl h2
    have gx := goes_key kx
    have gr := goes_key kr
    have gr' := goes_key (d := r.w x.wt) kr
    have gx' := goes_key (d := x.w 1) kx
    simp only [PD.w, gx, gr] at *
    refine ⟨⟨W _ l (fun k p => ?_) h1, rl.ord_mono (fun k p => ?_) h2⟩, W _ rr (fun k p => ?_) h3⟩ <;> simp only [gr', gx'] <;> (repeat' apply And.intro) <;> first | omega | exact p.1 | exact p.1.1 | exact p.1.1.1 | exact p.1.1.1.1 | exact p.1.1.1.1.1
  | @w6 x r rl l rll rlr rr =>
    obtain ⟨kx, kl, ⟨kr, ⟨krl, krll, krlr⟩, krr⟩⟩ := hk
    obtain ⟨h1, ⟨h2, h3⟩, h4⟩ := ho
    obtain ⟨z0, hz0⟩ := BT.ord_some krll h2
    obtain ⟨z1, hz1⟩ := BT.ord_some krlr h3
    have gx := goes_key kx
    have gr := goes_key kr
    have grl := goes_key krl
    have grl' := goes_key (d := rl.w x.wt) krl
    have gx' := goes_key (d := x.w 1) kx
    have gr' := goes_key (d := r.w 1) kr
    simp only [PD.w, gx, gr, grl] at *
    refine ⟨⟨W _ l (fun k p => ?_) h1, rll.ord_mono (fun k p => ?_) h2⟩, rlr.ord_mono (fun k p => ?_) h3, rr.ord_mono (fun k p => ?_) h4⟩ <;> simp only [grl', gx', gr'] <;> (repeat' apply And.intro) <;> first | omega | exact p.1 | exact p.1.1 | exact p.1.1.1 | exact p.1.1.1.1 | exact p.1.1.1.1.1
  | w7 => exact ⟨W _ _ (fun k p => p) ho.1, W _ _ (fun k p => p) ho.2⟩
  | root => exact W _ _ (fun k p => p) ho
theorem step_ord1 {root : Bool} {k : Int} {b c : BT} (h : StepR root k b c) (hk : b.all (fun d => d.inf = 0)) {S : Int → Prop} (ho : b.ord true S) : c.ord true S := by
  have W : ∀ (a : Int) (b : BT) {S S' : Int → Prop}, (∀ k, S k → S' k) → b.ord true S → (b.wset a).ord true S' := fun a b S S' h q => (BT.wset_ord true a b S').2 (b.ord_mono h q)
  cases h with
  | blk => exact ⟨W _ _ (fun k p => p) ho.1, W _ _ (fun k p => p) ho.2⟩
  | @rb1 x l ll lr r =>
    obtain ⟨kx, ⟨kl, kll, klr⟩, kr⟩ := hk
    obtain ⟨⟨h1, h2⟩, h3⟩ := ho
    obtain ⟨z0, hz0⟩ := BT.ord_some klr h2
    have gx := goes_keyM kx
    have gl := goes_keyM kl
    have gl' := goes_keyM (d := l.w x.wt) kl
    have gx' := goes_keyM (d := x.w 0) kx
    simp only [PD.w, gx, gl] at *
    refine ⟨ll.ord_mono (fun k p => ?_) h1, lr.ord_mono (fun k p => ?_) h2, r.ord_mono (fun k p => ?_) h3⟩ <;> simp only [gl', gx'] <;> (repeat' apply And.intro) <;> first | omega | exact p.1 | exact p.1.1 | exact p.1.1.1 | exact p.1.1.1.1 | exact p.1.1.1.1.1
  | @rb2 x l lr ll lrl lrr r =>
    obtain ⟨kx, ⟨kl, kll, ⟨klr, klrl, klrr⟩⟩, kr⟩ := hk
    obtain ⟨⟨h1, ⟨h2, h3⟩⟩, h4⟩ := ho
    obtain ⟨z0, hz0⟩ := BT.ord_some klrl h2
    obtain ⟨z1, hz1⟩ := BT.ord_some klrr h3
    have gx := goes_keyM kx
    have gl := goes_keyM kl
    have glr := goes_keyM klr
    have glr' := goes_keyM (d := lr.w x.wt) klr
    have gl' := goes_keyM (d := l.w 0) kl
    have gx' := goes_keyM (d := x.w 0) kx
    simp only [PD.w, gx, gl, glr] at *
    refine ⟨⟨ll.ord_mono (fun k p => ?_) h1, lrl.ord_mono (fun k p => ?_) h2⟩, lrr.ord_mono (fun k p => ?_) h3, r.ord_mono (fun k p => ?_) h4⟩ <;> simp only [glr', gl', gx'] <;> (repeat' apply And.intro) <;> first | omega | exact p.1 | exact p.1.1 | exact p.1.1.1 | exact p.1.1.1.1 | exact p.1.1.1.1.1
  | push => exact ⟨W _ _ (fun k p => p) ho.1, ho.2⟩
  | @w1 x r l rl rr =>
    obtain ⟨kx, kl, ⟨kr, krl, krr⟩⟩ := hk
    obtain ⟨h1, h2, h3⟩ := ho
    obtain ⟨z0, hz0⟩ := BT.ord_some krl h2
    have gx := goes_keyM kx
    have gr := goes_keyM kr
    have gr' := goes_keyM (d := r.w x.wt) kr
    have gx' := goes_keyM (d := x.w 1) kx
    simp only [PD.w, gx, gr] at *
    refine ⟨⟨W _ l (fun k p => ?_) h1, W _ rl (fun k p => ?_) h2⟩, rr.ord_mono (fun k p => ?_) h3⟩ <;> simp only [gr', gx'] <;> (repeat' apply And.intro) <;> first | omega | exact p.1 | exact p.1.1 | exact p.1.1.1 | exact p.1.1.1.1 | exact p.1.1.1.1.1
  | @w2 x r rl l rll rlr rr =>
    obtain ⟨kx, kl, ⟨kr, ⟨krl, krll, krlr⟩, krr⟩⟩ := hk
    obtain ⟨h1, ⟨h2, h3⟩, h4⟩ := ho
    obtain ⟨z0, hz0⟩ := BT.ord_some krll h2
    obtain ⟨z1, hz1⟩ := BT.ord_some krlr h3
    have gx := goes_keyM kx
    have gr := goes_keyM kr
    have grl := goes_keyM krl
    have gr' := goes_keyM (d := r.w x.wt) kr
    have gx' := goes_keyM (d := x.w 1) kx
    have grl' := goes_keyM (d := rl.w 0) krl
    simp only [PD.w, gx, gr, grl] at *
    refine ⟨⟨W _ l (fun k p => ?_) h1, rll.ord_mono (fun k p => ?_) h2, rlr.ord_mono (fun k p => ?_) h3⟩, rr.ord_mono (fun k p => ?_) h4⟩ <;> simp only [gr', gx', grl'] <;> (repeat' apply And.intro) <;> first | omega | exact p.1 | exact p.1.1 | exact p.1.1.1 | exact p.1.1.1.1 | exact p.1.1.1.1.1
  | @w3 x r rl rll l rlll rllr rlr rr =>
    obtain ⟨kx, kl, ⟨kr, ⟨krl, ⟨krll, krlll, krllr⟩, krlr⟩, krr⟩⟩ := hk
    obtain ⟨h1, ⟨⟨h2, h3⟩, h4⟩, h5⟩ := ho
    obtain ⟨z0, hz0⟩ := BT.ord_some krlll h2
    obtain ⟨z1, hz1⟩ := BT.ord_some krllr h3
    obtain ⟨z2, hz2⟩ := BT.ord_some krlr h4
    have gx := goes_keyM kx
    have gr := goes_keyM kr
    have grl := goes_keyM krl
    have grll := goes_keyM krll
    have gr' := goes_keyM (d := r.w x.wt) kr
    have gx' := goes_keyM (d := x.w 1) kx
    have grl' := goes_keyM (d := rl.w 1) krl
    have grll' := goes_keyM (d := rll.w 0) krll
    simp only [PD.w, gx, gr, grl, grll] at *
    refine ⟨⟨⟨W _ l (fun k p => ?_) h1, rlll.ord_mono (fun k p => ?_) h2⟩, rllr.ord_mono (fun k p => ?_) h3, rlr.ord_mono (fun k p => ?_) h4⟩, rr.ord_mono (fun k p => ?_) h5⟩ <;> simp only [gr', gx', grl', grll'] <;> (repeat' apply And.intro) <;> first | omega | exact p.1 | exact p.1.1 | exact p.1.1.1 | exact p.1.1.1.1 | exact p.1.1.1.1.1
  | @w4 x r rl l rll rlr rr =>
    obtain ⟨kx, kl, ⟨kr, ⟨krl, krll, krlr⟩, krr⟩⟩ := hk
    obtain ⟨h1, ⟨h2, h3⟩, h4⟩ := ho
    obtain ⟨z0, hz0⟩ := BT.ord_some krll h2
    obtain ⟨z1, hz1⟩ := BT.ord_some krlr h3
    have gx := goes_keyM kx
    have gr := goes_keyM kr
    have grl := goes_keyM krl
    have gr' := goes_keyM (d := r.w x.wt) kr
    have gx' := goes_keyM (d := x.w 1) kx
    have grl' := goes_keyM (d := rl.w 0) krl
    simp only [PD.w, gx, gr, grl] at *
    refine ⟨⟨⟨W _ l (fun k p => ?_) h1, rll.ord_mono (fun k p => ?_) h2⟩, W _ rlr (fun k p => ?_) h3⟩, rr.ord_mono (fun k p => ?_) h4⟩ <;> simp only [gr', gx', grl'] <;> (repeat' apply And.intro) <;> first | omega | exact p.1 | exact p.1.1 | exact p.1.1.1 | exact p.1.1.1.1 | exact p.1.1.1.1.1
  | @w5 x r l rl rr =>
    obtain ⟨kx, kl, ⟨kr, krl, krr⟩⟩ := hk
    obtain ⟨h1, h2, h3⟩ := ho
    obtain ⟨z0, hz0⟩ := BT.ord_some krl h2
    have gx := goes_keyM kx
    have gr := goes_keyM kr
    have gr' := goes_keyM (d := r.w x.wt) kr
    have gx' := goes_keyM (d := x.w 1) kx
    simp only [PD.w, gx, gr] at *
    refine ⟨⟨W _ l (fun k p => ?_) h1, rl.ord_mono (fun k p => ?_) h2⟩, W _ rr (fun k p => ?_) h3⟩ <;> simp only [gr', gx'] <;> (repeat' apply And.intro) <;> first | omega | exact p.1 | exact p.1.1 | exact p.1.1.1 | exact p.1.1.1.1 | exact p.1.1.1.1.1
  | @w6 x r rl l rll rlr rr =>
    obtain ⟨kx, kl, ⟨kr, ⟨krl, krll, krlr⟩, krr⟩⟩ := hk
    obtain ⟨h1, ⟨h2, h3⟩, h4⟩ := ho
    obtain ⟨z0, hz0⟩ := BT.ord_some krll h2
    obtain ⟨z1, hz1⟩ := BT.ord_some krlr h3
    have gx := goes_keyM kx
    have gr := goes_keyM kr
    have grl := goes_keyM krl
    have grl' := goes_keyM (d := rl.w x.wt) krl
    have gx' := goes_keyM (d := x.w 1) kx
    have gr' := goes_keyM (d := r.w 1) kr
    simp only [PD.w, gx, gr, grl] at *
    refine ⟨⟨W _ l (fun k p => ?_) h1, rll.ord_mono (fun k p => ?_) h2⟩, rlr.ord_mono (fun k p => ?_) h3, rr.ord_mono (fun k p => ?_) h4⟩ <;> simp only [grl', gx', gr'] <;> (repeat' apply And.intro) <;> first | omega | exact p.1 | exact p.1.1 | exact p.1.1.1 | exact p.1.1.1.1 | exact p.1.1.1.1.1
  | w7 => exact ⟨W _ _ (fun k p => p) ho.1, W _ _ (fun k p => p) ho.2⟩
  | root => exact W _ _ (fun k p => p) ho
theorem step_ord {root : Bool} {k : Int} {b c : BT} (mi : Bool) (h : StepR root k b c) (hk : b.all (fun d => d.inf = 0)) {S : Int → Prop} (ho : b.ord mi S) : c.ord mi S := by
  cases mi
  · exact step_ord0 h hk ho
  · exact step_ord1 h hk ho
end Go.Proofs.YthlhbajaogonnaaDoor
