
/- Layer 18: all that StepsLeaves rests on. -/

import Derived.Test.YtfjkddjjpbdjkaaSQ12

import Derived.Test.YtfjkddjjpbdjkaaTBt3

namespace Go.Proofs.Ytfjkddjjpbdjkaa

theorem ord_abs {t : NL} {p : Nat} {b : BT} (h : Abs t p b) : ∀ {S : Int → Prop}, OrdAt t p S ↔ b.ord false S := by
  induction h with
  | leaf hp hl hr => intro S; exact ord_leaf hp hl hr
  | node hp hl hr _ _ ih1 ih2 =>
    intro S
    rw [ord_inner hp hl hr, ih1, ih2]
    exact Iff.rfl
structure LvF (t u : NL) (x : Nat) (X : NL) (P : PL) (oa ob : Bool) : Prop where
  f1 : formE t = 0
  f2 : formE u = 0
  n1 : normL u = u
  p1 : pairL t = P
  p2 : pairL u = P
  o1 : ordB t = oa
  o2 : ordB u = ob
  oo : oa = true → ob = true
  r1 : rootR t = ((x : Int), 0)
  r2 : rootR u = ((2 : Int), 0)
  s1 : subL u (2 : Int) = X
  s2 : subE u (2 : Int) = 0
  g1 : graA t (x : Int) X = u
  g2 : graE t (x : Int) X = 0
  len : u.length = t.length
  big : P.length ≤ 100000
  inU : NodesIn u
theorem lvf_of {t : NL} {p k : Int} {mi : Bool} {x l r s : Nat} {K : BT} {n : Nat} {b c C K' : BT} {u : NL} (h : DoF t p k mi x l r s K n b c C K' u) (hin : NodesIn t) : ∃ X P oa ob, LvF t u x X P oa ob := by
  obtain ⟨hbig, hf⟩ := formE_ok h.crn.form
  have ab : Abs u 0 (crnB t l r s K') := by rw [h.ans]; exact lay_abs0 _
  have okK' : K'.ok := h.bok.2.2.1.2.2.1
  have szK' : K'.size ≤ 100000 := by
    have e := h.size
    have e2 : (crnB t l r s K').size = K'.size + 4 := by simp only [crnB, BT.size]; omega
    omega
  have fX := lay_formE okK' szK'
  have g := h.crn.graft K'
  have gE := graE_abs h.crn.form fX h.crn.lt.1 (lay_abs0 K') g
  rw [h.size, if_neg (by omega)] at gE
  have inU : NodesIn u := fun y hy => h.all (P := fun d => In64 d.key ∧ In64 d.val) (fun _ _ => Iff.rfl) (fun y hy => hin y hy) y hy
  refine ⟨K'.lay 0, pairL t, ordB t, ordB u, h.crn.form, h.form, ?_, rfl, ?_, rfl, rfl, ?_, h.crn.root, h.crnU.root, (subL_abs h.form h.crnU.lt.1 h.crnU.keys).1, (subL_abs h.form h.crnU.lt.1 h.crnU.keys).2, ?_, gE, h.len, ?_, inU⟩
  · rw [normL_abs h.form ab]; exact h.ans.symm
  · rw [pairL_abs h.form ab, pairL_abs h.crn.form h.crn.abs]; exact h.prs
  · intro q
    have q2 : ordP t := Classical.byContradiction fun hn => by rw [ordB_no hn] at q; cases q
    refine ordB_yes h.form ?_
    exact (ord_abs ab).2 (h.ord ((ord_abs h.crn.abs).1 q2))
  · rw [graA_abs h.crn.form fX h.crn.lt.1 (lay_abs0 K') g (by rw [h.size]; omega)]; exact h.ans.symm
  · have e := pairL_abs h.crn.form h.crn.abs
    have hl := leafL_len h.crn.form hf
    have := pr_len t (leafL t)
    unfold pairL
    rw [if_pos h.crn.form]
    omega
end Go.Proofs.Ytfjkddjjpbdjkaa
