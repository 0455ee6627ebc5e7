
/- Layer 18, pure: what Do keeps; the example. -/

import Derived.Test.YtfjkddjjpbdjkaaSQ9

import Derived.Test.YtfjkddjjpbdjkaaSQ10

namespace Go.Proofs.Ytfjkddjjpbdjkaa

theorem graft_here {t : NL} {q : Nat} {u K : BT} (h : GraftR t q u q K) : K = u := by
  cases h with
  | here => rfl
  | leaf hn => exact absurd rfl hn
  | node hn => exact absurd rfl hn
theorem DoF.kNe {t : NL} {p k : Int} {mi : Bool} {x l r s : Nat} {K : BT} {n : Nat} {b c C K' : BT} {u : NL} (h : DoF t p k mi x l r s K n b c C K' u) (hn : n ≠ x) : k ≠ 12 := by
  intro e
  subst e
  have := h.step
  rw [decide_eq_false hn] at this
  cases this with
  | root q => cases q
theorem DoF.prs {t : NL} {p k : Int} {mi : Bool} {x l r s : Nat} {K : BT} {n : Nat} {b c C K' : BT} {u : NL} (h : DoF t p k mi x l r s K n b c C K' u) : (crnB t l r s K').prs = (crnB t l r s K).prs := by
  obtain ⟨M, m1, m2, m3⟩ := h.keyM
  have hC : C.prs = b.prs := by
    have e : (if n = x then c.wset 1 else c).prs = c.prs := by
      split
      · exact BT.wset_prs _ _
      · rfl
    have e2 : (b.mt mi).prs = c.prs := (step_prs h.step).symm
    rw [h.new, BT.mt_prs_rev, e, ← e2, BT.mt_prs_rev]
    cases mi <;> simp
  have hK := graft_ind (fun a a' => a'.prs = a.prs) h.abs hC (fun d l l' r q => by simp only [BT.prs, q]) (fun d l r r' q => by simp only [BT.prs, q]) m1 m2 m3 h.crn.keys h.keys
  simp only [crnB, BT.prs, hK]
theorem DoF.ord {t : NL} {p k : Int} {mi : Bool} {x l r s : Nat} {K : BT} {n : Nat} {b c C K' : BT} {u : NL} (h : DoF t p k mi x l r s K n b c C K' u) {S : Int → Prop} (ho : (crnB t l r s K).ord false S) : (crnB t l r s K').ord false S := by
  obtain ⟨M, m1, m2, m3⟩ := h.keyM
  have hC : b.all (fun d => d.inf = 0) → ∀ S, b.ord false S → C.ord false S := by
    intro hb S hS
    have hc := step_ord mi h.step ((BT.mt_all mi b).2 hb) ((BT.ord_mt mi b).2 hS)
    have hc2 : (if n = x then c.wset 1 else c).ord mi S := by
      split
      · exact (BT.wset_ord mi 1 c S).2 hc
      · exact hc
    rw [h.new]
    have := (BT.ord_mt mi ((if n = x then c.wset 1 else c).mt mi) (S := S)).1
    rw [BT.mt_mt] at this
    exact this hc2
  have hK := graft_ind (fun a a' => a.all (fun d => d.inf = 0) → ∀ S, a.ord false S → a'.ord false S) h.abs hC (fun d l l' r q g S o => ⟨q g.2.1 _ o.1, o.2⟩) (fun d l r r' q g S o => ⟨o.1, q g.2.2 _ o.2⟩) m1 m2 m3 h.crn.keys h.keys
  exact ⟨⟨hK h.crn.nokey _ ho.1.1, ho.1.2⟩, ho.2⟩
theorem DoF.sms {t : NL} {p k : Int} {mi : Bool} {x l r s : Nat} {K : BT} {n : Nat} {b c C K' : BT} {u : NL} (h : DoF t p k mi x l r s K n b c C K' u) : (n ≠ x → K'.sms 0 = K.sms 0) ∧ (n = x → K'.wt = 1) ∧ ∃ d, K'.sms 0 = K.sms d := by
  obtain ⟨M, m1, m2, m3⟩ := h.keyM
  by_cases e : n = x
  · subst e
    obtain rfl := graft_here h.keys
    obtain rfl := h.crn.keys.det h.abs
    refine ⟨fun q => absurd rfl q, fun _ => ?_, ?_⟩
    · rw [h.new, if_pos rfl, BT.mt_wt, BT.wset_wt]
    · rw [h.new, if_pos rfl]
      by_cases e12 : k = 12
      · have hs := h.step
        subst e12
        cases hs with
        | root =>
          rw [BT.wset_wset]
          refine ⟨0 + 1 - (K.mt mi).wt, ?_⟩
          have := BT.mt_sms mi ((K.mt mi).wset 1) (K.mt mi) (a := 0) (BT.wset_sms 1 _ 0)
          rw [BT.mt_mt] at this
          exact this
      · refine ⟨0 + 1 - c.wt, ?_⟩
        have := BT.mt_sms mi (c.wset 1) (K.mt mi) (a := 0) ((BT.wset_sms 1 c 0).trans (step_sms h.step e12 _))
        rw [BT.mt_mt] at this
        exact this
  · have hk := h.kNe e
    have hC : ∀ a, C.sms a = b.sms a := by
      intro a
      have := BT.mt_sms mi c (b.mt mi) (a := a) (step_sms h.step hk a)
      rw [BT.mt_mt] at this
      rw [h.new, if_neg e]
      exact this
    have hK := graft_ind (fun a a' => ∀ z, a'.sms z = a.sms z) h.abs hC (fun d l l' r q z => by simp only [BT.sms, q]) (fun d l r r' q z => by simp only [BT.sms, q]) m1 m2 m3 h.crn.keys h.keys
    exact ⟨fun _ => hK 0, fun q => absurd q e, 0, hK 0⟩
theorem DoF.bad {t : NL} {p k : Int} {mi : Bool} {x l r s : Nat} {K : BT} {n : Nat} {b c C K' : BT} {u : NL} (h : DoF t p k mi x l r s K n b c C K' u) : K'.bad ≤ K.bad ∧ (lessK k = true → K'.bad < K.bad) := by
  obtain ⟨M, m1, m2, m3⟩ := h.keyM
  obtain ⟨-, hf⟩ := formE_ok h.crn.form
  have hb := BT.mt_ok mi (abs_ok hf h.abs)
  obtain ⟨s1, s2, s3⟩ := step_bad h.step hb
  rw [BT.mt_bad] at s1 s2 s3
  have ez : (b.mt mi).z = b.z := by unfold BT.z; rw [BT.mt_wt]
  rw [ez] at s2 s3
  by_cases e : n = x
  · subst e
    obtain rfl := graft_here h.keys
    obtain rfl := h.crn.keys.det h.abs
    have hw := c.wset1_bad
    rw [h.new, if_pos rfl, BT.mt_bad]
    exact ⟨by omega, fun q => by have := (s3 q).1; omega⟩
  · have hk := h.kNe e
    rw [if_neg hk] at s2
    have hCb : C.bad = c.bad := by rw [h.new, if_neg e, BT.mt_bad]
    have hCz : C.z = c.z := by unfold BT.z; rw [h.new, if_neg e, BT.mt_wt]
    have nz : ∀ (d : PD) (l l' r : BT), (BT.node d l' r).z = (BT.node d l r).z := fun _ _ _ _ => rfl
    refine ⟨(graft_ind (fun a a' => a'.bad ≤ a.bad ∧ a'.z + a'.bad ≤ a.z + a.bad) h.abs (by rw [hCb, hCz]; exact ⟨s1, by omega⟩) (fun d l l' r q => ?_) (fun d l r r' q => ?_) m1 m2 m3 h.crn.keys h.keys).1, fun hl => (graft_ind (fun a a' => a'.bad < a.bad ∧ a'.z + a'.bad < a.z + a.bad) h.abs (by rw [hCb, hCz]; exact s3 hl) (fun d l l' r q => ?_) (fun d l r r' q => ?_) m1 m2 m3 h.crn.keys h.keys).1⟩
    all_goals
      simp only [BT.node_bad, BT.node_z]
      split <;> omega
/-- The statements' example. -/
def exT : NL := [⟨0, 1, 1, 0, 1, 6⟩, ⟨0, 1, 1, 0, 2, 5⟩, ⟨2, 0, 1, 0, 3, 4⟩, ⟨1, 0, 2, 0, -1, -1⟩, ⟨2, 0, 2, 0, -1, -1⟩, ⟨0, 1, 1, 0, -1, -1⟩, ⟨0, 1, 1, 0, -1, -1⟩]
def exU : NL := [⟨0, 1, 1, 0, 1, 6⟩, ⟨0, 1, 1, 0, 2, 5⟩, ⟨2, 0, 1, 0, 3, 4⟩, ⟨1, 0, 1, 0, -1, -1⟩, ⟨2, 0, 1, 0, -1, -1⟩, ⟨0, 1, 1, 0, -1, -1⟩, ⟨0, 1, 1, 0, -1, -1⟩]
def exK : BT := .node ⟨2, 0, 1, 0⟩ (.leaf ⟨1, 0, 2, 0⟩) (.leaf ⟨2, 0, 2, 0⟩)
def exB (K : BT) : BT := .node ⟨0, 1, 1, 0⟩ (.node ⟨0, 1, 1, 0⟩ K (.leaf ⟨0, 1, 1, 0⟩)) (.leaf ⟨0, 1, 1, 0⟩)
theorem ex_do : doE exT 2 11 false = 0 ∧ doL exT 2 11 false = exU := by
  have e0 : exT = (exB exK).lay 0 := rfl
  have hok : (exB exK).ok := by
    simp only [exB, exK, BT.ok, PD.ok]
    decide
  have hform : formE exT = 0 := by rw [e0]; exact lay_formE hok (by decide)
  have a3 : Abs exT 3 (.leaf ⟨1, 0, 2, 0⟩) := Abs.leaf (t := exT) (p := 3) (by decide) rfl rfl
  have a4 : Abs exT 4 (.leaf ⟨2, 0, 2, 0⟩) := Abs.leaf (t := exT) (p := 4) (by decide) rfl rfl
  have a2 : Abs exT 2 exK := Abs.node (t := exT) (p := 2) (l := 3) (r := 4) (by decide) rfl rfl a3 a4
  have cr : Crn exT 2 1 6 5 exK := root_is hform ⟨rfl, rfl, rfl, rfl⟩ ⟨rfl, rfl, rfl, rfl⟩ ⟨rfl, rfl, rfl, rfl⟩ ⟨rfl, rfl, rfl, rfl⟩ a2 ⟨rfl, rfl, rfl⟩
  have hl : lookE exT 2 11 false = 0 := by
    unfold lookE
    rw [if_neg (by rw [cr.root]; simp), if_neg (by decide), if_neg (by decide)]
  have hS : StepR true 11 exK (.node (PD.w ⟨2, 0, 1, 0⟩ 2) (.leaf ⟨1, 0, 1, 0⟩) (.leaf ⟨2, 0, 1, 0⟩)) := StepR.w7 (x := ⟨2, 0, 1, 0⟩) (l := .leaf ⟨1, 0, 2, 0⟩) (r := .leaf ⟨2, 0, 2, 0⟩) (by decide) (by decide)
  have hr : atR exT 2 = true := by unfold atR; rw [cr.root]; rfl
  have ht : theB exT (2 : Int).toNat = exK := theB_of a2
  have hc : canA exT 2 11 false = true := by
    have := can_of_step hS
    unfold canA
    rw [show decide ((2 : Int) = (rootR exT).1) = true from hr, ht]
    exact this
  have htd : todoE exT 2 11 false = 0 := by unfold todoE; rw [if_neg (by rw [hl]; simp), if_neg (by rw [hc]; simp)]
  have hdc : doC exT 2 11 false = .node ⟨2, 0, 1, 0⟩ (.leaf ⟨1, 0, 1, 0⟩) (.leaf ⟨2, 0, 1, 0⟩) := by
    unfold doC newB
    rw [hr, ht, if_pos rfl, show exK.mt false = exK from rfl, stB_of hS]
    rfl
  have hde : doE exT 2 11 false = 0 := by
    unfold doE
    rw [if_neg (by rw [htd]; simp), hdc, if_neg (by decide)]
  have g : GraftR exT 2 (.node ⟨2, 0, 1, 0⟩ (.leaf ⟨1, 0, 1, 0⟩) (.leaf ⟨2, 0, 1, 0⟩)) 0 (exB (.node ⟨2, 0, 1, 0⟩ (.leaf ⟨1, 0, 1, 0⟩) (.leaf ⟨2, 0, 1, 0⟩))) :=
    GraftR.node (t := exT) (p := 0) (l := 1) (r := 6) (by decide) (by decide) rfl rfl (GraftR.node (t := exT) (p := 1) (l := 2) (r := 5) (by decide) (by decide) rfl rfl GraftR.here (GraftR.leaf (t := exT) (p := 5) (by decide) (by decide) rfl rfl)) (GraftR.leaf (t := exT) (p := 6) (by decide) (by decide) rfl rfl)
  refine ⟨hde, ?_⟩
  unfold doL
  rw [if_pos hde]
  unfold doB
  rw [hdc, show ((2 : Int).toNat) = 2 from rfl]
  rw [theG_of (show GraftR exT 2 (BT.mt false (.node ⟨2, 0, 1, 0⟩ (.leaf ⟨1, 0, 1, 0⟩) (.leaf ⟨2, 0, 1, 0⟩))) 0 _ from g)]
  rfl
end Go.Proofs.Ytfjkddjjpbdjkaa
