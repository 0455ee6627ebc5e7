
/- Layer 18: build, whatever the kind. -/

import Derived.Test.YtfjkddjjpbdjkaaSBld

import Derived.Test.YtfjkddjjpbdjkaaSBl2

import Derived.Test.YtfjkddjjpbdjkaaSBl3

import Derived.Test.YtfjkddjjpbdjkaaSQ8

namespace Go.Proofs.Ytfjkddjjpbdjkaa

open Go.RowKit

theorem mt_wt {mi : Bool} {t : NL} {p : Nat} (hp : p < t.length) : (ndAt (mt mi t) p).wt = (ndAt t p).wt := by rw [mt_at mi t p hp]; cases mi <;> rfl
theorem mt_kid {mi : Bool} {t : NL} (hf : InForm t) {p q : Nat} (hp : p < t.length) (h : (ndAt (mt mi t) p).l = (q : Int) ∨ (ndAt (mt mi t) p).r = (q : Int)) : q < t.length := by
  rw [mt_at mi t p hp] at h
  refine (child_pos hf.good hp (c := q) ?_).2
  cases mi
  · exact h
  · exact Or.symm h
theorem form_wt {t : NL} (hf : InForm t) {p : Nat} (hp : p < t.length) : 0 ≤ (ndAt t p).wt ∧ (ndAt t p).wt ≤ 1000000 := (hf.good.node p hp).2.2
theorem build_any {w0 w : World} {cb g cap : Nat} {base : Option Addr} {b o c : Nat} {t : NL} {root : Int} {mi rt : Bool} {x : Nat} {k : Int} {B C : BT} {Mx : List Nat} (hf : InForm t) (hA : AT t x B Mx) (hN : Mx.Nodup) (hS : StepR rt k (B.mt mi) C)
    (h : Cs w0 w cb g cap base b o c t root mi (x : Int) (belL t mi (x : Int)) (belR t mi (x : Int)) (belL t mi (belL t mi (x : Int))) (belR t mi (belL t mi (x : Int))) (belL t mi (belR t mi (x : Int))) (belR t mi (belR t mi (x : Int))) (belL t mi (belL t mi (belR t mi (x : Int)))) (belR t mi (belL t mi (belR t mi (x : Int)))) (mt mi t)) :
    ∃ (T : NL) (top : Nat) (M : List Nat), M.Perm Mx ∧ BOut (mt mi t) T M top C ∧ Calls Try.prog 58 #[.pointer (some ⟨cb, 0, none⟩), .int .i64 k] w fun e w' => e = .returned (.int .i64 (top : Int)) ∧ Cs w0 w' cb g cap base b o c t root mi (x : Int) (belL t mi (x : Int)) (belR t mi (x : Int)) (belL t mi (belL t mi (x : Int))) (belR t mi (belL t mi (x : Int))) (belL t mi (belR t mi (x : Int))) (belR t mi (belR t mi (x : Int))) (belL t mi (belL t mi (belR t mi (x : Int)))) (belR t mi (belL t mi (belR t mi (x : Int)))) T := by
  have hx := hA.lt
  obtain ⟨M, hM, hP⟩ := hA.mt mi
  obtain ⟨T, top, hB, hO⟩ := step_built hS hM (hP.nodup_iff.2 hN)
  clear hS hM hA
  have kl : ∀ {p q : Nat}, p < t.length → (ndAt (mt mi t) p).l = (q : Int) → q < t.length ∧ belL t mi (p : Int) = (q : Int) := fun hp e => ⟨mt_kid hf hp (Or.inl e), (bel_mt hp).1.trans e⟩
  have kr : ∀ {p q : Nat}, p < t.length → (ndAt (mt mi t) p).r = (q : Int) → q < t.length ∧ belR t mi (p : Int) = (q : Int) := fun hp e => ⟨mt_kid hf hp (Or.inr e), (bel_mt hp).2.trans e⟩
  cases hB with
  | @k1 l r q1 q2 =>
    obtain ⟨hl, el⟩ := kl hx q1
    obtain ⟨hr, er⟩ := kr hx q2
    rw [el, er] at h ⊢
    rw [mt_wt hx] at hO
    exact ⟨_, _, M, hP, hO, build1 h hx hl hr (form_wt hf hx)⟩
  | @k2 l r ll lr q1 q2 q3 q4 =>
    obtain ⟨hl, el⟩ := kl hx q1
    obtain ⟨hr, er⟩ := kr hx q2
    obtain ⟨hll, ell⟩ := kl hl q3
    obtain ⟨hlr, elr⟩ := kr hl q4
    rw [el, er, ell, elr] at h ⊢
    rw [mt_wt hx] at hO
    exact ⟨_, _, M, hP, hO, build2 h hx hl⟩
  | @k3 l r ll lr lrl lrr q1 q2 q3 q4 q5 q6 =>
    obtain ⟨hl, el⟩ := kl hx q1
    obtain ⟨hr, er⟩ := kr hx q2
    obtain ⟨hll, ell⟩ := kl hl q3
    obtain ⟨hlr, elr⟩ := kr hl q4
    obtain ⟨hlrl, elrl⟩ := kl hlr q5
    obtain ⟨hlrr, elrr⟩ := kr hlr q6
    rw [el, er, ell, elr] at h ⊢
    rw [mt_wt hx] at hO
    exact ⟨_, _, M, hP, hO, build3 h hx hl hlr q5 q6⟩
  | @k4 l r q1 q2 =>
    obtain ⟨hl, el⟩ := kl hx q1
    obtain ⟨hr, er⟩ := kr hx q2
    rw [el, er] at h ⊢
    rw [mt_wt hl, mt_wt hx] at hO
    exact ⟨_, _, M, hP, hO, build4 h hx hl hr (form_wt hf hx) (form_wt hf hl)⟩
  | @k5 l r rl rr q1 q2 q3 q4 =>
    obtain ⟨hl, el⟩ := kl hx q1
    obtain ⟨hr, er⟩ := kr hx q2
    obtain ⟨hrl, erl⟩ := kl hr q3
    obtain ⟨hrr, err⟩ := kr hr q4
    rw [el, er, erl, err] at h ⊢
    rw [mt_wt hl, mt_wt hrl, mt_wt hx] at hO
    exact ⟨_, _, M, hP, hO, build5 h hx hl hr hrl (form_wt hf hl) (form_wt hf hrl)⟩
  | @k6 l r rl rr q1 q2 q3 q4 =>
    obtain ⟨hl, el⟩ := kl hx q1
    obtain ⟨hr, er⟩ := kr hx q2
    obtain ⟨hrl, erl⟩ := kl hr q3
    obtain ⟨hrr, err⟩ := kr hr q4
    rw [el, er, erl, err] at h ⊢
    rw [mt_wt hl, mt_wt hx] at hO
    exact ⟨_, _, M, hP, hO, build6 h hx hl hr hrl (form_wt hf hl)⟩
  | @k7 l r rl rr rll rlr rlll rllr q1 q2 q3 q4 q5 q6 q7 q8 =>
    obtain ⟨hl, el⟩ := kl hx q1
    obtain ⟨hr, er⟩ := kr hx q2
    obtain ⟨hrl, erl⟩ := kl hr q3
    obtain ⟨hrr, err⟩ := kr hr q4
    obtain ⟨hrll, erll⟩ := kl hrl q5
    obtain ⟨hrlr, erlr⟩ := kr hrl q6
    obtain ⟨hrlll, erlll⟩ := kl hrll q7
    obtain ⟨hrllr, erllr⟩ := kr hrll q8
    rw [el, er, erl, err, erll, erlr] at h ⊢
    rw [mt_wt hl, mt_wt hx] at hO
    exact ⟨_, _, M, hP, hO, build7 h hx hl hr hrl hrll (form_wt hf hl) q7 q8⟩
  | @k8 l r rl rr rll rlr q1 q2 q3 q4 q5 q6 =>
    obtain ⟨hl, el⟩ := kl hx q1
    obtain ⟨hr, er⟩ := kr hx q2
    obtain ⟨hrl, erl⟩ := kl hr q3
    obtain ⟨hrr, err⟩ := kr hr q4
    obtain ⟨hrll, erll⟩ := kl hrl q5
    obtain ⟨hrlr, erlr⟩ := kr hrl q6
    rw [el, er, erl, err, erll, erlr] at h ⊢
    rw [mt_wt hl, mt_wt hx] at hO
    exact ⟨_, _, M, hP, hO, build8 h hx hl hr hrl hrlr (form_wt hf hl)⟩
  | @k9 l r rl rr q1 q2 q3 q4 =>
    obtain ⟨hl, el⟩ := kl hx q1
    obtain ⟨hr, er⟩ := kr hx q2
    obtain ⟨hrl, erl⟩ := kl hr q3
    obtain ⟨hrr, err⟩ := kr hr q4
    rw [el, er, erl, err] at h ⊢
    rw [mt_wt hl, mt_wt hx] at hO
    exact ⟨_, _, M, hP, hO, build9 h hx hl hr hrr (form_wt hf hl)⟩
  | @k10 l r rl rr rll rlr q1 q2 q3 q4 q5 q6 =>
    obtain ⟨hl, el⟩ := kl hx q1
    obtain ⟨hr, er⟩ := kr hx q2
    obtain ⟨hrl, erl⟩ := kl hr q3
    obtain ⟨hrr, err⟩ := kr hr q4
    obtain ⟨hrll, erll⟩ := kl hrl q5
    obtain ⟨hrlr, erlr⟩ := kr hrl q6
    rw [el, er, erl, err, erll, erlr] at h ⊢
    rw [mt_wt hl, mt_wt hx] at hO
    exact ⟨_, _, M, hP, hO, build10 h hx hl hr hrl (form_wt hf hl)⟩
  | @k11 l r q1 q2 =>
    obtain ⟨hl, el⟩ := kl hx q1
    obtain ⟨hr, er⟩ := kr hx q2
    rw [el, er] at h ⊢
    rw [mt_wt hl, mt_wt hr, mt_wt hx] at hO
    exact ⟨_, _, M, hP, hO, build11 h hx hl hr (form_wt hf hx) (form_wt hf hl) (form_wt hf hr)⟩
  | k12 =>
    exact ⟨_, _, M, hP, hO, build12 h hx⟩
end Go.Proofs.Ytfjkddjjpbdjkaa
