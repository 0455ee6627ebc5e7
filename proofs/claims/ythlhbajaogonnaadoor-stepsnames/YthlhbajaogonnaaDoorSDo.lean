
/- Layer 18: build, whatever the kind. Layer 18: Do. Made by mk_sdo.py. -/

import Derived.Test.YthlhbajaogonnaaDoorSBld

import Derived.Test.YthlhbajaogonnaaDoorSBl2

import Derived.Test.YthlhbajaogonnaaDoorSBl3

import Derived.Test.YthlhbajaogonnaaDoorSQ8

import Derived.Test.YthlhbajaogonnaaDoorSAny

import Derived.Deep.CutRange

namespace Go.Proofs.YthlhbajaogonnaaDoor

open Go.RowKit

theorem mt_wt {mi : Bool} {t : NL} {p : Nat} (hp : p < t.length) : (ndAt (mt mi t) p).wt = (ndAt t p).wt := by rw [mt_at mi t p hp]; cases mi <;> rfl
theorem mt_kid {mi : Bool} {t : NL} (hf : InForm t) {p q : Nat} (hp : p < t.length) (h : (ndAt (mt mi t) p).l = (q : Int) ∨ (ndAt (mt mi t) p).r = (q : Int)) : q < t.length := by
  rw [mt_at mi t p hp] at h
  refine (child_pos hf.good hp (c := q) ?_).2
  cases mi
  · exact h
  · exact Or.symm h
theorem form_wt {t : NL} (hf : InForm t) {p : Nat} (hp : p < t.length) : 0 ≤ (ndAt t p).wt ∧ (ndAt t p).wt ≤ 1000000 := (hf.good.node p hp).2.2
theorem build_any {w0 w : World} {cb g cap : Nat} {base : Option Addr} {b o c : Nat} {t : NL} {root : Int} {mi rt : Bool} {x : Nat} {k : Int} {B C : BT} {Mx : List Nat} (hf : InForm t) (hA : AT t x B Mx) (hN : Mx.Nodup) (hS : StepR rt k (B.mt mi) C)
    (h : Cs w0 w cb g cap base b o c t root mi (x : Int) (belL t mi (x : Int)) (belR t mi (x : Int)) (belL t mi (belL t mi (x : Int))) (belR t mi (belL t mi (x : Int))) (belL t mi (belR t mi (x : Int))) (belR t mi (belR t mi (x : Int))) (belL t mi (belL t mi (belR t mi (x : Int)))) (belR t mi (belL t mi (belR t mi (x : Int)))) (mt mi t)) :
    ∃ (T : NL) (top : Nat) (M : List Nat), M.Perm Mx ∧ BOut (mt mi t) T M top C ∧ Calls Tryd.prog 24 #[.pointer (some ⟨cb, 0, none⟩), .int .i64 k] w fun e w' => e = .returned (.int .i64 (top : Int)) ∧ Cs w0 w' cb g cap base b o c t root mi (x : Int) (belL t mi (x : Int)) (belR t mi (x : Int)) (belL t mi (belL t mi (x : Int))) (belR t mi (belL t mi (x : Int))) (belL t mi (belR t mi (x : Int))) (belR t mi (belR t mi (x : Int))) (belL t mi (belL t mi (belR t mi (x : Int)))) (belR t mi (belL t mi (belR t mi (x : Int)))) T := by
  have hx := hA.lt
  obtain ⟨M, hM, hP⟩ := hA.mt mi
  obtain ⟨T, top, hB, hO⟩ := step_built hS hM (hP.nodup_iff.2 hN)
  clear hS hM hA
  have kl : ∀ {p q : Nat}, p < t.length → (ndAt (mt mi t) p).l = (q : Int) → q < t.length ∧ belL t mi (p : Int) = (q : Int) := fun hp e => ⟨mt_kid hf hp (Or.inl e), (bel_mt hp).1.trans e⟩
  have kr : ∀ {p q : Nat}, p < t.length → (ndAt (mt mi t) p).r = (q : Int) → q < t.length ∧ belR t mi (p : Int) = (q : Int) := fun hp e => ⟨mt_kid hf hp (Or.inr e), (bel_mt hp).2.trans e⟩
  cases hB with
  | @k1 l r q1 q2 =>
    obtain ⟨hl, el⟩ := kl hx q1
    obtain ⟨hr, er⟩ := kr hx q2
    rw [el, er] at h ⊢
    rw [mt_wt hx] at hO
    exact ⟨_, _, M, hP, hO, build1 h hx hl hr (form_wt hf hx)⟩
  | @k2 l r ll lr q1 q2 q3 q4 =>
    obtain ⟨hl, el⟩ := kl hx q1
    obtain ⟨hr, er⟩ := kr hx q2
    obtain ⟨hll, ell⟩ := kl hl q3
    obtain ⟨hlr, elr⟩ := kr hl q4
    rw [el, er, ell, elr] at h ⊢
    rw [mt_wt hx] at hO
    exact ⟨_, _, M, hP, hO, build2 h hx hl⟩
  | @k3 l r ll lr lrl lrr q1 q2 q3 q4 q5 q6 =>
    obtain ⟨hl, el⟩ := kl hx q1
    obtain ⟨hr, er⟩ := kr hx q2
    obtain ⟨hll, ell⟩ := kl hl q3
    obtain ⟨hlr, elr⟩ := kr hl q4
    obtain ⟨hlrl, elrl⟩ := kl hlr q5
    obtain ⟨hlrr, elrr⟩ := kr hlr q6
    rw [el, er, ell, elr] at h ⊢
    rw [mt_wt hx] at hO
    exact ⟨_, _, M, hP, hO, build3 h hx hl hlr q5 q6⟩
  | @k4 l r q1 q2 =>
    obtain ⟨hl, el⟩ := kl hx q1
    obtain ⟨hr, er⟩ := kr hx q2
    rw [el, er] at h ⊢
    rw [mt_wt hl, mt_wt hx] at hO
    exact ⟨_, _, M, hP, hO, build4 h hx hl hr (form_wt hf hx) (form_wt hf hl)⟩
  | @k5 l r rl rr q1 q2 q3 q4 =>
    obtain ⟨hl, el⟩ := kl hx q1
    obtain ⟨hr, er⟩ := kr hx q2
    obtain ⟨hrl, erl⟩ := kl hr q3
    obtain ⟨hrr, err⟩ := kr hr q4
    rw [el, er, erl, err] at h ⊢
    rw [mt_wt hl, mt_wt hrl, mt_wt hx] at hO
    exact ⟨_, _, M, hP, hO, build5 h hx hl hr hrl (form_wt hf hl) (form_wt hf hrl)⟩
  | @k6 l r rl rr q1 q2 q3 q4 =>
    obtain ⟨hl, el⟩ := kl hx q1
    obtain ⟨hr, er⟩ := kr hx q2
    obtain ⟨hrl, erl⟩ := kl hr q3
    obtain ⟨hrr, err⟩ := kr hr q4
    rw [el, er, erl, err] at h ⊢
    rw [mt_wt hl, mt_wt hx] at hO
    exact ⟨_, _, M, hP, hO, build6 h hx hl hr hrl (form_wt hf hl)⟩
  | @k7 l r rl rr rll rlr rlll rllr q1 q2 q3 q4 q5 q6 q7 q8 =>
    obtain ⟨hl, el⟩ := kl hx q1
    obtain ⟨hr, er⟩ := kr hx q2
    obtain ⟨hrl, erl⟩ := kl hr q3
    obtain ⟨hrr, err⟩ := kr hr q4
    obtain ⟨hrll, erll⟩ := kl hrl q5
    obtain ⟨hrlr, erlr⟩ := kr hrl q6
    obtain ⟨hrlll, erlll⟩ := kl hrll q7
    obtain ⟨hrllr, erllr⟩ := kr hrll q8
    rw [el, er, erl, err, erll, erlr] at h ⊢
    rw [mt_wt hl, mt_wt hx] at hO
    exact ⟨_, _, M, hP, hO, build7 h hx hl hr hrl hrll (form_wt hf hl) q7 q8⟩
  | @k8 l r rl rr rll rlr q1 q2 q3 q4 q5 q6 =>
    obtain ⟨hl, el⟩ := kl hx q1
    obtain ⟨hr, er⟩ := kr hx q2
    obtain ⟨hrl, erl⟩ := kl hr q3
    obtain ⟨hrr, err⟩ := kr hr q4
    obtain ⟨hrll, erll⟩ := kl hrl q5
    obtain ⟨hrlr, erlr⟩ := kr hrl q6
    rw [el, er, erl, err, erll, erlr] at h ⊢
    rw [mt_wt hl, mt_wt hx] at hO
    exact ⟨_, _, M, hP, hO, build8 h hx hl hr hrl hrlr (form_wt hf hl)⟩
  | @k9 l r rl rr q1 q2 q3 q4 =>
    obtain ⟨hl, el⟩ := kl hx q1
    obtain ⟨hr, er⟩ := kr hx q2
    obtain ⟨hrl, erl⟩ := kl hr q3
    obtain ⟨hrr, err⟩ := kr hr q4
    rw [el, er, erl, err] at h ⊢
    rw [mt_wt hl, mt_wt hx] at hO
    exact ⟨_, _, M, hP, hO, build9 h hx hl hr hrr (form_wt hf hl)⟩
  | @k10 l r rl rr rll rlr q1 q2 q3 q4 q5 q6 =>
    obtain ⟨hl, el⟩ := kl hx q1
    obtain ⟨hr, er⟩ := kr hx q2
    obtain ⟨hrl, erl⟩ := kl hr q3
    obtain ⟨hrr, err⟩ := kr hr q4
    obtain ⟨hrll, erll⟩ := kl hrl q5
    obtain ⟨hrlr, erlr⟩ := kr hrl q6
    rw [el, er, erl, err, erll, erlr] at h ⊢
    rw [mt_wt hl, mt_wt hx] at hO
    exact ⟨_, _, M, hP, hO, build10 h hx hl hr hrl (form_wt hf hl)⟩
  | @k11 l r q1 q2 =>
    obtain ⟨hl, el⟩ := kl hx q1
    obtain ⟨hr, er⟩ := kr hx q2
    rw [el, er] at h ⊢
    rw [mt_wt hl, mt_wt hr, mt_wt hx] at hO
    exact ⟨_, _, M, hP, hO, build11 h hx hl hr (form_wt hf hx) (form_wt hf hl) (form_wt hf hr)⟩
  | k12 =>
    exact ⟨_, _, M, hP, hO, build12 h hx⟩
end Go.Proofs.YthlhbajaogonnaaDoor

namespace Go.Proofs.YthlhbajaogonnaaDoor

open Go.RowKit

attribute [local go_sem ↓] Go.wp_at_zero Go.wp_at_succ

/-- Is it the root of the keys? -/
noncomputable def atR (t : NL) (p : Int) : Bool := decide (p = (rootR t).1)
/-- The new tree in the place, as the move sees it. -/
noncomputable def doC (t : NL) (p k : Int) (mi : Bool) : BT := newB (atR t p) k ((theB t p.toNat).mt mi)
noncomputable def doE (t : NL) (p k : Int) (mi : Bool) : Int := if todoE t p k mi ≠ 0 then todoE t p k mi else if 1000000 < (doC t p k mi).wt then 2 else 0
noncomputable def doB (t : NL) (p k : Int) (mi : Bool) : BT := theG t p.toNat ((doC t p k mi).mt mi)
noncomputable def doL (t : NL) (p k : Int) (mi : Bool) : NL := if doE t p k mi = 0 then (doB t p k mi).lay 0 else []
theorem norm_of {t : NL} (he : formE t = 0) {b : BT} (hb : Abs t 0 b) : normL t = b.lay 0 := by
  obtain ⟨-, hf⟩ := formE_ok he
  obtain ⟨hT, hN, -⟩ := theL_form hf
  rw [normL_ok he]
  exact part_lay hT hN hb
theorem todo_ok {t : NL} {p k : Int} {mi : Bool} (h : todoE t p k mi = 0) : lookE t p k mi = 0 ∧ canA t p k mi = true := by
  unfold todoE at h
  split at h
  · rename_i q; exact absurd h q
  · rename_i q
    split at h
    · simp at h
    · rename_i q2
      exact ⟨by simpa using q, by simpa using q2⟩
/-- What a step that can be done is, as trees. -/
theorem todo_is {t : NL} {p k : Int} {mi : Bool} (h : todoE t p k mi = 0) : ∃ (x : Nat) (B C : BT) (M : List Nat), p = (x : Int) ∧ x < t.length ∧ x ≠ 0 ∧ formE t = 0 ∧ AT t x B M ∧ M.Nodup ∧ StepR (atR t p) k (B.mt mi) C ∧ doC t p k mi = (if atR t p then C.wset 1 else C) := by
  obtain ⟨h1, h2⟩ := todo_ok h
  obtain ⟨x, B, rfl, hx, hx0, hB, hform, hk⟩ := look_place h1
  obtain ⟨-, hf⟩ := formE_ok hform
  obtain ⟨M, m1, m2, -⟩ := form_at hf x hx
  unfold canA at h2
  rw [Int.toNat_natCast, theB_of hB] at h2
  obtain ⟨C, hC⟩ := step_of_can hk h2
  refine ⟨x, B, C, M, rfl, hx, hx0, hform, ⟨hB, m1⟩, m2, hC, ?_⟩
  unfold doC newB
  rw [Int.toNat_natCast, theB_of hB, stB_of (root := atR t (x : Int)) hC]
/-- A change has been laid. -/
def DoCh (W3 : World) (base : Option Addr) (b o c : Nat) (t : NL) (rt : Int) (mi : Bool) (x : Nat) (v4 v5 v6 v7 v8 v9 v10 v11 : Int) (v : Value) (wx : World) : Prop :=
  ∃ cb g cap, v = .pointer (some ⟨cb, 0, none⟩) ∧ Cs W3 wx cb g cap base b o c t rt mi (x : Int) v4 v5 v6 v7 v8 v9 v10 v11 (mt mi t)
theorem doch_of {W3 z : World} {cb g cap : Nat} {base : Option Addr} {b o c : Nat} {t : NL} {rt : Int} {mi : Bool} {x : Nat} {v4 v5 v6 v7 v8 v9 v10 v11 : Int} (hbox : ∀ i v, (#[.slice base t.length c, .int .i64 rt, .bool mi, .int .i64 (x : Int), .int .i64 v4, .int .i64 v5, .int .i64 v6, .int .i64 v7, .int .i64 v8, .int .i64 v9, .int .i64 v10, .int .i64 v11, .slice (some ⟨g, 0, none⟩) t.length cap] : Array Value)[i]? = some v → z.cell? ⟨cb, i, none⟩ = some v) (hlt : cb < z.heap.size) (hne : cb ≠ g) (hn : NodesAt W3 base b o t) (hpos : 0 < t.length) (hM : MAt W3 z g cap t) : DoCh W3 base b o c t rt mi x v4 v5 v6 v7 v8 v9 v10 v11 (.pointer (some ⟨cb, 0, none⟩)) z := by
  have hbl := hn.lt (by omega)
  have hg := hM.lt.1
  refine ⟨cb, g, cap, rfl, ⟨hbox 0 _ rfl, hbox 1 _ rfl, hbox 2 _ rfl, hbox 3 _ rfl, hbox 4 _ rfl, hbox 5 _ rfl, hbox 6 _ rfl, hbox 7 _ rfl, hbox 8 _ rfl, hbox 9 _ rfl, hbox 10 _ rfl, hbox 11 _ rfl, hbox 12 _ rfl, hlt, hne, by omega, hn.below hM.below⟩, ?_, mt_length _ _⟩
  rw [mt_mt]
  exact hM
theorem doch_new {W3 w5 : World} {g cap : Nat} {base : Option Addr} {b o c : Nat} {t : NL} {rt : Int} {mi : Bool} {x : Nat} {v4 v5 v6 v7 v8 v9 v10 v11 : Int} (hn : NodesAt W3 base b o t) (hpos : 0 < t.length) (hM : MAt W3 w5 g cap t) : DoCh W3 base b o c t rt mi x v4 v5 v6 v7 v8 v9 v10 v11 (.pointer (some ⟨w5.heap.size, 0, none⟩)) (w5.alloc (.cells #[.slice base t.length c, .int .i64 rt, .bool mi, .int .i64 (x : Int), .int .i64 v4, .int .i64 v5, .int .i64 v6, .int .i64 v7, .int .i64 v8, .int .i64 v9, .int .i64 v10, .int .i64 v11, .slice (some ⟨g, 0, none⟩) t.length cap] 64)) :=
  doch_of (fun i v hv => (cell_of (heap_alloc_at w5 _ _ rfl) i v hv).1) (by simp) (fun e => by have := hM.lt.2; omega) hn hpos (hM.quiet (below_alloc _ _))
theorem set13 {z : World} {q : Nat} {a0 a1 a2 a3 a4 a5 a6 a7 a8 a9 a10 a11 a12 : Value} {T : TypeId} (h : z.heap[q]? = some (.cells #[a0, a1, a2, a3, a4, a5, a6, a7, a8, a9, a10, a11, a12] T (0, 0))) (b0 b1 b2 b3 b4 b5 b6 b7 b8 b9 b10 b11 b12 : Value) :
    (((((((((((((z.setCell ⟨q, 0, none⟩ b0).setCell ⟨q, 1, none⟩ b1).setCell ⟨q, 2, none⟩ b2).setCell ⟨q, 3, none⟩ b3).setCell ⟨q, 4, none⟩ b4).setCell ⟨q, 5, none⟩ b5).setCell ⟨q, 6, none⟩ b6).setCell ⟨q, 7, none⟩ b7).setCell ⟨q, 8, none⟩ b8).setCell ⟨q, 9, none⟩ b9).setCell ⟨q, 10, none⟩ b10).setCell ⟨q, 11, none⟩ b11).setCell ⟨q, 12, none⟩ b12).heap[q]? = some (.cells #[b0, b1, b2, b3, b4, b5, b6, b7, b8, b9, b10, b11, b12] T (0, 0)) := by
  have e1 : (z.setCell ⟨q, 0, none⟩ b0).heap[q]? = some (.cells #[b0, a1, a2, a3, a4, a5, a6, a7, a8, a9, a10, a11, a12] T (0, 0)) := heap_set h b0
  have e2 : ((z.setCell ⟨q, 0, none⟩ b0).setCell ⟨q, 1, none⟩ b1).heap[q]? = some (.cells #[b0, b1, a2, a3, a4, a5, a6, a7, a8, a9, a10, a11, a12] T (0, 0)) := heap_set e1 b1
  have e3 : (((z.setCell ⟨q, 0, none⟩ b0).setCell ⟨q, 1, none⟩ b1).setCell ⟨q, 2, none⟩ b2).heap[q]? = some (.cells #[b0, b1, b2, a3, a4, a5, a6, a7, a8, a9, a10, a11, a12] T (0, 0)) := heap_set e2 b2
  have e4 : ((((z.setCell ⟨q, 0, none⟩ b0).setCell ⟨q, 1, none⟩ b1).setCell ⟨q, 2, none⟩ b2).setCell ⟨q, 3, none⟩ b3).heap[q]? = some (.cells #[b0, b1, b2, b3, a4, a5, a6, a7, a8, a9, a10, a11, a12] T (0, 0)) := heap_set e3 b3
  have e5 : (((((z.setCell ⟨q, 0, none⟩ b0).setCell ⟨q, 1, none⟩ b1).setCell ⟨q, 2, none⟩ b2).setCell ⟨q, 3, none⟩ b3).setCell ⟨q, 4, none⟩ b4).heap[q]? = some (.cells #[b0, b1, b2, b3, b4, a5, a6, a7, a8, a9, a10, a11, a12] T (0, 0)) := heap_set e4 b4
  have e6 : ((((((z.setCell ⟨q, 0, none⟩ b0).setCell ⟨q, 1, none⟩ b1).setCell ⟨q, 2, none⟩ b2).setCell ⟨q, 3, none⟩ b3).setCell ⟨q, 4, none⟩ b4).setCell ⟨q, 5, none⟩ b5).heap[q]? = some (.cells #[b0, b1, b2, b3, b4, b5, a6, a7, a8, a9, a10, a11, a12] T (0, 0)) := heap_set e5 b5
  have e7 : (((((((z.setCell ⟨q, 0, none⟩ b0).setCell ⟨q, 1, none⟩ b1).setCell ⟨q, 2, none⟩ b2).setCell ⟨q, 3, none⟩ b3).setCell ⟨q, 4, none⟩ b4).setCell ⟨q, 5, none⟩ b5).setCell ⟨q, 6, none⟩ b6).heap[q]? = some (.cells #[b0, b1, b2, b3, b4, b5, b6, a7, a8, a9, a10, a11, a12] T (0, 0)) := heap_set e6 b6
  have e8 : ((((((((z.setCell ⟨q, 0, none⟩ b0).setCell ⟨q, 1, none⟩ b1).setCell ⟨q, 2, none⟩ b2).setCell ⟨q, 3, none⟩ b3).setCell ⟨q, 4, none⟩ b4).setCell ⟨q, 5, none⟩ b5).setCell ⟨q, 6, none⟩ b6).setCell ⟨q, 7, none⟩ b7).heap[q]? = some (.cells #[b0, b1, b2, b3, b4, b5, b6, b7, a8, a9, a10, a11, a12] T (0, 0)) := heap_set e7 b7
  have e9 : (((((((((z.setCell ⟨q, 0, none⟩ b0).setCell ⟨q, 1, none⟩ b1).setCell ⟨q, 2, none⟩ b2).setCell ⟨q, 3, none⟩ b3).setCell ⟨q, 4, none⟩ b4).setCell ⟨q, 5, none⟩ b5).setCell ⟨q, 6, none⟩ b6).setCell ⟨q, 7, none⟩ b7).setCell ⟨q, 8, none⟩ b8).heap[q]? = some (.cells #[b0, b1, b2, b3, b4, b5, b6, b7, b8, a9, a10, a11, a12] T (0, 0)) := heap_set e8 b8
  have e10 : ((((((((((z.setCell ⟨q, 0, none⟩ b0).setCell ⟨q, 1, none⟩ b1).setCell ⟨q, 2, none⟩ b2).setCell ⟨q, 3, none⟩ b3).setCell ⟨q, 4, none⟩ b4).setCell ⟨q, 5, none⟩ b5).setCell ⟨q, 6, none⟩ b6).setCell ⟨q, 7, none⟩ b7).setCell ⟨q, 8, none⟩ b8).setCell ⟨q, 9, none⟩ b9).heap[q]? = some (.cells #[b0, b1, b2, b3, b4, b5, b6, b7, b8, b9, a10, a11, a12] T (0, 0)) := heap_set e9 b9
  have e11 : (((((((((((z.setCell ⟨q, 0, none⟩ b0).setCell ⟨q, 1, none⟩ b1).setCell ⟨q, 2, none⟩ b2).setCell ⟨q, 3, none⟩ b3).setCell ⟨q, 4, none⟩ b4).setCell ⟨q, 5, none⟩ b5).setCell ⟨q, 6, none⟩ b6).setCell ⟨q, 7, none⟩ b7).setCell ⟨q, 8, none⟩ b8).setCell ⟨q, 9, none⟩ b9).setCell ⟨q, 10, none⟩ b10).heap[q]? = some (.cells #[b0, b1, b2, b3, b4, b5, b6, b7, b8, b9, b10, a11, a12] T (0, 0)) := heap_set e10 b10
  have e12 : ((((((((((((z.setCell ⟨q, 0, none⟩ b0).setCell ⟨q, 1, none⟩ b1).setCell ⟨q, 2, none⟩ b2).setCell ⟨q, 3, none⟩ b3).setCell ⟨q, 4, none⟩ b4).setCell ⟨q, 5, none⟩ b5).setCell ⟨q, 6, none⟩ b6).setCell ⟨q, 7, none⟩ b7).setCell ⟨q, 8, none⟩ b8).setCell ⟨q, 9, none⟩ b9).setCell ⟨q, 10, none⟩ b10).setCell ⟨q, 11, none⟩ b11).heap[q]? = some (.cells #[b0, b1, b2, b3, b4, b5, b6, b7, b8, b9, b10, b11, a12] T (0, 0)) := heap_set e11 b11
  have e13 : (((((((((((((z.setCell ⟨q, 0, none⟩ b0).setCell ⟨q, 1, none⟩ b1).setCell ⟨q, 2, none⟩ b2).setCell ⟨q, 3, none⟩ b3).setCell ⟨q, 4, none⟩ b4).setCell ⟨q, 5, none⟩ b5).setCell ⟨q, 6, none⟩ b6).setCell ⟨q, 7, none⟩ b7).setCell ⟨q, 8, none⟩ b8).setCell ⟨q, 9, none⟩ b9).setCell ⟨q, 10, none⟩ b10).setCell ⟨q, 11, none⟩ b11).setCell ⟨q, 12, none⟩ b12).heap[q]? = some (.cells #[b0, b1, b2, b3, b4, b5, b6, b7, b8, b9, b10, b11, b12] T (0, 0)) := heap_set e12 b12
  exact e13
theorem below_set13 {B : Nat} {w z : World} (h : Below B w z) {q : Nat} (hq : B ≤ q) (v0 v1 v2 v3 v4 v5 v6 v7 v8 v9 v10 v11 v12 : Value) : Below B w (((((((((((((z.setCell ⟨q, 0, none⟩ v0).setCell ⟨q, 1, none⟩ v1).setCell ⟨q, 2, none⟩ v2).setCell ⟨q, 3, none⟩ v3).setCell ⟨q, 4, none⟩ v4).setCell ⟨q, 5, none⟩ v5).setCell ⟨q, 6, none⟩ v6).setCell ⟨q, 7, none⟩ v7).setCell ⟨q, 8, none⟩ v8).setCell ⟨q, 9, none⟩ v9).setCell ⟨q, 10, none⟩ v10).setCell ⟨q, 11, none⟩ v11).setCell ⟨q, 12, none⟩ v12) :=
  (below_set12 h hq v0 v1 v2 v3 v4 v5 v6 v7 v8 v9 v10 v11).setCell hq _
theorem MAt.farSet {w0 x : World} {g cap : Nat} {T : NL} (h : MAt w0 x g cap T) (q i : Nat) (v : Value) (hq : w0.heap.size ≤ q) (hne : q ≠ g) : MAt w0 (x.setCell ⟨q, i, none⟩ v) g cap T := by
  refine ⟨?_, h.below.setCell hq _⟩
  obtain ⟨h0, h1⟩ := h.own
  refine ⟨h0, ?_⟩
  rcases h1 with h1 | ⟨g', cap', cur, hv, hg, hh, r⟩
  · exact Or.inl h1
  · cases hv
    exact Or.inr ⟨g, cap, cur, rfl, hg, heap_off hh _ hne, r⟩
theorem doch_set {W3 w5 : World} {nb g cap : Nat} {base : Option Addr} {b o c : Nat} {t : NL} {rt : Int} {mi : Bool} {x : Nat} {v4 v5 v6 v7 v8 v9 v10 v11 : Int} (hz : w5.heap[nb]? = some (.cells #[.slice none 0 0, .int .i64 0, .bool false, .int .i64 0, .int .i64 0, .int .i64 0, .int .i64 0, .int .i64 0, .int .i64 0, .int .i64 0, .int .i64 0, .int .i64 0, .slice none 0 0] 64 (0, 0))) (hle : W3.heap.size ≤ nb) (hne : nb ≠ g) (hn : NodesAt W3 base b o t) (hpos : 0 < t.length) (hM : MAt W3 w5 g cap t) :
    DoCh W3 base b o c t rt mi x v4 v5 v6 v7 v8 v9 v10 v11 (.pointer (some ⟨nb, 0, none⟩)) (((((((((((((w5.setCell ⟨nb, 0, none⟩ (.slice base t.length c)).setCell ⟨nb, 1, none⟩ (.int .i64 rt)).setCell ⟨nb, 2, none⟩ (.bool mi)).setCell ⟨nb, 3, none⟩ (.int .i64 (x : Int))).setCell ⟨nb, 4, none⟩ (.int .i64 v4)).setCell ⟨nb, 5, none⟩ (.int .i64 v5)).setCell ⟨nb, 6, none⟩ (.int .i64 v6)).setCell ⟨nb, 7, none⟩ (.int .i64 v7)).setCell ⟨nb, 8, none⟩ (.int .i64 v8)).setCell ⟨nb, 9, none⟩ (.int .i64 v9)).setCell ⟨nb, 10, none⟩ (.int .i64 v10)).setCell ⟨nb, 11, none⟩ (.int .i64 v11)).setCell ⟨nb, 12, none⟩ (.slice (some ⟨g, 0, none⟩) t.length cap)) := by
  refine doch_of (fun i v hv => (cell_of (set13 hz _ _ _ _ _ _ _ _ _ _ _ _ _) i v hv).1) ?_ hne hn hpos ?_
  · have := (Array.getElem?_eq_some_iff.1 hz).1; simp; exact this
  · exact ((((((((((((hM.farSet nb 0 _ hle hne).farSet nb 1 _ hle hne).farSet nb 2 _ hle hne).farSet nb 3 _ hle hne).farSet nb 4 _ hle hne).farSet nb 5 _ hle hne).farSet nb 6 _ hle hne).farSet nb 7 _ hle hne).farSet nb 8 _ hle hne).farSet nb 9 _ hle hne).farSet nb 10 _ hle hne).farSet nb 11 _ hle hne).farSet nb 12 _ hle hne
theorem cells13 {z : World} {q : Nat} (h : z.heap[q]? = some (.cells #[.slice none 0 0, .int .i64 0, .bool false, .int .i64 0, .int .i64 0, .int .i64 0, .int .i64 0, .int .i64 0, .int .i64 0, .int .i64 0, .int .i64 0, .int .i64 0, .slice none 0 0] 64 (0, 0))) : q < z.heap.size ∧ (z.cell? ⟨q, 0, none⟩ = some (.slice none 0 0) ∧ z.frozen? ⟨q, 0, none⟩ = false) ∧ (z.cell? ⟨q, 1, none⟩ = some (.int .i64 0) ∧ z.frozen? ⟨q, 1, none⟩ = false) ∧ (z.cell? ⟨q, 2, none⟩ = some (.bool false) ∧ z.frozen? ⟨q, 2, none⟩ = false) ∧ (z.cell? ⟨q, 3, none⟩ = some (.int .i64 0) ∧ z.frozen? ⟨q, 3, none⟩ = false) ∧ (z.cell? ⟨q, 4, none⟩ = some (.int .i64 0) ∧ z.frozen? ⟨q, 4, none⟩ = false) ∧ (z.cell? ⟨q, 5, none⟩ = some (.int .i64 0) ∧ z.frozen? ⟨q, 5, none⟩ = false) ∧ (z.cell? ⟨q, 6, none⟩ = some (.int .i64 0) ∧ z.frozen? ⟨q, 6, none⟩ = false) ∧ (z.cell? ⟨q, 7, none⟩ = some (.int .i64 0) ∧ z.frozen? ⟨q, 7, none⟩ = false) ∧ (z.cell? ⟨q, 8, none⟩ = some (.int .i64 0) ∧ z.frozen? ⟨q, 8, none⟩ = false) ∧ (z.cell? ⟨q, 9, none⟩ = some (.int .i64 0) ∧ z.frozen? ⟨q, 9, none⟩ = false) ∧ (z.cell? ⟨q, 10, none⟩ = some (.int .i64 0) ∧ z.frozen? ⟨q, 10, none⟩ = false) ∧ (z.cell? ⟨q, 11, none⟩ = some (.int .i64 0) ∧ z.frozen? ⟨q, 11, none⟩ = false) ∧ (z.cell? ⟨q, 12, none⟩ = some (.slice none 0 0) ∧ z.frozen? ⟨q, 12, none⟩ = false) :=
  ⟨(Array.getElem?_eq_some_iff.1 h).1, cell_of h 0 _ rfl, cell_of h 1 _ rfl, cell_of h 2 _ rfl, cell_of h 3 _ rfl, cell_of h 4 _ rfl, cell_of h 5 _ rfl, cell_of h 6 _ rfl, cell_of h 7 _ rfl, cell_of h 8 _ rfl, cell_of h 9 _ rfl, cell_of h 10 _ rfl, cell_of h 11 _ rfl, cell_of h 12 _ rfl⟩
/-- The site's cells. -/
def SiC (w' : World) (sb : Nat) (base : Option Addr) (c : Nat) (t : NL) (rt : Int) (mi : Bool) (x : Nat) (v4 v5 v6 v7 v8 v9 v10 v11 : Int) : Prop := w'.cell? ⟨sb, 0, none⟩ = some (.slice base t.length c) ∧ w'.cell? ⟨sb, 1, none⟩ = some (.int .i64 rt) ∧ w'.cell? ⟨sb, 2, none⟩ = some (.bool mi) ∧ w'.cell? ⟨sb, 3, none⟩ = some (.int .i64 (x : Int)) ∧ w'.cell? ⟨sb, 4, none⟩ = some (.int .i64 v4) ∧ w'.cell? ⟨sb, 5, none⟩ = some (.int .i64 v5) ∧ w'.cell? ⟨sb, 6, none⟩ = some (.int .i64 v6) ∧ w'.cell? ⟨sb, 7, none⟩ = some (.int .i64 v7) ∧ w'.cell? ⟨sb, 8, none⟩ = some (.int .i64 v8) ∧ w'.cell? ⟨sb, 9, none⟩ = some (.int .i64 v9) ∧ w'.cell? ⟨sb, 10, none⟩ = some (.int .i64 v10) ∧ w'.cell? ⟨sb, 11, none⟩ = some (.int .i64 v11)
theorem sic_of {w z : World} {nb : Nat} {k : Int} {mi : Bool} {base : Option Addr} {c : Nat} {t : NL} {rt : Int} {x : Nat} {v4 v5 v6 v7 v8 v9 v10 v11 : Int} (h : Lk3 w z nb k mi (.slice base t.length c) rt (x : Int) v4 v5 v6 v7 v8 v9 v10 v11) : SiC z nb base c t rt mi x v4 v5 v6 v7 v8 v9 v10 v11 :=
  ⟨(cell_of h.st 0 _ rfl).1, (cell_of h.st 1 _ rfl).1, (cell_of h.st 2 _ rfl).1, (cell_of h.st 3 _ rfl).1, (cell_of h.st 4 _ rfl).1, (cell_of h.st 5 _ rfl).1, (cell_of h.st 6 _ rfl).1, (cell_of h.st 7 _ rfl).1, (cell_of h.st 8 _ rfl).1, (cell_of h.st 9 _ rfl).1, (cell_of h.st 10 _ rfl).1, (cell_of h.st 11 _ rfl).1⟩
theorem sic_below {W3 z : World} {nb : Nat} {mi : Bool} {base : Option Addr} {c : Nat} {t : NL} {rt : Int} {x : Nat} {v4 v5 v6 v7 v8 v9 v10 v11 : Int} (h : SiC W3 nb base c t rt mi x v4 v5 v6 v7 v8 v9 v10 v11) (hl : nb < W3.heap.size) (hb : Below W3.heap.size W3 z) : SiC z nb base c t rt mi x v4 v5 v6 v7 v8 v9 v10 v11 := by
  have k := fun i => hb.cell (p := ⟨nb, i, none⟩) hl
  obtain ⟨h0, h1, h2, h3, h4, h5, h6, h7, h8, h9, h10, h11⟩ := h
  exact ⟨(k 0).trans h0, (k 1).trans h1, (k 2).trans h2, (k 3).trans h3, (k 4).trans h4, (k 5).trans h5, (k 6).trans h6, (k 7).trans h7, (k 8).trans h8, (k 9).trans h9, (k 10).trans h10, (k 11).trans h11⟩
set_option maxRecDepth 100000 in
set_option maxHeartbeats 8000000 in
theorem Do_go (base : Option Addr) (b o c : Nat) (t : NL) (k : Int) (mi : Bool) (x : Nat) (w : World) (h : NodesAt w base b o t) (h0 : todoE t (x : Int) k mi = 0) :
    Calls Tryd.prog 16 #[.slice base t.length c, .int .i64 (x : Int), .agg #[.int .i64 k, .bool mi]] w fun e w' => ∃ v, e = .returned (.tuple #[v, .int .i64 (doE t (x : Int) k mi)]) ∧ w'.ownsRow w.heap.size 50 6 v (doL t (x : Int) k mi).length (ndCells (doL t (x : Int) k mi)) ∧ Below w.heap.size w w' := by
  obtain ⟨x', B, C, M, hx', hx, hx0, hform, hA, hMN, hS, hdc⟩ := todo_is h0
  obtain rfl : x' = x := by omega
  obtain ⟨hbig, hf⟩ := formE_ok hform
  have hpos := hf.pos
  obtain rfl : base = some ⟨b, o, none⟩ := h.base (by omega)
  have HA : Hid (NodesAt w (some ⟨b, o, none⟩) b o t) := h
  have B0 : Hid (Below w.heap.size w (w.alloc (.cells #[.int .i64 k, .bool mi] 32))) := below_alloc _ _
  have LO : Hid (∀ W, NodesAt W (some ⟨b, o, none⟩) b o t → Calls Tryd.prog 22 #[.slice (some ⟨b, o, none⟩) t.length c, .int .i64 (x' : Int), .agg #[.int .i64 k, .bool mi]] W fun e w' => e = .returned (.tuple #[siteF (some ⟨b, o, none⟩) c t (rootR t).1 mi (x' : Int), .int .i64 0]) ∧ Below W.heap.size W w') := fun W hW => by have := lookToDo_any (some ⟨b, o, none⟩) b o c t (x' : Int) k mi W hW; rw [if_pos h0, h0] at this; exact this
  have CL : Hid (∀ W, NodesAt W (some ⟨b, o, none⟩) b o t → Calls Tryd.prog 23 #[.slice (some ⟨b, o, none⟩) t.length c] W fun e w' => ∃ g cap, e = .returned (.slice (some ⟨g, 0, none⟩) t.length cap) ∧ w'.ownsRow W.heap.size 50 6 (.slice (some ⟨g, 0, none⟩) t.length cap) t.length (ndCells t) ∧ Below W.heap.size W w') := fun W hW => nclone_any _ b o c t W hW hpos (by omega)
  have BU : Hid (∀ {W3 W : World} {cb g cap : Nat}, Cs W3 W cb g cap (some ⟨b, o, none⟩) b o c t (rootR t).1 mi (x' : Int) (belL t mi (x' : Int)) (belR t mi (x' : Int)) (belL t mi (belL t mi (x' : Int))) (belR t mi (belL t mi (x' : Int))) (belL t mi (belR t mi (x' : Int))) (belR t mi (belR t mi (x' : Int))) (belL t mi (belL t mi (belR t mi (x' : Int)))) (belR t mi (belL t mi (belR t mi (x' : Int)))) (mt mi t) → ∃ (T : NL) (top : Nat) (M' : List Nat), M'.Perm M ∧ BOut (mt mi t) T M' top C ∧ Calls Tryd.prog 24 #[.pointer (some ⟨cb, 0, none⟩), .int .i64 k] W fun e w' => e = .returned (.int .i64 (top : Int)) ∧ Cs W3 w' cb g cap (some ⟨b, o, none⟩) b o c t (rootR t).1 mi (x' : Int) (belL t mi (x' : Int)) (belR t mi (x' : Int)) (belL t mi (belL t mi (x' : Int))) (belR t mi (belL t mi (x' : Int))) (belL t mi (belR t mi (x' : Int))) (belR t mi (belR t mi (x' : Int))) (belL t mi (belL t mi (belR t mi (x' : Int)))) (belR t mi (belL t mi (belR t mi (x' : Int)))) T) := fun q => build_any hf hA hMN hS q
  have RT : Hid (atR t (x' : Int) = ((x' : Int) == (rootR t).1)) := rfl
  have CT : Hid (∀ {T : NL} {top : Nat} {M' : List Nat} {T2 : NL}, M'.Perm M → BOut (mt mi t) T M' top C → T2 = (if atR t (x' : Int) then wth T top 1 else T) → top < t.length ∧ T2.length = t.length ∧ (ndAt T2 top).wt = (doC t (x' : Int) k mi).wt ∧ ((doC t (x' : Int) k mi).wt ≤ 1000000 → formE (hangN t (x' : Int) top (mt mi T2) t.length) = 0 ∧ normL (hangN t (x' : Int) top (mt mi T2) t.length) = (doB t (x' : Int) k mi).lay 0)) := by
    intro T top M' T2 q1 q2 q3
    obtain ⟨M1, z1, z2⟩ := q2.tree
    have hlen := q2.len
    rw [mt_length] at hlen
    have htop : top < t.length := by have := z1.lt; omega
    have hl2 : T2.length = t.length := by
      rw [q3]; split
      · exact (wth_length _ _ _).trans hlen
      · exact hlen
    have hw2 : (ndAt T2 top).wt = (doC t (x' : Int) k mi).wt := by
      rw [q3, hdc]
      split
      · rw [wth_at _ _ _ (by omega), BT.wset_wt]
      · exact z1.wt.symm
    refine ⟨htop, hl2, hw2, fun hw => ?_⟩
    obtain ⟨-, -, -, BB, g1, g2, g3, g4, g5⟩ := change_tree hf hx0 hA hMN hS q1 q2 (atr := atR t (x' : Int)) q3 hdc hw
    have hl3 : (hangN t (x' : Int) top (mt mi T2) t.length).length = t.length := (hangN_length _ _ _ _ _).trans ((mt_length _ _).trans hl2)
    have hE := formE_of (by omega) g3
    refine ⟨hE, ?_⟩
    rw [norm_of hE g2]
    unfold doB
    rw [Int.toNat_natCast, theG_of g1]
  have DE : Hid (doE t (x' : Int) k mi = if 1000000 < (doC t (x' : Int) k mi).wt then 2 else 0) := by show _ = _; unfold doE; rw [if_neg (by simp [h0])]
  have DL : Hid (doL t (x' : Int) k mi = if doE t (x' : Int) k mi = 0 then (doB t (x' : Int) k mi).lay 0 else []) := rfl
  unfold siteF at LO
  have hP : Hid (0 < t.length) := hpos
  have hG : Hid (t.length ≤ 100000) := hbig
  have HFo : Hid (InForm t) := hf
  clear hdc hS hA hMN h h0 hf hform hbig hx'
  generalize doE t (x' : Int) k mi = DEv at *
  generalize doL t (x' : Int) k mi = DLv at *
  generalize doB t (x' : Int) k mi = DBv at *
  generalize (doC t (x' : Int) k mi).wt = WT at *
  generalize atR t (x' : Int) = ar at *
  generalize (rootR t).1 = rt at *
  generalize belL t mi (x' : Int) = v4 at *
  generalize belR t mi (x' : Int) = v5 at *
  generalize belL t mi v4 = v6 at *
  generalize belR t mi v4 = v7 at *
  generalize belL t mi v5 = v8 at *
  generalize belR t mi v5 = v9 at *
  generalize belL t mi v8 = v10 at *
  generalize belR t mi v8 = v11 at *
  go_enter Tryd.func16, Tryd.ntmps16
  go_wp2_with fail
  refine (LO.out _ (HA.out.below B0.out)).mono ?_
  rintro e w1 ⟨rfl, hb⟩
  have M1 : Hid (w1.heap[w.heap.size]? = some (.cells #[.int .i64 k, .bool mi] 32 (0, 0))) := (hb.block _ (by simp)).trans (heap_alloc_at _ _ _ rfl)
  have B1 : Hid (Below w.heap.size w w1) := B0.out.trans (hb.mono B0.out.size)
  have lt0 : w.heap.size < w1.heap.size := (Array.getElem?_eq_some_iff.1 M1.out).1
  have L3 : Hid (Lk3 w (w1.alloc (.cells #[.slice (some ⟨b, o, none⟩) t.length c, .int .i64 rt, .bool mi, .int .i64 (x' : Int), .int .i64 v4, .int .i64 v5, .int .i64 v6, .int .i64 v7, .int .i64 v8, .int .i64 v9, .int .i64 v10, .int .i64 v11] 59)) w1.heap.size k mi (.slice (some ⟨b, o, none⟩) t.length c) rt (x' : Int) v4 v5 v6 v7 v8 v9 v10 v11) := ⟨(heap_alloc_old _ _ lt0).trans M1.out, heap_alloc_at _ _ _ rfl, B1.out.alloc B1.out.size _⟩
  clear hb M1 B1
  go_wp2_with fail
  obtain ⟨sb, hsb⟩ : ∃ sb, sb = w1.heap.size := ⟨_, rfl⟩
  rw [← hsb] at L3 ⊢
  have lt1 : Hid (sb < (w1.alloc (.cells #[.slice (some ⟨b, o, none⟩) t.length c, .int .i64 rt, .bool mi, .int .i64 (x' : Int), .int .i64 v4, .int .i64 v5, .int .i64 v6, .int .i64 v7, .int .i64 v8, .int .i64 v9, .int .i64 v10, .int .i64 v11] 59)).heap.size) := by rw [hsb]; show _ < _; simp
  clear hsb lt0
  generalize w1.alloc (.cells #[.slice (some ⟨b, o, none⟩) t.length c, .int .i64 rt, .bool mi, .int .i64 (x' : Int), .int .i64 v4, .int .i64 v5, .int .i64 v6, .int .i64 v7, .int .i64 v8, .int .i64 v9, .int .i64 v10, .int .i64 v11] 59) = W3 at *
  have HN : Hid (NodesAt W3 (some ⟨b, o, none⟩) b o t) := HA.out.below L3.out.below
  have SI : Hid (SiC W3 sb (some ⟨b, o, none⟩) c t rt mi x' v4 v5 v6 v7 v8 v9 v10 v11) := sic_of L3.out
  have SB : Hid (∀ {z : World}, Below W3.heap.size W3 z → z.cell? ⟨sb, 0, none⟩ = some (.slice (some ⟨b, o, none⟩) t.length c) ∧ z.cell? ⟨sb, 1, none⟩ = some (.int .i64 rt) ∧ z.cell? ⟨sb, 2, none⟩ = some (.bool mi) ∧ z.cell? ⟨sb, 3, none⟩ = some (.int .i64 (x' : Int)) ∧ z.cell? ⟨sb, 4, none⟩ = some (.int .i64 v4) ∧ z.cell? ⟨sb, 5, none⟩ = some (.int .i64 v5) ∧ z.cell? ⟨sb, 6, none⟩ = some (.int .i64 v6) ∧ z.cell? ⟨sb, 7, none⟩ = some (.int .i64 v7) ∧ z.cell? ⟨sb, 8, none⟩ = some (.int .i64 v8) ∧ z.cell? ⟨sb, 9, none⟩ = some (.int .i64 v9) ∧ z.cell? ⟨sb, 10, none⟩ = some (.int .i64 v10) ∧ z.cell? ⟨sb, 11, none⟩ = some (.int .i64 v11)) := fun q => sic_below SI.out lt1.out q
  have slt := lt1.out
  obtain ⟨i0, i1, i2, i3, i4, i5, i6, i7, i8, i9, i10, i11⟩ := SI.out
  have BD : Hid (Below W3.heap.size W3 W3.drew) := (Below.refl _ _).drew
  have BZ : Hid (Below W3.heap.size W3 (W3.alloc (.cells #[.slice none 0 0, .int .i64 0, .bool false, .int .i64 0, .int .i64 0, .int .i64 0, .int .i64 0, .int .i64 0, .int .i64 0, .int .i64 0, .int .i64 0, .int .i64 0, .slice none 0 0] 64)).drew) := ((Below.refl _ _).alloc (Nat.le_refl _) _).drew
  go_cut [10] from 22 to 25 (fun s wx => DoCh W3 (some ⟨b, o, none⟩) b o c t rt mi x' v4 v5 v6 v7 v8 v9 v10 v11 s wx)
  case first =>
    go_region_held3 (fun w' => w'.cell? ⟨sb, 0, none⟩ = some (.slice (some ⟨b, o, none⟩) t.length c) ∧ w'.cell? ⟨sb, 1, none⟩ = some (.int .i64 rt) ∧ w'.cell? ⟨sb, 2, none⟩ = some (.bool mi) ∧ w'.cell? ⟨sb, 3, none⟩ = some (.int .i64 (x' : Int)) ∧ w'.cell? ⟨sb, 4, none⟩ = some (.int .i64 v4) ∧ w'.cell? ⟨sb, 5, none⟩ = some (.int .i64 v5) ∧ w'.cell? ⟨sb, 6, none⟩ = some (.int .i64 v6) ∧ w'.cell? ⟨sb, 7, none⟩ = some (.int .i64 v7) ∧ w'.cell? ⟨sb, 8, none⟩ = some (.int .i64 v8) ∧ w'.cell? ⟨sb, 9, none⟩ = some (.int .i64 v9) ∧ w'.cell? ⟨sb, 10, none⟩ = some (.int .i64 v10) ∧ w'.cell? ⟨sb, 11, none⟩ = some (.int .i64 v11))
      (first | (with_reducible exact X4.out) | (with_reducible exact X4a.out) | (with_reducible exact X4c.out) | go_keep)
      (first | (go_at_call 23; refine (CL.out _ (HN.out.below ?_)).mono ?_; (focus (first | exact BD.out | exact BZ.out)); rintro e w5 ⟨g, cap, rfl, ho, hb⟩; have B5 : Hid (Below W3.heap.size W3 w5) := (by first | exact BD.out.trans hb | exact BZ.out.trans (hb.mono (by simp))); have M5 : Hid (MAt W3 w5 g cap t) := ⟨owns_down ho (by simp), B5.out⟩; have X4 : Hid _ := SB.out B5.out; have X4a : Hid _ := SB.out (B5.out.alloc B5.out.size (.cells #[.slice (some ⟨b, o, none⟩) t.length c, .int .i64 rt, .bool mi, .int .i64 (x' : Int), .int .i64 v4, .int .i64 v5, .int .i64 v6, .int .i64 v7, .int .i64 v8, .int .i64 v9, .int .i64 v10, .int .i64 v11, .slice (some ⟨g, 0, none⟩) t.length cap] 64)); (first | (have Z5 : Hid (w5.heap[W3.heap.size]? = some (.cells #[.slice none 0 0, .int .i64 0, .bool false, .int .i64 0, .int .i64 0, .int .i64 0, .int .i64 0, .int .i64 0, .int .i64 0, .int .i64 0, .int .i64 0, .int .i64 0, .slice none 0 0] 64 (0, 0))) := (hb.block _ (by simp)).trans (heap_alloc_at _ _ _ rfl); have G5 : Hid (W3.heap.size ≠ g) := (by show _ ≠ _; have := (owns_lt ho g rfl).1; simp at this; omega); have X4c : Hid _ := SB.out (below_set13 B5.out (Nat.le_refl W3.heap.size) (.slice (some ⟨b, o, none⟩) t.length c) (.int .i64 rt) (.bool mi) (.int .i64 (x' : Int)) (.int .i64 v4) (.int .i64 v5) (.int .i64 v6) (.int .i64 v7) (.int .i64 v8) (.int .i64 v9) (.int .i64 v10) (.int .i64 v11) (.slice (some ⟨g, 0, none⟩) t.length cap)); obtain ⟨y0, y1, y2, y3, y4, y5, y6, y7, y8, y9, y10, y11, y12, y13⟩ := cells13 Z5.out; have ysb : W3.heap.size ≠ sb := (by have := slt; omega)) | skip); clear hb ho))
    all_goals
      go_wp2_with fail
      go_meet
      first
        | (have hq := Z5.out; exact doch_set hq (Nat.le_refl _) G5.out HN.out hP.out M5.out)
        | exact doch_new HN.out hP.out M5.out
  case rest =>
    obtain ⟨cb, g, cap, rfl, hC⟩ := hcut
    clear i0 i1 i2 i3 i4 i5 i6 i7 i8 i9 i10 i11 BD BZ CL LO
    generalize wc = w5 at *
    have C5 : Hid (Cs W3 w5 cb g cap (some ⟨b, o, none⟩) b o c t rt mi (x' : Int) v4 v5 v6 v7 v8 v9 v10 v11 (mt mi t)) := hC
    have lt5 : w.heap.size < w5.heap.size := Nat.lt_of_lt_of_le (Array.getElem?_eq_some_iff.1 L3.out.mv).1 hC.row.below.size
    have k0 : w5.cell? ⟨w.heap.size, 0, none⟩ = some (.int .i64 k) := (hC.row.below.cell (p := ⟨w.heap.size, 0, none⟩) (Array.getElem?_eq_some_iff.1 L3.out.mv).1).trans (cell_of L3.out.mv 0 _ rfl).1
    have BW : Hid (∀ {z : World}, Below W3.heap.size W3 z → Below w.heap.size w z) := fun q => L3.out.below.trans (q.mono L3.out.below.size)
    have KS : Hid (∀ {z : World}, Below W3.heap.size W3 z → z.cell? ⟨sb, 1, none⟩ = some (.int .i64 rt) ∧ sb < z.heap.size) := fun q => ⟨(SB.out q).2.1, Nat.lt_of_lt_of_le lt1.out q.size⟩
    have WS : Hid (w.heap.size ≤ W3.heap.size) := L3.out.below.size
    obtain ⟨T, top, M', hP1, hO, hbu⟩ := BU.out hC
    clear hC BU SB SI L3 B0
    go_wp2_with fail
    refine hbu.mono ?_
    rintro e w6 ⟨rfl, hC⟩
    have C6 : Hid (Cs W3 w6 cb g cap (some ⟨b, o, none⟩) b o c t rt mi (x' : Int) v4 v5 v6 v7 v8 v9 v10 v11 T) := hC
    obtain ⟨k1, lt6⟩ := KS.out hC.row.below
    have TP : Hid (top < t.length) := by
      obtain ⟨M1, z1, z2⟩ := hO.tree
      have hl := hO.len
      rw [mt_length] at hl
      show _ < _
      have := z1.lt
      omega
    have tp := TP.out
    have t0 : (0 : Int) ≤ (top : Int) := Int.natCast_nonneg _
    have t1 : (top : Int) < (t.length : Int) := by omega
    have c12 := hC.box.c12
    have ltc := hC.box.lt
    have ltg := hC.row.lt.2
    have gne := hC.box.ne
    obtain ⟨g2, f2⟩ := hC.row.cell2 top (hC.lt tp).2
    have TN : Hid (∀ {z : World} {T2 : NL}, Cs W3 z cb g cap (some ⟨b, o, none⟩) b o c t rt mi (x' : Int) v4 v5 v6 v7 v8 v9 v10 v11 T2 → T2 = (if ar then wth T top 1 else T) → WT ≤ 1000000 → DLv = DBv.lay 0 → Calls Tryd.prog 25 #[.pointer (some ⟨cb, 0, none⟩), .int .i64 (top : Int)] z fun e w' => e = .returned (.tuple #[]) ∧ w'.cell? ⟨cb, 12, none⟩ = some (.slice (some ⟨g, 0, none⟩) t.length cap) ∧ cb < w'.heap.size ∧ Calls Tryd.prog 26 #[.slice (some ⟨g, 0, none⟩) t.length cap] w' fun e' z' => ∃ v, e' = .returned (.tuple #[v, .int .i64 0]) ∧ z'.ownsRow w.heap.size 50 6 v DLv.length (ndCells DLv) ∧ Below w.heap.size w z') := by
      intro z T2 q hT2 hW hDL
      obtain ⟨-, hl2, -, hno⟩ := CT.out hP1 hO hT2
      obtain ⟨hE, hNo⟩ := hno hW
      refine (hang_any cb g cap b o c _ t (mt mi T2) (x' : Int) (top : Int) W3 z q.box.c0 q.box.c3 q.box.c12 q.box.lt q.box.ne q.box.nodes q.box.nb ((mt_length _ _).trans hl2) hG.out q.row).mono ?_
      rintro e z1 ⟨rfl, hH⟩
      have hl3 : (hangN t (x' : Int) top (mt mi T2) t.length).length = t.length := (hangN_length _ _ _ _ _).trans ((mt_length _ _).trans hl2)
      refine ⟨rfl, (hH.rest cb 12 q.box.lt q.box.ne).trans q.box.c12, Nat.lt_of_lt_of_le q.box.lt hH.size, ?_⟩
      have NO := norm_any _ g 0 cap (hangN t (x' : Int) top (mt mi T2) t.length) z1 hH.row.nodes
      rw [hl3, hE, hNo, ← hDL] at NO
      refine NO.mono ?_
      rintro e' z' ⟨v, rfl, ho, hb⟩
      have hb1 := hH.row.below
      exact ⟨v, rfl, owns_down ho (Nat.le_trans WS.out hb1.size), BW.out (hb1.trans (hb.mono hb1.size))⟩
    have C2 : Hid (∀ {T2 : NL}, T2 = (if ar then wth T top 1 else T) → (ndAt (mt mi T2) top).wt = WT ∧ T2.length = t.length) := by
      intro T2 hT2
      obtain ⟨q1, q2, q3, -⟩ := CT.out hP1 hO hT2
      exact ⟨(mt_wt (by omega)).trans q3, q2⟩
    have L6 : Hid (T.length = t.length) := hC.len
    clear hbu hC hO hP1 CT k0 lt5
    rw [RT.out] at TN C2
    clear RT
    cases hr : ((x' : Int) == rt)
    · rw [hr] at TN C2
      have w0 := (C2.out rfl).1
      rw [show (if false = true then wth T top 1 else T) = T from rfl] at w0
      rw [w0] at g2
      clear w0 C2
      by_cases hbig : 1000000 < WT
      · have dW : decide (1000000 < WT) = true := by simp [hbig]
        have F : Hid (DEv = 2) := by show _ = _; rw [DE.out, if_pos hbig]
        obtain rfl := F.out
        obtain rfl : DLv = [] := by rw [DL.out, if_neg (by omega)]
        have B6 : Hid (Below w.heap.size w w6) := BW.out C6.out.row.below
        clear F TN DE DL hbig
        go_wp2_with fail
        go_ret2
        exact ⟨_, rfl, World.ownsRow_nil _ _ _ _, B6.out⟩
      · have dW : decide (1000000 < WT) = false := by simp [hbig]
        have F : Hid (DEv = 0) := by show _ = _; rw [DE.out, if_neg hbig]
        obtain rfl := F.out
        have FL : DLv = DBv.lay 0 := by rw [DL.out, if_pos rfl]
        have HH : Hid (Calls _ _ _ _ _) := TN.out C6.out rfl (by omega) FL
        clear F TN DE DL hbig FL
        go_wp2_with fail
        refine HH.out.mono ?_
        rintro e w7 ⟨rfl, z12, zlt, hno⟩
        have NO : Hid (Calls _ _ _ _ _) := hno
        clear hno
        go_wp2_with fail
        refine NO.out.mono ?_
        rintro e w8 ⟨v, rfl, ho, hb⟩
        have HO : Hid (World.ownsRow _ _ _ _ _ _ _) := ho
        have HB : Hid (Below w.heap.size w w8) := hb
        clear ho hb
        go_wp2_with fail
        go_ret2
        exact ⟨v, rfl, HO.out, HB.out⟩
    · rw [hr] at TN C2
      have w0 := (C2.out rfl).1
      rw [show (if true = true then wth T top 1 else T) = wth T top 1 from rfl] at w0
      have C7 : Hid (Cs W3 (w6.setCell ⟨g, top * 6 + 2, none⟩ (.int .i64 1)) cb g cap (some ⟨b, o, none⟩) b o c t rt mi (x' : Int) v4 v5 v6 v7 v8 v9 v10 v11 (wth T top 1)) := ⟨C6.out.box.keep (by simp) fun blk off _ hn => World.cell?_setCell_far _ _ _ _ (Ne.symm hn), by rw [mt_wth mi T top 1 (by rw [L6.out]; exact tp)]; exact C6.out.row.putW top 1 (by rw [mt_length, L6.out]; exact tp) C6.out.row.lt.1, by rw [wth_length]; exact L6.out⟩
      have e1 : WT = 1 := by rw [← w0, mt_wth mi T top 1 (by rw [L6.out]; exact tp), wth_at _ _ _ (by rw [mt_length, L6.out]; exact tp)]
      have F : Hid (DEv = 0) := by show _ = _; rw [DE.out, if_neg (by omega)]
      obtain rfl := F.out
      have FL : DLv = DBv.lay 0 := by rw [DL.out, if_pos rfl]
      have HH : Hid (Calls _ _ _ _ _) := TN.out C7.out rfl (by omega) FL
      clear F TN DE DL FL w0 C2 e1
      go_wp2_with fail
      refine HH.out.mono ?_
      rintro e w7 ⟨rfl, z12, zlt, hno⟩
      have NO : Hid (Calls _ _ _ _ _) := hno
      clear hno
      go_wp2_with fail
      refine NO.out.mono ?_
      rintro e w8 ⟨v, rfl, ho, hb⟩
      have HO : Hid (World.ownsRow _ _ _ _ _ _ _) := ho
      have HB : Hid (Below w.heap.size w w8) := hb
      clear ho hb
      go_wp2_with fail
      go_ret2
      exact ⟨v, rfl, HO.out, HB.out⟩
set_option maxRecDepth 100000 in
set_option maxHeartbeats 1000000 in
theorem Do_any (base : Option Addr) (b o c : Nat) (t : NL) (p k : Int) (mi : Bool) (w : World) (h : NodesAt w base b o t) :
    Calls Tryd.prog 16 #[.slice base t.length c, .int .i64 p, .agg #[.int .i64 k, .bool mi]] w fun e w' => ∃ v, e = .returned (.tuple #[v, .int .i64 (doE t p k mi)]) ∧ w'.ownsRow w.heap.size 50 6 v (doL t p k mi).length (ndCells (doL t p k mi)) ∧ Below w.heap.size w w' := by
  by_cases h0 : todoE t p k mi = 0
  · obtain ⟨x, -, -, -, rfl, -⟩ := todo_is h0
    exact Do_go base b o c t k mi x w h h0
  · have LO : Hid (∀ W, NodesAt W base b o t → Calls Tryd.prog 22 #[.slice base t.length c, .int .i64 p, .agg #[.int .i64 k, .bool mi]] W fun e w' => e = .returned (.tuple #[siteN, .int .i64 (todoE t p k mi)]) ∧ Below W.heap.size W w') := fun W hW => by have := lookToDo_any base b o c t p k mi W hW; rw [if_neg h0] at this; exact this
    have DE : Hid (doE t p k mi = todoE t p k mi) := by show _ = _; unfold doE; rw [if_pos h0]
    have DL : Hid (doL t p k mi = []) := by show _ = _; unfold doL; rw [DE.out, if_neg h0]
    have HA : Hid (NodesAt w base b o t) := h
    have B0 : Hid (Below w.heap.size w (w.alloc (.cells #[.int .i64 k, .bool mi] 32))) := below_alloc _ _
    have d0 : (todoE t p k mi != 0) = true := by simp [h0]
    rw [DE.out, DL.out]
    unfold siteN at LO
    clear h h0 DE DL
    generalize todoE t p k mi = E at *
    go_enter Tryd.func16, Tryd.ntmps16
    go_wp2_with fail
    refine (LO.out _ (HA.out.below B0.out)).mono ?_
    rintro e w1 ⟨rfl, hb⟩
    have B1 : Hid (Below w.heap.size w w1) := B0.out.trans (hb.mono B0.out.size)
    clear hb
    go_wp2_with fail
    go_ret2
    exact ⟨_, rfl, World.ownsRow_nil _ _ _ _, B1.out.alloc B1.out.size _⟩
end Go.Proofs.YthlhbajaogonnaaDoor
