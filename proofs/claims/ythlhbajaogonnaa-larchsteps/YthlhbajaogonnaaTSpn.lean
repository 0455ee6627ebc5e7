
/- Layer 16: what Ordered asks (pure), and the program's parted. -/

import Derived.Test.YthlhbajaogonnaaTPrs

import Derived.Test.YthlhbajaogonnaaTIn

import Derived.Lib.MinMax

import Derived.Test.YthlhbajaogonnaaTSrch

namespace Go.Proofs.Ythlhbajaogonnaa

open Go.RowKit

attribute [local go_sem ↓] Go.wp_at_zero Go.wp_at_succ

/-- From p on each leaf that has a key has one of S's, narrowed by the way to it. -/
inductive OrdAt (t : NL) : Nat → (Int → Prop) → Prop
  | leaf {p : Nat} {S : Int → Prop} : p < t.length → (ndAt t p).l = -1 → (ndAt t p).r = -1 → ((ndAt t p).inf = 0 → S (ndAt t p).key) → OrdAt t p S
  | inner {p l r : Nat} {S : Int → Prop} : p < t.length → (ndAt t p).l = (l : Int) → (ndAt t p).r = (r : Int) → OrdAt t l (fun k => S k ∧ goesL (ndAt t p) k) → OrdAt t r (fun k => S k ∧ ¬ goesL (ndAt t p) k) → OrdAt t p S
theorem ord_leaf {t : NL} {p : Nat} {S : Int → Prop} (hp : p < t.length) (hl : (ndAt t p).l = -1) (hr : (ndAt t p).r = -1) : OrdAt t p S ↔ ((ndAt t p).inf = 0 → S (ndAt t p).key) := by
  constructor
  · intro h
    cases h with
    | leaf _ _ _ h => exact h
    | inner _ hl' => omega
  · exact fun h => OrdAt.leaf hp hl hr h
theorem ord_inner {t : NL} {p l r : Nat} {S : Int → Prop} (hp : p < t.length) (hl : (ndAt t p).l = (l : Int)) (hr : (ndAt t p).r = (r : Int)) : OrdAt t p S ↔ OrdAt t l (fun k => S k ∧ goesL (ndAt t p) k) ∧ OrdAt t r (fun k => S k ∧ ¬ goesL (ndAt t p) k) := by
  constructor
  · intro h
    cases h with
    | leaf _ hl' => omega
    | inner _ hl' hr' h1 h2 =>
      obtain rfl := Int.ofNat.inj (hl.symm.trans hl')
      obtain rfl := Int.ofNat.inj (hr.symm.trans hr')
      exact ⟨h1, h2⟩
  · exact fun h => OrdAt.inner hp hl hr h.1 h.2
theorem ord_mono {t : NL} (hin : NodesIn t) {p : Nat} {S : Int → Prop} (h : OrdAt t p S) : ∀ {S' : Int → Prop}, (∀ k, In64 k → S k → S' k) → OrdAt t p S' := by
  induction h with
  | leaf hp hl hr h => intro S' hS; exact OrdAt.leaf hp hl hr (fun q => hS _ (hin _ hp).1 (h q))
  | inner hp hl hr _ _ ih1 ih2 => intro S' hS; exact OrdAt.inner hp hl hr (ih1 fun k hk q => ⟨hS k hk q.1, q.2⟩) (ih2 fun k hk q => ⟨hS k hk q.1, q.2⟩)
theorem ord_congr {t : NL} (hin : NodesIn t) {p : Nat} {S S' : Int → Prop} (hS : ∀ k, In64 k → (S k ↔ S' k)) : OrdAt t p S ↔ OrdAt t p S' :=
  ⟨fun h => ord_mono hin h fun k hk => (hS k hk).1, fun h => ord_mono hin h fun k hk => (hS k hk).2⟩
/-- Ordered's answer. -/
def ordP (t : NL) : Prop := OrdAt t 0 (fun _ => True)

abbrev SpD := Int × Int
def inS (s : SpD) (k : Int) : Prop := s.1 ≤ k ∧ k ≤ s.2
def noS : SpD := (9223372036854775807, -9223372036854775808)
def leftS (n : NdD) (s : SpD) : SpD := if n.inf = 1 then s else if n.key = -9223372036854775808 then noS else (s.1, min s.2 (n.key - 1))
def rightS (n : NdD) (s : SpD) : SpD := if n.inf = 1 then noS else (max s.1 n.key, s.2)
theorem left_in (n : NdD) (s : SpD) (k : Int) (hk : In64 k) : inS (leftS n s) k ↔ inS s k ∧ goesL n k := by
  obtain ⟨h1, h2⟩ := hk
  unfold leftS goesL
  by_cases q : n.inf = 1
  · rw [if_pos q]; simp [q]
  · rw [if_neg q]
    by_cases q' : n.key = -9223372036854775808
    · rw [if_pos q']; simp only [inS, noS]; omega
    · rw [if_neg q']; simp only [inS]; omega
theorem right_in (n : NdD) (s : SpD) (k : Int) (hk : In64 k) : inS (rightS n s) k ↔ inS s k ∧ ¬ goesL n k := by
  obtain ⟨h1, h2⟩ := hk
  unfold rightS goesL
  by_cases q : n.inf = 1
  · rw [if_pos q]; simp only [inS, noS]; omega
  · rw [if_neg q]; simp only [inS]; omega
/-- One step of the program's walk over spans. -/
theorem ord_step {t : NL} (hin : NodesIn t) {p l r : Nat} {s : SpD} (hp : p < t.length) (hl : (ndAt t p).l = (l : Int)) (hr : (ndAt t p).r = (r : Int)) : OrdAt t p (inS s) ↔ OrdAt t l (inS (leftS (ndAt t p) s)) ∧ OrdAt t r (inS (rightS (ndAt t p) s)) := by
  rw [ord_inner hp hl hr, ord_congr hin (fun k hk => (left_in (ndAt t p) s k hk).symm), ord_congr hin (fun k hk => (right_in (ndAt t p) s k hk).symm)]
theorem ord_first {t : NL} (hin : NodesIn t) : ordP t ↔ OrdAt t 0 (inS (-9223372036854775808, 9223372036854775807)) :=
  ord_congr hin fun _ hk => ⟨fun _ => hk, fun _ => trivial⟩

theorem results_cell2 {fn : Func} {p u : Tmp} {ty ty' : TypeId} (h : fn.results = #[.cell p ty, .cell u ty']) (tmps : Array Value) (P : Program) (w : World) :
    (results fn tmps).run P w =
      ((asAddr (tmps.getD p undef)).run P w).andThen fun a w₁ => ((loadVar ty a).run P w₁).andThen fun v w₂ => ((asAddr (tmps.getD u undef)).run P w₂).andThen fun a' w₃ => ((loadVar ty' a').run P w₃).andThen fun v' w₄ => .ok (.tuple #[v, v']) w₄ := by
  simp only [results, h]
  simp [Sem.run_bind, Result.andThen]
set_option maxRecDepth 100000 in
set_option maxHeartbeats 1000000 in
theorem parted_any (s0 s1 a0 a1 a2 a3 a4 a5 : Int) (w : World) (h0 : In64 a0) :
    Calls Try.prog 82 #[.agg #[.int .i64 s0, .int .i64 s1], .agg #[.int .i64 a0, .int .i64 a1, .int .i64 a2, .int .i64 a3, .int .i64 a4, .int .i64 a5]] w fun e w' => e = .returned (.tuple #[.agg #[.int .i64 (leftS ⟨a0, a1, a2, a3, a4, a5⟩ (s0, s1)).1, .int .i64 (leftS ⟨a0, a1, a2, a3, a4, a5⟩ (s0, s1)).2], .agg #[.int .i64 (rightS ⟨a0, a1, a2, a3, a4, a5⟩ (s0, s1)).1, .int .i64 (rightS ⟨a0, a1, a2, a3, a4, a5⟩ (s0, s1)).2]]) ∧ Below w.heap.size w w' := by
  obtain ⟨g1, g2⟩ := h0
  by_cases q : a1 = 1
  · have d : (a1 == 1) = true := by simp [q]
    have hL : leftS ⟨a0, a1, a2, a3, a4, a5⟩ (s0, s1) = (s0, s1) := by simp [leftS, q]
    have hR : rightS ⟨a0, a1, a2, a3, a4, a5⟩ (s0, s1) = noS := by simp [rightS, q]
    rw [hL, hR]
    clear q hL hR
    go_enter Try.func82, Try.ntmps82
    go_wp2_with fail
    go_region
    go_wp2_with fail
    (try simp only [Exit.inBlock, Exit.then])
    refine bodyPost_ret (v := .tuple #[.agg #[.int .i64 s0, .int .i64 s1], .agg #[.int .i64 9223372036854775807, .int .i64 (-9223372036854775808)]]) ?_ rfl ⟨rfl, ?_⟩
    · rw [results_cell2 rfl]; go_simp
    · repeat' (first | exact Below.refl _ _ | refine Below.drew ?_ | refine Below.alloc ?_ (by simp <;> omega) _)
  · have d : (a1 == 1) = false := by simp [q]
    have hR : rightS ⟨a0, a1, a2, a3, a4, a5⟩ (s0, s1) = (max s0 a0, s1) := by simp [rightS, q]
    by_cases q' : a0 = -9223372036854775808
    · have d' : (a0 == -9223372036854775808) = true := by simp [q']
      have hL : leftS ⟨a0, a1, a2, a3, a4, a5⟩ (s0, s1) = noS := by simp [leftS, q, q']
      rw [hL, hR]
      clear q q' hL hR
      go_enter Try.func82, Try.ntmps82
      go_wp2_with fail
      go_region
      go_wp2_with fail
      (try simp only [Exit.inBlock, Exit.then])
      refine bodyPost_ret (v := .tuple #[.agg #[.int .i64 9223372036854775807, .int .i64 (-9223372036854775808)], .agg #[.int .i64 (max s0 a0), .int .i64 s1]]) ?_ rfl ⟨rfl, ?_⟩
      · rw [results_cell2 rfl]; go_simp
      · repeat' (first | exact Below.refl _ _ | refine Below.drew ?_ | refine Below.alloc ?_ (by simp <;> omega) _)
    · have d' : (a0 == -9223372036854775808) = false := by simp [q']
      have hL : leftS ⟨a0, a1, a2, a3, a4, a5⟩ (s0, s1) = (s0, min s1 (a0 - 1)) := by simp [leftS, q, q']
      have g3 : -9223372036854775808 ≤ a0 - 1 := by omega
      rw [hL, hR]
      clear q q' hL hR
      go_enter Try.func82, Try.ntmps82
      go_wp2_with fail
      go_region
      go_wp2_with fail
      (try simp only [Exit.inBlock, Exit.then])
      refine bodyPost_ret (v := .tuple #[.agg #[.int .i64 s0, .int .i64 (min s1 (a0 - 1))], .agg #[.int .i64 (max s0 a0), .int .i64 s1]]) ?_ rfl ⟨rfl, ?_⟩
      · rw [results_cell2 rfl]; go_simp
      · repeat' (first | exact Below.refl _ _ | refine Below.drew ?_ | refine Below.alloc ?_ (by simp <;> omega) _)
end Go.Proofs.Ythlhbajaogonnaa
