
/- Layer 28: readPick, the walks. -/

import Derived.Test.YtknlapipkglnjaaGreatDoorHRk

namespace Go.Proofs.YtknlapipkglnjaaGreatDoor

open Go.RowKit

attribute [local go_sem ↓] Go.wp_at_zero Go.wp_at_succ

set_option maxRecDepth 100000 in
set_option maxHeartbeats 16000000 in
theorem pk1_fit (B b L cap q pc0 : Nat) (base pa : Option Addr) (vS vC : Value) (vs : Nat → Value) (g : GD) (w : World) (h : RdB B b w vS vC (.slice pa q pc0) vs g) (hq : q = g.picks.length) (hB : B ≤ w.heap.size) (hL : L ≤ 1) (p : Int) (hf : 0 ≤ (1 : Int) ∧ (q : Int) + 1 ≤ 1000000) (ra : ∀ (W : World) (gg pc : Nat), Pk1 w W gg → 1 ≤ pc → Calls Tryz.prog 69 #[.slice base L cap, .slice (some ⟨gg, 0, none⟩) 1 pc] W fun e w' => e = .returned (.bool true) ∧ Below w.heap.size w w' ∧ w'.heap[w.heap.size]? = some (.cells #[.int .i64 p] 3) ∧ w'.heap[w.heap.size + 1]? = some (.cells #[.int .i64 (1 : Int)] 3))
    : Calls Tryz.prog 57 #[.pointer (some ⟨b, 0, none⟩), .slice base L cap] w fun e w' => ∃ vP', e = .returned (.bool true) ∧ RdB B b w' vS vC vP' vs { g with picks := g.picks ++ List.replicate (1 : Int).toNat p } ∧ Below b w w' := by
  have RA : Hid (∀ (W : World) (gg pc : Nat), Pk1 w W gg → 1 ≤ pc → Calls Tryz.prog 69 #[.slice base L cap, .slice (some ⟨gg, 0, none⟩) 1 pc] W fun e w' => e = .returned (.bool true) ∧ Below w.heap.size w w' ∧ w'.heap[w.heap.size]? = some (.cells #[.int .i64 p] 3) ∧ w'.heap[w.heap.size + 1]? = some (.cells #[.int .i64 (1 : Int)] 3)) := ra
  clear ra
  have hvP : Hid (∀ k, k < B → (Value.slice pa q pc0).ownBlock ≠ some k) := fun k hk r => by have := (owns_lt h.game.pk k r).1; omega
  have HR : Hid (RdB B b w vS vC _ vs g) := h
  have hlt := h.lt
  have hzb : b < w.heap.size := (Array.getElem?_eq_some_iff.1 h.box).1
  clear h
  have n0 : (L : Int) ≤ 1 := by omega
  have n1 : (0 : Int) ≤ (L : Int) := Int.natCast_nonneg _
  have n2 : ¬ (1 : Int) < (L : Int) := by omega
  have HQ : Hid (q = g.picks.length) := hq
  clear hq
  have hws : IntKind.i64.wrap (1000000 - (q : Int)) = 1000000 - (q : Int) := wrap_in (by omega) (by omega)
  have q0 : (0 : Int) ≤ (q : Int) := Int.natCast_nonneg _
  have u0 : decide ((1 : Int) < 0) = false := by decide
  have u1 : (q : Int) ≤ 1000000 := by omega
  have u2 : decide (1000000 - (q : Int) < (1 : Int)) = false := by simp; omega
  have u3 : (1 : Int) ≤ 1000000 := by omega
  have u4 : (1 : Nat) ≤ 1000000 := by omega
  have HF : Hid _ := hf
  clear hf
  go_enter Tryz.func57, Tryz.ntmps57
  go_wp2_with fail
  have X0 : Hid (w.cell? ⟨b, 2, none⟩ = some (.slice pa q pc0)) := (cells4 HR.out.box).2.2.1.1
  first | (go_region_with (first | (go_at_call 69; refine Calls.mono (RA.out _ (w.heap.size + 1 + 1) 1 (pk1_of w) (Nat.le_refl _)) ?_; rintro e w2 ⟨rfl, hb2, hp0, hp1⟩; have B2 : Hid (Below w.heap.size w w2) := hb2; have R2 : Hid (RdB B b w2 vS vC (.slice pa q pc0) vs g) := HR.out.quiet hb2; have q4 := cells4 R2.out.box; obtain ⟨⟨c0, f0⟩, ⟨c1, f1⟩, ⟨c2, f2⟩, ⟨c3, f3⟩⟩ := q4; have x0 := one1 hp0; have x1 := one1 hp1; have hzs := hb2.size; have hz2 : b < w2.heap.size := (by omega); have hs0 : w.heap.size < w2.heap.size := (Array.getElem?_eq_some_iff.1 hp0).1; have hs1 : w.heap.size + 1 < w2.heap.size := (Array.getElem?_eq_some_iff.1 hp1).1; have X2 : Hid (w2.cell? ⟨b, 2, none⟩ = some (.slice pa q pc0)) := c2; clear hb2 hp0 hp1) | fail)) | fail
  all_goals
    go_wp2_with fail
    obtain ⟨i0, hi0, hz0, hz1, hz2a⟩ := info_parts rin_info
    go_region_law (first | (refine step_callTo (by rfl) 70 _ (by go_simp) (fun v w4 => v = .slice (some ⟨w2.heap.size + 1, 0, none⟩) 1 1 ∧ w4.ownsRow (w2.heap.size + 1) 3 1 (.slice (some ⟨w2.heap.size + 1, 0, none⟩) 1 1) 1 (inC (List.replicate 1 p)) ∧ Below w2.heap.size w2 w4) (repeat_at p 1 u4 w2) ?_; rintro v w4 ⟨rfl, ho4, hb4⟩; have O4 : Hid (w4.ownsRow (w2.heap.size + 1) 3 1 _ 1 (inC (List.replicate 1 p))) := ho4; have B4 : Hid (Below w2.heap.size w2 w4) := hb4; have R4 : Hid (RdB B b w4 vS vC (.slice pa q pc0) vs g) := R2.out.quiet hb4; have q5 := cells4 R4.out.box; obtain ⟨⟨d0, e0⟩, ⟨d1, e1⟩, ⟨d2, e2⟩, ⟨d3, e3⟩⟩ := q5; have hz4 : b < w4.heap.size := (by have := hb4.size; omega); clear ho4 hb4) | (refine step_append_any (by rfl) _ _ _ (by rfl) B 3 i0 _ 1 8 rin_under hi0 hz0 hz1 hz2a rfl (by omega) _ q _ (by rfl) (pk_row R4.out HQ.out) ⟨w2.heap.size + 1, 0, none⟩ 1 1 (inC (List.replicate 1 p)) (by rfl) (by simp [inC]) (row_news O4.out) (rep_one 1 p) (by unfold maxLen; omega) (by omega) (by have := B4.out.size; omega) ?_; intro va vc w5 hown5 hgrow5; have HAD : Hid _ := pk_added R4.out HQ.out hgrow5 hown5; have q6 := cells4 HAD.out.1; obtain ⟨⟨y0, z0⟩, ⟨y1, z1⟩, ⟨y2, z2⟩, ⟨y3, z3⟩⟩ := q6; clear hgrow5 hown5) | fail)
    all_goals
      go_wp2_with fail
      go_ret
      exact ⟨_, rfl, (by have := HAD.out.2.1; simpa using this), (B2.out.mono (by omega)).trans ((B4.out.mono (by omega)).trans HAD.out.2.2)⟩
end Go.Proofs.YtknlapipkglnjaaGreatDoor
