
/- Layer 28: the program's ParseOp. -/

import Derived.Test.YtgiblcieplnncaaGreatDoorHPo3

import Derived.Test.YtgiblcieplnncaaGreatDoorHRPo

namespace Go.Proofs.YtgiblcieplnncaaGreatDoor

open Go.RowKit

attribute [local go_sem ↓] Go.wp_at_zero Go.wp_at_succ

theorem bxc4 {w z : World} {x0 x1 x2 x3 : Value} {t : TypeId} (h : Below (w.alloc (.cells #[x0, x1, x2, x3] t)).heap.size (w.alloc (.cells #[x0, x1, x2, x3] t)) z) :
    (z.cell? ⟨w.heap.size, 0, none⟩ = some x0 ∧ z.frozen? ⟨w.heap.size, 0, none⟩ = false) ∧ (z.cell? ⟨w.heap.size, 1, none⟩ = some x1 ∧ z.frozen? ⟨w.heap.size, 1, none⟩ = false) ∧ (z.cell? ⟨w.heap.size, 2, none⟩ = some x2 ∧ z.frozen? ⟨w.heap.size, 2, none⟩ = false) ∧ (z.cell? ⟨w.heap.size, 3, none⟩ = some x3 ∧ z.frozen? ⟨w.heap.size, 3, none⟩ = false) :=
  cells4 ((h.block w.heap.size (by simp)).trans (heap_alloc_at _ _ _ rfl))
theorem allocS {w z : World} (h : Below w.heap.size w z) (x : Obj) : Below w.heap.size w (z.alloc x) := h.alloc h.size x
def PoOut (ws : List (List UInt8)) (e : Ending) : Prop :=
  (∃ k V, OpIs ws k V ∧ e = .returned (.tuple #[opV (fillOp k V), .int .i64 0])) ∨ ((∀ k V, ¬ OpIs ws k V) ∧ e = .returned (.tuple #[opV ⟨0, 0, 0, 0⟩, .int .i64 7]))
theorem words_run {l : List UInt8} (hl : l.length ≤ 2000000) {B : Nat} {v : Value} {w : World} (h : w.ownsRow B 9 1 v (wordsL l).length (strC (wordsL l))) (hE : HEB w.heap.size w) :
    Calls Tryz.prog 19 #[v] w fun e w' => OpOut (wordsL l) e ∧ Below w.heap.size w w' :=
  opOf_any (wordsL l) B v w h (fun x hx => by have := words_le hx; omega) (by have := words_len l; omega) hE
set_option maxRecDepth 100000 in
set_option maxHeartbeats 8000000 in
theorem parseOp_any (l : List UInt8) (hl : l.length ≤ 2000000) (w : World) (hE : HEB w.heap.size w) :
    Calls Tryz.prog 8 #[.string ⟨l.toArray⟩] w fun e w' => PoOut (wordsL l) e ∧ Below w.heap.size w w' := by
  have HE : Hid (HEB _ _) := hE
  have HL : Hid (l.length ≤ 2000000) := hl
  clear hE hl
  by_cases hO : ∃ k V, OpIs (wordsL l) k V
  · obtain ⟨k, V, hO⟩ := hO
    have HP : Hid (PoOut (wordsL l) (.returned (.tuple #[opV (fillOp k V), .int .i64 0]))) := Or.inl ⟨k, V, hO, rfl⟩
    have HU : Hid (∀ e, OpOut (wordsL l) e → e = .returned (.tuple #[opV (fillOp k V), .bool true])) := by
      rintro e (⟨m, U, q, rfl⟩ | ⟨q, -⟩)
      · obtain ⟨rfl, rfl⟩ := q.one hO
        rfl
      · exact absurd hO (q k V)
    clear hO
    generalize fillOp k V = o at *
    obtain ⟨a, b, c, d⟩ := o
    simp only [opV] at HP HU
    go_enter Tryz.func8, Tryz.ntmps8
    go_wp2_with (first | (go_at_call 20; refine (wordsOf_any l (by have := HL.out; omega) _).mono ?_; rintro e w1 ⟨v, rfl, ho, hb1⟩; have B1 : Hid (Below _ _ w1) := hb1; have OW : Hid (World.ownsRow _ _ _ _ _ _ _) := ho; clear hb1 ho) | (go_at_call 19; refine (words_run HL.out OW.out (HE.out.on ((below_alloc w _).trans (B1.out.mono (by simp))))).mono ?_; rintro e w2 ⟨h2, hb2⟩; have h3 := HU.out e h2; subst h3; have hb3 := B1.out.trans (hb2.mono B1.out.size); obtain ⟨r0, r1, r2, r3⟩ := bxc4 hb3; have hz : w.heap.size < w2.heap.size := (by have := hb3.size; simp at this; omega); have B2 : Hid (Below w.heap.size w w2) := (below_alloc w _).trans (hb3.mono (by simp)); clear hb3 hb2 h2))
    refine bodyPost_ret (v := .tuple #[.agg #[.int .i64 a, .int .i64 b, .int .i64 c, .int .i64 d], .int .i64 0]) ?_ rfl ⟨HP.out, allocS ((((B2.out.setCell (p := ⟨w.heap.size, 0, none⟩) (Nat.le_refl _) _).setCell (p := ⟨w.heap.size, 1, none⟩) (Nat.le_refl _) _).setCell (p := ⟨w.heap.size, 2, none⟩) (Nat.le_refl _) _).setCell (p := ⟨w.heap.size, 3, none⟩) (Nat.le_refl _) _) _⟩
    rw [results_cell_tmp rfl]
    go_simp
  · have HN : Hid (∀ k V, ¬ OpIs (wordsL l) k V) := fun k V q => hO ⟨k, V, q⟩
    have HP : Hid (PoOut (wordsL l) (.returned (.tuple #[.agg #[.int .i64 0, .int .i64 0, .int .i64 0, .int .i64 0], .int .i64 7]))) := Or.inr ⟨HN.out, rfl⟩
    have HU : Hid (∀ e, OpOut (wordsL l) e → e = .returned (.tuple #[.agg #[.int .i64 0, .int .i64 0, .int .i64 0, .int .i64 0], .bool false])) := by
      rintro e (⟨m, U, q, rfl⟩ | ⟨q, rfl⟩)
      · exact absurd q (HN.out m U)
      · rfl
    clear hO HN
    go_enter Tryz.func8, Tryz.ntmps8
    go_wp2_with (first | (go_at_call 20; refine (wordsOf_any l (by have := HL.out; omega) _).mono ?_; rintro e w1 ⟨v, rfl, ho, hb1⟩; have B1 : Hid (Below _ _ w1) := hb1; have OW : Hid (World.ownsRow _ _ _ _ _ _ _) := ho; clear hb1 ho) | (go_at_call 19; refine (words_run HL.out OW.out (HE.out.on ((below_alloc w _).trans (B1.out.mono (by simp))))).mono ?_; rintro e w2 ⟨h2, hb2⟩; have h3 := HU.out e h2; subst h3; have hb3 := B1.out.trans (hb2.mono B1.out.size); obtain ⟨r0, r1, r2, r3⟩ := bxc4 hb3; have hz : w.heap.size < w2.heap.size := (by have := hb3.size; simp at this; omega); have B2 : Hid (Below w.heap.size w w2) := (below_alloc w _).trans (hb3.mono (by simp)); clear hb3 hb2 h2))
    refine bodyPost_ret (v := .tuple #[.agg #[.int .i64 0, .int .i64 0, .int .i64 0, .int .i64 0], .int .i64 7]) ?_ rfl ⟨HP.out, allocS ((((B2.out.setCell (p := ⟨w.heap.size, 0, none⟩) (Nat.le_refl _) _).setCell (p := ⟨w.heap.size, 1, none⟩) (Nat.le_refl _) _).setCell (p := ⟨w.heap.size, 2, none⟩) (Nat.le_refl _) _).setCell (p := ⟨w.heap.size, 3, none⟩) (Nat.le_refl _) _) _⟩
    rw [results_cell_tmp rfl]
    go_simp
end Go.Proofs.YtgiblcieplnncaaGreatDoor
