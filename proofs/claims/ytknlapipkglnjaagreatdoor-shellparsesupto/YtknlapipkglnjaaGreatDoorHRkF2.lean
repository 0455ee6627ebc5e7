
/- Layer 28: readPick, the walks. -/

import Derived.Test.YtknlapipkglnjaaGreatDoorHRk

namespace Go.Proofs.YtknlapipkglnjaaGreatDoor

open Go.RowKit

attribute [local go_sem ↓] Go.wp_at_zero Go.wp_at_succ

set_option maxRecDepth 100000 in
set_option maxHeartbeats 16000000 in
theorem pk2_fit (B b L cap q pc0 : Nat) (base pa : Option Addr) (vS vC : Value) (vs : Nat → Value) (g : GD) (w : World) (h : RdB B b w vS vC (.slice pa q pc0) vs g) (hq : q = g.picks.length) (hB : B ≤ w.heap.size) (hL : 2 ≤ L ∧ L ≤ 4294967295) (p : Int) (n : Int) (hf : 0 ≤ (n : Int) ∧ (q : Int) + n ≤ 1000000) (ra : ∀ (W : World) (gg pc : Nat), PkW w W gg → 2 ≤ pc → Calls Tryz.prog 69 #[.slice base L cap, .slice (some ⟨gg, 0, none⟩) 2 pc] W fun e w' => e = .returned (.bool true) ∧ Below w.heap.size w w' ∧ w'.heap[w.heap.size]? = some (.cells #[.int .i64 p] 3) ∧ w'.heap[w.heap.size + 1]? = some (.cells #[.int .i64 (n : Int)] 3))
    : Calls Tryz.prog 57 #[.pointer (some ⟨b, 0, none⟩), .slice base L cap] w fun e w' => ∃ vP', e = .returned (.bool true) ∧ RdB B b w' vS vC vP' vs { g with picks := g.picks ++ List.replicate (n : Int).toNat p } ∧ Below b w w' := by
  have RA : Hid (∀ (W : World) (gg pc : Nat), PkW w W gg → 2 ≤ pc → Calls Tryz.prog 69 #[.slice base L cap, .slice (some ⟨gg, 0, none⟩) 2 pc] W fun e w' => e = .returned (.bool true) ∧ Below w.heap.size w w' ∧ w'.heap[w.heap.size]? = some (.cells #[.int .i64 p] 3) ∧ w'.heap[w.heap.size + 1]? = some (.cells #[.int .i64 (n : Int)] 3)) := ra
  clear ra
  have hvP : Hid (∀ k, k < B → (Value.slice pa q pc0).ownBlock ≠ some k) := fun k hk r => by have := (owns_lt h.game.pk k r).1; omega
  have HR : Hid (RdB B b w vS vC _ vs g) := h
  have hlt := h.lt
  have hzb : b < w.heap.size := (Array.getElem?_eq_some_iff.1 h.box).1
  clear h
  have n0 : (1 : Int) < (L : Int) := by omega
  have n1 : (L : Int) ≤ 4294967295 := by omega
  have HQ : Hid (q = g.picks.length) := hq
  clear hq
  have hws : IntKind.i64.wrap (1000000 - (q : Int)) = 1000000 - (q : Int) := wrap_in (by omega) (by omega)
  have q0 : (0 : Int) ≤ (q : Int) := Int.natCast_nonneg _
  have u0 : decide ((n : Int) < 0) = false := by simpa using hf.1
  have u1 : (q : Int) ≤ 1000000 := by omega
  have u2 : decide (1000000 - (q : Int) < (n : Int)) = false := by simp; omega
  have u3 : (n : Int) ≤ 1000000 := by omega
  obtain ⟨m, rfl⟩ : ∃ m : Nat, n = (m : Int) := ⟨n.toNat, by omega⟩
  have u4 : m ≤ 1000000 := by omega
  have HF : Hid _ := hf
  clear hf
  go_enter Tryz.func57, Tryz.ntmps57
  obtain ⟨i9, hi9, hz9, hz8, hz7⟩ := info_parts ptr_info
  go_wp2_with (first | (at_builtin; (refine wpList_append_lies _ (by rfl) _ _ _ (by rfl) w.heap.size 107 i9 _ 1 8 ptr_under hi9 hz9 hz8 hz7 rfl (by omega) _ 1 _ (by rfl) ((own_ptr w).alloc _) ⟨w.heap.size + 3, 0, none⟩ 1 1 [.pointer (some ⟨w.heap.size + 1, 0, none⟩)] (by rfl) (by rfl) (World.news_of_block (cs := #[.pointer (some ⟨w.heap.size + 1, 0, none⟩)]) (t := 107) (fr := (0, 0)) (heap_alloc_at _ _ _ (by simp))) (by simp [Value.oneCell']) (by omega) (by unfold maxLen; omega) (by omega) (by simp; omega) (w.heap.size + 4) (by simp) ?_; intro gg pc w3 hown3 hgrow hat hlt3; have PK : Hid (PkW w w3 gg ∧ 2 ≤ pc) := pkw_of hown3 hgrow hat; clear hgrow hown3 hat)))
  have X0 : Hid (w.cell? ⟨b, 2, none⟩ = some (.slice pa q pc0)) := (cells4 HR.out.box).2.2.1.1
  first | (go_region_with (first | (go_at_call 69; refine Calls.mono (RA.out _ gg pc (by first | exact PK.out.1 | exact PK.out.1.drew) PK.out.2) ?_; rintro e w2 ⟨rfl, hb2, hp0, hp1⟩; have B2 : Hid (Below w.heap.size w w2) := hb2; have R2 : Hid (RdB B b w2 vS vC (.slice pa q pc0) vs g) := HR.out.quiet hb2; have q4 := cells4 R2.out.box; obtain ⟨⟨c0, f0⟩, ⟨c1, f1⟩, ⟨c2, f2⟩, ⟨c3, f3⟩⟩ := q4; have x0 := one1 hp0; have x1 := one1 hp1; have hzs := hb2.size; have hz2 : b < w2.heap.size := (by omega); have hs0 : w.heap.size < w2.heap.size := (Array.getElem?_eq_some_iff.1 hp0).1; have hs1 : w.heap.size + 1 < w2.heap.size := (Array.getElem?_eq_some_iff.1 hp1).1; have X2 : Hid (w2.cell? ⟨b, 2, none⟩ = some (.slice pa q pc0)) := c2; clear hb2 hp0 hp1) | fail)) | fail
  all_goals
    go_wp2_with fail
    obtain ⟨i0, hi0, hz0, hz1, hz2a⟩ := info_parts rin_info
    go_region_law (first | (refine step_callTo (by rfl) 70 _ (by go_simp) (fun v w4 => v = .slice (some ⟨w2.heap.size + 1, 0, none⟩) m m ∧ w4.ownsRow (w2.heap.size + 1) 3 1 (.slice (some ⟨w2.heap.size + 1, 0, none⟩) m m) m (inC (List.replicate m p)) ∧ Below w2.heap.size w2 w4) (repeat_at p m u4 w2) ?_; rintro v w4 ⟨rfl, ho4, hb4⟩; have O4 : Hid (w4.ownsRow (w2.heap.size + 1) 3 1 _ m (inC (List.replicate m p))) := ho4; have B4 : Hid (Below w2.heap.size w2 w4) := hb4; have R4 : Hid (RdB B b w4 vS vC (.slice pa q pc0) vs g) := R2.out.quiet hb4; have q5 := cells4 R4.out.box; obtain ⟨⟨d0, e0⟩, ⟨d1, e1⟩, ⟨d2, e2⟩, ⟨d3, e3⟩⟩ := q5; have hz4 : b < w4.heap.size := (by have := hb4.size; omega); clear ho4 hb4) | (refine step_append_any (by rfl) _ _ _ (by rfl) B 3 i0 _ 1 8 rin_under hi0 hz0 hz1 hz2a rfl (by omega) _ q _ (by rfl) (pk_row R4.out HQ.out) ⟨w2.heap.size + 1, 0, none⟩ m m (inC (List.replicate m p)) (by rfl) (by simp [inC]) (row_news O4.out) (rep_one m p) (by unfold maxLen; omega) (by omega) (by have := B4.out.size; omega) ?_; intro va vc w5 hown5 hgrow5; have HAD : Hid _ := pk_added R4.out HQ.out hgrow5 hown5; have q6 := cells4 HAD.out.1; obtain ⟨⟨y0, z0⟩, ⟨y1, z1⟩, ⟨y2, z2⟩, ⟨y3, z3⟩⟩ := q6; clear hgrow5 hown5) | fail)
    all_goals
      go_wp2_with fail
      go_ret
      exact ⟨_, rfl, (by have := HAD.out.2.1; simpa using this), (B2.out.mono (by omega)).trans ((B4.out.mono (by omega)).trans HAD.out.2.2)⟩
end Go.Proofs.YtknlapipkglnjaaGreatDoor
