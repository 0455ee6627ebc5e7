
/- Layer 28: the reader's readOp. -/

import Derived.Test.YtknlapipkglnjaaGreatDoorHRt

namespace Go.Proofs.YtknlapipkglnjaaGreatDoor

open Go.RowKit

attribute [local go_sem ↓] Go.wp_at_zero Go.wp_at_succ

theorem top_cell {B : Nat} {z : World} {vS vC vP : Value} {vs : Nat → Value} {g : GD} (h : GAt B z vS vC vP vs g) (hne : 0 < g.scripts.length) : ∃ c cap, vC = .slice (some ⟨c, 0, none⟩) g.scripts.length cap ∧ g.scripts.length ≤ cap ∧ B ≤ c ∧ c < z.heap.size ∧ ∀ m, m < g.scripts.length → z.cell? ⟨c, m, none⟩ = some (vs m) ∧ z.frozen? ⟨c, m, none⟩ = false := by
  obtain ⟨c, cap, rfl, hB, hlt, hcap, -, hcl, hfr⟩ := owns_some h.top hne
  refine ⟨c, cap, rfl, hcap, hB, hlt, fun m hm => ⟨?_, hfr m⟩⟩
  rw [hcl m (by omega), List.getElem?_map, List.getElem?_range hm]
  rfl
theorem row_now {B m L vc : Nat} {va : Option Addr} {z : World} {vS vC vP : Value} {vs : Nat → Value} {g : GD} (h : GAt B z vS vC vP vs g) (hm : m + 1 = g.scripts.length) (hL : L = (g.scripts.getD m []).length) (hv : vs m = .slice va L vc) : z.ownsRow B 39 4 (.slice va L vc) L (opsC (g.scripts.getD m [])) := by
  have := h.row m (by omega)
  rw [hv, ← hL] at this
  exact this
theorem op_added {B b m c cap L vc gg cp : Nat} {va : Option Addr} {w w3 : World} {vS vP : Value} {vs : Nat → Value} {g : GD} {oa ob oc od : Int} {x : Obj} (h : RdB B b w vS (.slice (some ⟨c, 0, none⟩) g.scripts.length cap) vP vs g) (hm : m + 1 = g.scripts.length) (hL : L = (g.scripts.getD m []).length) (hv : vs m = .slice va L vc)
    (hg : ((w.alloc x).drew).grownBy w3 (Value.slice va L vc).ownBlock) (ho : w3.ownsRow B 39 4 (.slice (some ⟨gg, 0, none⟩) (L + 1) cp) (L + 1) (opsC (g.scripts.getD m []) ++ [.int .i64 oa, .int .i64 ob, .int .i64 oc, .int .i64 od])) (hat : (Value.slice va L vc).ownBlock = some gg ∨ gg = w.heap.size + 1) :
    (w3.cell? ⟨c, m, none⟩ = some (.slice va L vc) ∧ w3.frozen? ⟨c, m, none⟩ = false) ∧ w3.heap[b]? = some (.cells #[vS, .slice (some ⟨c, 0, none⟩) g.scripts.length cap, vP, .int .i64 (g.part : Int)] 69) ∧ RdB B b (w3.setCell ⟨c, m, none⟩ (.slice (some ⟨gg, 0, none⟩) (L + 1) cp)) vS (.slice (some ⟨c, 0, none⟩) g.scripts.length cap) vP (fun i => if i = m then .slice (some ⟨gg, 0, none⟩) (L + 1) cp else vs i) (addO g ⟨oa, ob, oc, od⟩) ∧ Below b w (w3.setCell ⟨c, m, none⟩ (.slice (some ⟨gg, 0, none⟩) (L + 1) cp)) := by
  have hmr : m < g.scripts.length := by omega
  have hy : Below w.heap.size w ((w.alloc x).drew) := (below_alloc w x).drew
  rw [← hv] at hg hat
  have htop := ((h.game.quiet hy).top).kept hg (rowApart (h.game.quiet hy).top ((h.game.quiet hy).row m hmr) t_co)
  have hc := owns_some htop (by omega)
  obtain ⟨c', cap', he, -, -, -, -, hcl, hfr⟩ := hc
  obtain rfl : c = c' := by
    injection he with he _ _
    injection he with he
    injection he
  refine ⟨⟨?_, hfr m⟩, (farG hy hg (Array.getElem?_eq_some_iff.1 h.box).1 (fun q => by have := (owns_lt (h.game.row m hmr) b q).1; have := h.lt; omega)).trans h.box, ?_⟩
  · rw [hcl m (by omega), List.getElem?_map, List.getElem?_range hmr, ← hv]
    rfl
  · subst hL
    exact h.addO hm hy hg ⟨oa, ob, oc, od⟩ ho (by
      rcases hat with q | q
      · exact Or.inl q
      · right
        rw [q]
        show _ = (w.alloc x).heap.size
        simp)
set_option maxRecDepth 100000 in
set_option maxHeartbeats 8000000 in
theorem readOp_any (B b Bw : Nat) (v : Value) (ws : List (List UInt8)) (vS vC vP : Value) (vs : Nat → Value) (g : GD) (w : World) (h : RdB B b w vS vC vP vs g) (hB : B ≤ w.heap.size)
    (ho : w.ownsRow Bw 9 1 v ws.length (strC ws)) (hw : ∀ x ∈ ws, x.length ≤ 4294967296) (hn : ws.length ≤ 4294967295) (hS : g.scripts.length ≤ 2000000) (hL : ∀ i, (g.scripts.getD i []).length ≤ 2000000) (hne : g.scripts ≠ []) (hE : HEB b w) :
    Calls Tryz.prog 58 #[.pointer (some ⟨b, 0, none⟩), v] w fun e w' => RdrOut B b w w' ((opO ws).map (addO g)) e := by
  have hbw : b ≤ w.heap.size := by have := h.lt; omega
  have hlt := h.lt
  have OP := opOf_any ws Bw v w ho hw hn (hE.down (Below.refl _ _) hbw)
  by_cases hO : ∃ k V, OpIs ws k V
  · obtain ⟨k, V, hO⟩ := hO
    have HO : Hid ((opO ws).map (addO g) = some (addO g (fillOp k V))) := by show (opO ws).map (addO g) = _; rw [opO_some hO]; rfl
    have RA : Hid (Calls Tryz.prog 71 #[v] w fun e w' => e = .returned (.tuple #[opV (fillOp k V), .bool true]) ∧ Below w.heap.size w w') := OP.mono (by
      rintro e w' ⟨⟨m, U, q, rfl⟩ | ⟨q, -⟩, hb⟩
      · obtain ⟨rfl, rfl⟩ := q.one hO
        exact ⟨rfl, hb⟩
      · exact absurd hO (q k V))
    clear hO OP
    generalize fillOp k V = o at *
    obtain ⟨oa, ob, oc, od⟩ := o
    simp only [opV] at RA
    obtain ⟨m, hm⟩ : ∃ m, m + 1 = g.scripts.length := ⟨g.scripts.length - 1, by have := List.length_pos_iff.2 hne; omega⟩
    have hmr : m < g.scripts.length := by omega
    obtain ⟨c, cap, rfl, hcap, hBc, hcl, htc⟩ := top_cell h.game (by omega)
    obtain ⟨va, vc, hvm, -⟩ := ownForm (h.game.row m hmr)
    have HVM : Hid (vs m = .slice va (g.scripts.getD m []).length vc) := hvm
    have hvB : Hid (∀ k, k < B → (vs m).ownBlock ≠ some k) := fun k hk q => by have := (owns_lt (h.game.row m hmr) k q).1; omega
    have hvC : Hid ((vs m).ownBlock ≠ some c) := fun q => by
      rcases rowApart (h.game.row m hmr) h.game.top (Ne.symm t_co) with a | a
      · rw [a] at q; cases q
      · exact a q
    have hLm : (g.scripts.getD m []).length ≤ 2000000 := hL m
    obtain ⟨L, hLe⟩ : ∃ L, L = (g.scripts.getD m []).length := ⟨_, rfl⟩
    have HL : Hid (L = (g.scripts.getD m []).length) := hLe
    rw [← hLe] at HVM hLm
    have HM : Hid (m + 1 = g.scripts.length) := hm
    have htm : Hid (w.cell? ⟨c, m, none⟩ = some (.slice va L vc) ∧ w.frozen? ⟨c, m, none⟩ = false) := ⟨by rw [(htc m hmr).1, HVM.out], (htc m hmr).2⟩
    have l1 : ((g.scripts.length : Nat) : Int) - 1 = (m : Int) := by omega
    have l2 : (m : Int) < ((g.scripts.length : Nat) : Int) := by omega
    have l3 : (0 : Int) ≤ (m : Int) := Int.natCast_nonneg _
    have l4 : ((g.scripts.length : Nat) : Int) ≤ 2000000 := by omega
    obtain ⟨i0, hi0, hz0, hz1, hz2⟩ := info_parts op_info
    have HR : Hid (RdB B b w vS _ vP vs g) := h
    have hzb : b < w.heap.size := (Array.getElem?_eq_some_iff.1 h.box).1
    clear h hn hL hE hw ho hvm htc hm hLe hne
    go_enter Tryz.func58, Tryz.ntmps58
    go_wp2_with (first | (go_at_call 71; refine Calls.mono RA.out ?_; rintro e w1 ⟨rfl, hb1⟩; have B1 : Hid (Below w.heap.size w w1) := hb1; have B2 : Hid (Below w.heap.size w (w1.alloc (.cells #[.int .i64 oa, .int .i64 ob, .int .i64 oc, .int .i64 od] 39))) := allocS hb1 _; have R1 : Hid (RdB B b w1 vS _ vP vs g) := HR.out.quiet hb1; have R2 : Hid (RdB B b (w1.alloc (.cells #[.int .i64 oa, .int .i64 ob, .int .i64 oc, .int .i64 od] 39)) vS _ vP vs g) := HR.out.quiet B2.out; have q4 := cells4 R1.out.box; obtain ⟨⟨c0, f0⟩, ⟨c1, f1⟩, ⟨c2, f2⟩, ⟨c3, f3⟩⟩ := q4; have hzs := hb1.size; have hz1b : b < w1.heap.size := (by omega); have hc1 : c < w1.heap.size := (by omega); have t1 : w1.cell? ⟨c, m, none⟩ = some (.slice va L vc) := (hb1.cell (p := ⟨c, m, none⟩) hcl).trans htm.out.1; clear hb1))
    go_region_law (refine step_append_lies _ (by rfl) _ _ _ (by rfl) B 39 i0 _ 4 32 ops_under hi0 hz0 hz1 hz2 rfl (by omega) _ L _ (by rfl) ((row_now R2.out.game HM.out HL.out HVM.out).alloc _).drew ⟨w1.heap.size + 1, 0, none⟩ 1 1 [.int .i64 oa, .int .i64 ob, .int .i64 oc, .int .i64 od] (by rfl) (by rfl) (World.news_of_block (cs := #[.int .i64 oa, .int .i64 ob, .int .i64 oc, .int .i64 od]) (t := 39) (fr := (0, 0)) (heap_alloc_at _ _ _ (by simp))) (by simp [Value.oneCell']) (by omega) (by unfold maxLen; omega) (by omega) (by simp; omega) (w1.heap.size + 2) (by simp) ?_; intro gg cp w3 hown3 hgrow hat hlt3; have HAD : Hid _ := op_added R2.out HM.out HL.out HVM.out hgrow hown3 (by simpa using hat); have t3 := HAD.out.1; have q5 := cells4 HAD.out.2.1; obtain ⟨⟨d0, e0⟩, ⟨d1, e1⟩, ⟨d2, e2⟩, ⟨d3, e3⟩⟩ := q5; clear hgrow hown3 hat)
    all_goals
      go_wp2_with fail
      go_ret
      exact ⟨Or.inl ⟨_, _, _, _, _, HO.out, rfl, HAD.out.2.2.1⟩, (B2.out.mono (by omega)).trans HAD.out.2.2.2⟩
  · have HO : Hid ((opO ws).map (addO g) = none) := by show (opO ws).map (addO g) = _; rw [opO_none fun k V q => hO ⟨k, V, q⟩]; rfl
    have RA : Hid (Calls Tryz.prog 71 #[v] w fun e w' => e = .returned (.tuple #[.agg #[.int .i64 0, .int .i64 0, .int .i64 0, .int .i64 0], .bool false]) ∧ Below w.heap.size w w') := OP.mono (by
      rintro e w' ⟨⟨m, U, q, rfl⟩ | ⟨q, rfl⟩, hb⟩
      · exact absurd ⟨m, U, q⟩ hO
      · exact ⟨rfl, hb⟩)
    clear h hn hL hE hw ho hne hO OP
    go_enter Tryz.func58, Tryz.ntmps58
    go_wp2_with (first | (go_at_call 71; refine Calls.mono RA.out ?_; rintro e w1 ⟨rfl, hb1⟩; have B1 : Hid (Below w.heap.size w w1) := hb1; clear hb1))
    go_ret
    exact ⟨Or.inr ⟨HO.out, rfl⟩, (allocS B1.out _).mono hbw⟩
end Go.Proofs.YtknlapipkglnjaaGreatDoor
