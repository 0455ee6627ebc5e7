
/- Layer 28: the reader's readStart. -/

import Derived.Test.YtknlapipkglnjaaGreatDoorHRs

namespace Go.Proofs.YtknlapipkglnjaaGreatDoor

open Go.RowKit

attribute [local go_sem ↓] Go.wp_at_zero Go.wp_at_succ

def RdrOut (B b : Nat) (w w' : World) (r : Option GD) (e : Ending) : Prop :=
  ((∃ g' vS vC vP vs, r = some g' ∧ e = .returned (.bool true) ∧ RdB B b w' vS vC vP vs g') ∨ (r = none ∧ e = .returned (.bool false))) ∧ Below b w w'
theorem HEB.down {b n : Nat} {w W : World} (h : HEB b w) (hb : Below b w W) (hn : b ≤ n) : HEB n W := ⟨fun w' h' => h.1 w' (hb.trans (h'.mono hn)), fun w' h' => h.2 w' (hb.trans (h'.mono hn))⟩
theorem startO_none {g : GD} {ws : List (List UInt8)} (h : ∀ V : List Int, ¬ (ws.length = 2 ∧ V.length = 2 ∧ ∀ m, m < V.length → numOf (ws.getD m []) = some (V.getD m 0))) : startO g ws = none := by
  match ws, h with
  | [], _ => rfl
  | [_], _ => rfl
  | [a, b], h =>
    cases ha : numOf a with
    | none => simp [startO, ha]
    | some k =>
      cases hb : numOf b with
      | none => simp [startO, ha, hb]
      | some v => exact absurd ⟨rfl, rfl, fun m hm => by
          match m, hm with
          | 0, _ => exact ha
          | 1, _ => exact hb⟩ (h [k, v])
  | _ :: _ :: _ :: _, _ => rfl
set_option maxRecDepth 100000 in
set_option maxHeartbeats 8000000 in
theorem readStart_any (B b g0 cap : Nat) (base : Option Addr) (ws : List (List UInt8)) (vS vC vP : Value) (vs : Nat → Value) (g : GD) (w : World) (h : RdB B b w vS vC vP vs g) (hB : B ≤ w.heap.size)
    (hbs : ws ≠ [] → base = some ⟨g0, 1, none⟩) (hc : ∀ j, j < ws.length → w.cell? ⟨g0, 1 + j, none⟩ = some (.string ⟨(ws.getD j []).toArray⟩)) (hg0 : ws ≠ [] → g0 < w.heap.size) (hw : ∀ j, (ws.getD j []).length ≤ 4294967296) (hn : ws.length ≤ 4294967295) (hS : g.start.length ≤ 2000000) (hE : HEB b w) :
    Calls Tryz.prog 55 #[.pointer (some ⟨b, 0, none⟩), .slice base ws.length cap] w fun e w' => RdrOut B b w w' (startO g ws) e := by
  have hbw : b ≤ w.heap.size := by have := h.lt; omega
  obtain ⟨W, hW⟩ : ∃ W, W = ((w.alloc (.cells #[.int .i64 0, .int .i64 0] 49)).alloc (.cells #[.pointer (some ⟨w.heap.size, 0, none⟩), .pointer (some ⟨w.heap.size, 1, none⟩)] 107)) := ⟨_, rfl⟩
  have bW : Below w.heap.size w W := by rw [hW]; exact ((below_alloc w _).alloc (by simp) _)
  have RN : Calls Tryz.prog 69 #[.slice base ws.length cap, .slice (some ⟨w.heap.size + 1, 0, none⟩) 2 2] W fun e w' => RgOut ws w.heap.size W w' [(w.heap.size, 0), (w.heap.size, 1)] e := by
    by_cases hws : ws = []
    · subst hws
      exact readNumbers_gen [] [(w.heap.size, 0), (w.heap.size, 1)] (w.heap.size + 1) 0 1 cap 2 w.heap.size base _ W (fun q => absurd rfl q) (fun _ => rfl) (fun j hj => by cases hj) (by have := h.lt; omega) hw (by omega) (by rw [hW]; exact wnt2 w) bW.size (by simp) (by simp) (hE.down (bW.mono hbw) hbw)
    · have hgl := hg0 hws
      exact readNumbers_gen ws [(w.heap.size, 0), (w.heap.size, 1)] (w.heap.size + 1) g0 1 cap 2 w.heap.size base _ W hbs (fun _ => rfl) (fun j hj => (bW.cell (p := ⟨g0, 1 + j, none⟩) hgl).trans (hc j hj)) hgl hw (by omega) (by rw [hW]; exact wnt2 w) bW.size (by simp) (by simp) (hE.down (bW.mono hbw) hbw)
  have HW : Hid (((w.alloc (.cells #[.int .i64 0, .int .i64 0] 49)).alloc (.cells #[.pointer (some ⟨w.heap.size, 0, none⟩), .pointer (some ⟨w.heap.size, 1, none⟩)] 107)) = W) := hW.symm
  have HB : Hid (Below w.heap.size w W) := bW
  have HR : Hid (RdB B b w vS vC vP vs g) := h
  have hlt := h.lt
  by_cases hV : ∃ V : List Int, ws.length = 2 ∧ V.length = 2 ∧ ∀ m, m < V.length → numOf (ws.getD m []) = some (V.getD m 0)
  · obtain ⟨V, h2, hV2, hVn⟩ := hV
    obtain ⟨x, y, rfl⟩ : ∃ x y, ws = [x, y] := by
      match ws, h2 with
      | [x, y], _ => exact ⟨x, y, rfl⟩
    obtain ⟨k, v, rfl⟩ : ∃ k v, V = [k, v] := by
      match V, hV2 with
      | [k, v], _ => exact ⟨k, v, rfl⟩
    have hx : numOf x = some k := hVn 0 (by simp)
    have hy : numOf y = some v := hVn 1 (by simp)
    have HO : Hid (startO g [x, y] = some { g with start := g.start ++ [(k, v)] }) := by show startO g [x, y] = _; simp [startO, hx, hy]
    have RA : Hid (Calls Tryz.prog 69 #[.slice base 2 cap, .slice (some ⟨w.heap.size + 1, 0, none⟩) 2 2] W fun e w' => e = .returned (.bool true) ∧ Below w.heap.size w w' ∧ w'.heap[w.heap.size]? = some (.cells #[.int .i64 k, .int .i64 v] 49)) := RN.mono (by
      rintro e w' (⟨U, -, hU, hUn, rfl, hb⟩ | ⟨q, -, -⟩)
      · obtain ⟨k', v', rfl⟩ : ∃ k v, U = [k, v] := by
          match U, hU with
          | [k, v], _ => exact ⟨k, v, rfl⟩
        have e1 : numOf x = some k' := hUn 0 (by simp)
        have e2 : numOf y = some v' := hUn 1 (by simp)
        obtain rfl : k = k' := Option.some.inj (hx.symm.trans e1)
        obtain rfl : v = v' := Option.some.inj (hy.symm.trans e2)
        refine ⟨rfl, (bW.trans (setAll_below _ _ _ (by simp))).trans (hb.mono bW.size), ?_⟩
        rw [hb.block _ (by rw [hW]; simp; omega), hW]
        exact set2 w k v _
      · exact absurd ⟨rfl, rfl, hVn⟩ (q [k, v]))
    obtain ⟨va, vc, hv, -⟩ := ownForm h.game.st
    have hvS : Hid (∀ k, k < B → vS.ownBlock ≠ some k) := fun k hk q => by have := (owns_lt h.game.st k q).1; omega
    obtain ⟨i0, hi0, hz0, hz1, hz2⟩ := info_parts pr_info
    subst hv
    clear RN hc hg0 hw hn hE hbs hVn h2 hV2 hx hy hW bW h
    simp only [List.length_cons, List.length_nil]
    go_enter Tryz.func55, Tryz.ntmps55
    go_wp2_with (first | (go_at_call 69; rw [HW.out]; refine Calls.mono RA.out ?_; rintro e w2 ⟨rfl, hb2, hp2⟩; have B2 : Hid (Below w.heap.size w w2) := hb2; have R2 : Hid (RdB B b w2 _ vC vP vs g) := HR.out.quiet hb2; have P2 : Hid (w2.heap[w.heap.size]? = some (.cells #[.int .i64 k, .int .i64 v] 49)) := hp2; obtain ⟨⟨c0, f0⟩, ⟨c1, f1⟩, ⟨c2, f2⟩, ⟨c3, f3⟩⟩ := cells4 R2.out.box; obtain ⟨p0, p1⟩ := pair2 hp2; have hzs := hb2.size; have hzb : b < w2.heap.size := (by omega); have hzw : w.heap.size < w2.heap.size := (Array.getElem?_eq_some_iff.1 hp2).1; clear hb2 hp2))
    go_region_law (refine step_append_lies _ (by rfl) _ _ _ (by rfl) B 49 i0 _ 2 16 prs_under hi0 hz0 hz1 hz2 rfl (by omega) _ g.start.length _ (by rfl) ((R2.out.game.st.alloc _).drew) ⟨w2.heap.size, 0, none⟩ 1 1 [.int .i64 k, .int .i64 v] (by rfl) (by rfl) (World.news_of_block (cs := #[.int .i64 k, .int .i64 v]) (t := 49) (fr := (0, 0)) (heap_alloc_at _ _ _ (by simp))) (by simp [Value.oneCell']) (by omega) (by unfold maxLen; omega) (by omega) (by simp; omega) (w2.heap.size + 1) (by simp) ?_; intro gg cp w3 hown3 hgrow hat hlt3; obtain ⟨⟨r0, s0⟩, ⟨r1, s1⟩, ⟨r2, s2⟩, ⟨r3, s3⟩⟩ := cells4 ((far1 hgrow hzb (hvS.out b hlt)).trans R2.out.box))
    all_goals
      have HAD : Hid _ := R2.out.addS hgrow k v hown3
      clear hgrow hown3 hat
      go_wp2_with fail
      go_ret
      exact ⟨Or.inl ⟨_, _, _, _, _, HO.out, rfl, HAD.out.1⟩, (B2.out.mono (by omega)).trans HAD.out.2⟩
  · have HO : Hid (startO g ws = none) := startO_none fun V q => hV ⟨V, q⟩
    have RA : Hid (Calls Tryz.prog 69 #[.slice base ws.length cap, .slice (some ⟨w.heap.size + 1, 0, none⟩) 2 2] W fun e w' => e = .returned (.bool false) ∧ Below w.heap.size w w') := RN.mono (by
      rintro e w' (⟨U, q1, q2, q3, -, -⟩ | ⟨-, rfl, hb⟩)
      · exact absurd ⟨U, q1, q2, q3⟩ hV
      · exact ⟨rfl, bW.trans hb⟩)
    clear RN hc hg0 hw hE hbs hV hW bW h
    go_enter Tryz.func55, Tryz.ntmps55
    go_wp2_with (first | (go_at_call 69; rw [HW.out]; refine Calls.mono RA.out ?_; rintro e w2 ⟨rfl, hb2⟩; have B2 : Hid (Below w.heap.size w w2) := hb2; clear hb2))
    go_ret
    exact ⟨Or.inr ⟨HO.out, rfl⟩, B2.out.mono hbw⟩
end Go.Proofs.YtknlapipkglnjaaGreatDoor
