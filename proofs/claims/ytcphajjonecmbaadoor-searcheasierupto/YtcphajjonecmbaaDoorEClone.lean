
/- Layer 5: slices.Clone of pairs, copyOf. -/

import Derived.Test.YtcphajjonecmbaaDoorERef4

import Derived.Lib.SliceRun

namespace Go.Proofs.YtcphajjonecmbaaDoor

open Go.RowKit

attribute [local go_sem ↓] Go.wp_at_zero Go.wp_at_succ

/-- A list of pairs in new memory, or nil. -/
def OwnP (w : World) (B : Nat) (ps : PL) (v : Value) : Prop := ∃ a g cap, v = .slice a ps.length cap ∧ (ps.length ≠ 0 → B ≤ g) ∧ PairsAt w a g 0 ps ∧ (a = none → cap = 0)
theorem OwnP.below {w w' : World} {B : Nat} {ps : PL} {v : Value} (h : OwnP w B ps v) (hb : Below w.heap.size w w') : OwnP w' B ps v := by
  obtain ⟨a, g, cap, e, h1, h2, h3⟩ := h
  exact ⟨a, g, cap, e, h1, h2.below hb, h3⟩
theorem OwnP.set {w : World} {B : Nat} {ps : PL} {v : Value} (h : OwnP w B ps v) {g j : Nat} {u : Value} (hg : g < B) : OwnP (w.setCell ⟨g, j, none⟩ u) B ps v := by
  obtain ⟨a, g', cap, e, h1, h2, h3⟩ := h
  refine ⟨a, g', cap, e, h1, ?_, h3⟩
  by_cases hn : ps.length = 0
  · exact ⟨fun q => absurd hn q, fun q => absurd hn q, fun i hi => by omega, h2.len, fun i hi => by omega⟩
  · exact h2.apart' (by have := h1 hn; omega)
theorem OwnP.down {w : World} {B B' : Nat} {ps : PL} {v : Value} (h : OwnP w B ps v) (hB : B' ≤ B) : OwnP w B' ps v := by
  obtain ⟨a, g, cap, e, h1, h2, h3⟩ := h
  exact ⟨a, g, cap, e, fun q => Nat.le_trans hB (h1 q), h2, h3⟩

set_option maxRecDepth 100000 in
set_option maxHeartbeats 1000000 in
theorem clone_any (bp : Option Addr) (gp op cp : Nat) (ps : PL) (w : World) (h : PairsAt w bp gp op ps) (hnil : bp = none → ps.length = 0 ∧ cp = 0) (hbig : ps.length * 16 ≤ 140737488355328) :
    Calls Tryd.prog 77 #[.slice bp ps.length cp] w fun e w' => ∃ v, e = .returned v ∧ OwnP w' w.heap.size ps v ∧ Below w.heap.size w w' := by
  have hlen := h.len
  have qn : ∀ (w : World) (a : Option Addr) (n c n' c' : Nat), (binOp .eql 23 (.slice a n c) (.slice none n' c')).run Tryd.prog w = .ok (.bool a.isNone) w := fun w a n c n' c' => Lib.run_eql_slice_nil w _ _ a n c n' c' prs_under
  cases bp with
  | none =>
    obtain ⟨h0, rfl⟩ := hnil rfl
    clear hnil h
    obtain rfl : ps = [] := List.length_eq_zero_iff.1 h0
    clear hlen h0 hbig
    show Calls Tryd.prog 77 #[.slice none 0 0] w _
    go_enter Tryd.func77, Tryd.ntmps77
    go_wp2_with fail
    go_ret
    exact ⟨_, rfl, ⟨none, 0, 0, rfl, fun h => absurd rfl h, ⟨fun h => absurd rfl h, fun h => absurd rfl h, fun i hi => by simp at hi, by simp, fun i hi => by simp at hi⟩, fun _ => rfl⟩, Below.refl _ _⟩
  | some ad =>
    obtain ⟨i0, hi0, hz0, hz1, hz2⟩ := info_parts pr_info
    have HA : Hid _ := h
    clear hnil h
    have ho : (w.alloc (.cells #[] 93)).ownsRow w.heap.size 93 2 (.slice (some ⟨w.heap.size, 0, none⟩) 0 0) 0 [] := ⟨rfl, Or.inr ⟨w.heap.size, 0, #[], rfl, Nat.le_refl _, heap_alloc_at _ _ _ rfl, Nat.le_refl _, by unfold maxLen; omega, rfl, rfl⟩⟩
    have HO : Hid (World.ownsRow _ _ _ _ _ _ _) := ho
    have hnews : ∀ a, some ad = some a → ∀ j u, (pairCells ps)[j]? = some u → (w.alloc (.cells #[] 93)).cell? (a.add j) = some u := pairs_news (HA.out.below (below_alloc _ _))
    have HW : Hid _ := hnews
    clear ho hnews
    go_enter Tryd.func77, Tryd.ntmps77
    go_wp2_with (first | (at_builtin; (refine wpList_append_all (by rfl) _ _ _ (by rfl) w.heap.size 93 i0 _ 2 16 prs_under hi0 hz0 hz1 hz2 rfl (by omega) _ 0 [] (by rfl) HO.out (some ad) ps.length cp (pairCells ps) (by rfl) (fun h => by cases h) (pairCells_length _) HW.out (pairCells_one _) (by omega) (by omega) (by simp) ?_); intro v' w1 hown1 hgrow hnl))
    go_ret
    obtain ⟨g, cap, rfl, hg, hgl, hpa⟩ := owned_pairs hown1 (fun q => by cases (hnl.1 q).1)
    exact ⟨_, rfl, ⟨_, g, cap, rfl, fun _ => hg, hpa hlen, (fun q => by cases q)⟩, Below.grown (below_alloc _ _) hgrow (by simp) (by intro k hk; simp [Value.ownBlock] at hk; omega)⟩

theorem two_cells {w w1 : World} {A B : Obj} (h : Below ((w.alloc A).alloc B).heap.size ((w.alloc A).alloc B) w1) :
    (∀ o, w1.cell? ⟨w.heap.size, o, none⟩ = (w.alloc A).cell? ⟨w.heap.size, o, none⟩) ∧ (∀ o, w1.frozen? ⟨w.heap.size, o, none⟩ = (w.alloc A).frozen? ⟨w.heap.size, o, none⟩) ∧
    (∀ o, w1.cell? ⟨w.heap.size + 1, o, none⟩ = ((w.alloc A).alloc B).cell? ⟨w.heap.size + 1, o, none⟩) ∧ (∀ o, w1.frozen? ⟨w.heap.size + 1, o, none⟩ = ((w.alloc A).alloc B).frozen? ⟨w.heap.size + 1, o, none⟩) := by
  have b1 : Below (w.alloc A).heap.size (w.alloc A) ((w.alloc A).alloc B) := below_alloc _ _
  refine ⟨fun o => (h.cell (p := ⟨w.heap.size, o, none⟩) (by simp; omega)).trans (b1.cell (p := ⟨w.heap.size, o, none⟩) (by simp)), fun o => (h.frozen (p := ⟨w.heap.size, o, none⟩) (by simp; omega)).trans (b1.frozen (p := ⟨w.heap.size, o, none⟩) (by simp)), fun o => h.cell (p := ⟨w.heap.size + 1, o, none⟩) (by simp), fun o => h.frozen (p := ⟨w.heap.size + 1, o, none⟩) (by simp)⟩

set_option maxRecDepth 100000 in
set_option maxHeartbeats 1000000 in
theorem copyOf_any (bp : Option Addr) (gp op cp : Nat) (r : RetD) (w : World) (h : PairsAt w bp gp op r.pairs) (hnil : bp = none → r.pairs.length = 0 ∧ cp = 0) (hbig : r.pairs.length * 16 ≤ 140737488355328) :
    Calls Tryd.prog 70 #[.agg #[.bool r.ok, .int .i64 r.key, .int .i64 r.val, .slice bp r.pairs.length cp]] w fun e w' => ∃ a g cap, e = .returned (.agg #[.bool r.ok, .int .i64 r.key, .int .i64 r.val, .slice a r.pairs.length cap]) ∧ (r.pairs.length ≠ 0 → w.heap.size ≤ g) ∧ PairsAt w' a g 0 r.pairs ∧ Below w.heap.size w w' ∧ (a = none → cap = 0) := by
  have HA : Hid _ := h
  have HN : Hid _ := hnil
  clear h hnil
  go_enter Tryd.func70, Tryd.ntmps70
  go_wp2_with fail
  refine (clone_any bp gp op cp r.pairs _ (HA.out.below ((below_alloc _ _).alloc (by simp) _)) HN.out hbig).mono ?_
  rintro e w1 ⟨v, rfl, ⟨a, g, cap, rfl, hg, hpa, hnl⟩, hb⟩
  have HNL : Hid _ := hnl
  obtain ⟨q0, q1, q2, q3⟩ := two_cells hb
  have hz : w.heap.size + 1 < w1.heap.size := by have := hb.size; simp at this; omega
  have HPA : Hid _ := hpa
  have HB : Hid _ := hb
  have HG : Hid _ := hg
  clear hpa hb hg hnl
  go_wp2_with fail
  have B1 : Below w.heap.size w w1 := ((below_alloc _ _).alloc (by simp) _).trans (HB.out.mono (by simp; omega))
  refine bodyPost_ret (v := .agg #[.bool r.ok, .int .i64 r.key, .int .i64 r.val, .slice a r.pairs.length cap]) (by simp [results, Tryd.results70, go_sem, q2]) rfl ⟨a, g, cap, rfl, fun q => by have := HG.out q; simp at this; omega, ?_, ?_, HNL.out⟩
  · by_cases hn : r.pairs.length = 0
    · exact ⟨fun q => absurd hn q, fun q => absurd hn q, fun i hi => by omega, HPA.out.len, fun i hi => by omega⟩
    · have hg2 : w.heap.size + 2 ≤ g := by have := HG.out hn; simp at this; omega
      repeat (refine PairsAt.apart' ?_ (by omega))
      exact HPA.out
  · repeat (refine Below.setCell ?_ (by simp) _)
    exact B1
end Go.Proofs.YtcphajjonecmbaaDoor
