
/- Layer 17: copies; Heavy of the reference. -/

import Derived.Test.YtiencggnijfjoaaWKey2

import Derived.Test.YtiencggnijfjoaaWEq

import Derived.Test.YtiencggnijfjoaaWFixed

namespace Go.Proofs.Ytiencggnijfjoaa

open Go.RowKit

attribute [local go_sem ↓] Go.wp_at_zero Go.wp_at_succ

set_option maxRecDepth 100000 in
theorem copied_any (ba : Option Addr) (ga oa ca : Nat) (t : NL) (w : World) (h : NodesAt w ba ga oa t) (hnil : ba = none → t.length = 0 ∧ ca = 0) (hby : t.length * 48 ≤ 140737488355328) :
    Calls Try.prog 10 #[.slice ba t.length ca] w fun e w' => ∃ v, e = .returned v ∧ w'.ownsRow w.heap.size 54 6 v t.length (ndCells t) ∧ Below w.heap.size w w' := by
  have HA : Hid (NodesAt _ _ _ _ _) := h
  have HN : Hid (ba = none → t.length = 0 ∧ ca = 0) := hnil
  clear h hnil
  obtain ⟨i0, hi0, hz0, hz1, hz2⟩ := info_parts nd_info'
  go_enter Try.func10, Try.ntmps10
  go_wp2_with (first | (at_builtin; (refine wpList_append_all (by rfl) _ _ _ (by rfl) w.heap.size 54 i0 _ 6 48 nds_under' hi0 hz0 hz1 hz2 rfl (by omega) _ 0 [] (by rfl) ⟨rfl, Or.inr ⟨w.heap.size, 0, #[], rfl, Nat.le_refl _, heap_alloc_at _ _ _ rfl, Nat.le_refl _, (by unfold maxLen; omega), rfl, rfl⟩⟩ ba t.length ca (ndCells t) (by rfl) HN.out (ndCells_length _) (nodes_news (HA.out.below (below_alloc _ _))) (ndCells_all _) (by unfold maxLen; omega) (by omega) (by simp) ?_); intro v2 w2 ho2 hgrow hnl; rw [Nat.zero_add, List.nil_append] at ho2; have O2 : Hid (World.ownsRow _ _ _ _ _ _ _) := ho2; have B2 : Hid (Below w.heap.size w w2) := Below.grown (below_alloc _ _) hgrow (by simp) (by intro k hk; simp [Value.ownBlock] at hk; omega); clear hgrow hnl ho2))
  go_ret
  exact ⟨_, rfl, O2.out, B2.out⟩
theorem ws_news {w : World} {base : Option Addr} {g o : Nat} {L : List Int} (h : WsAt w base g o L) : ∀ ad, base = some ad → ∀ j u, (isC L)[j]? = some u → w.cell? (ad.add j) = some u := by
  intro ad e j u hu
  have hj : j < L.length := by
    have := (List.getElem?_eq_some_iff.1 hu).1
    rwa [isC_length] at this
  have hb := h.base (by omega)
  rw [hb] at e
  injection e with e
  subst e
  rw [isC_get L j hj] at hu
  injection hu with hu
  rw [← hu, show (⟨g, o, none⟩ : Addr).add j = ⟨g, o + j, none⟩ by simp [Addr.add]]
  exact h.cells j hj
theorem isC_all (L : List Int) : ∀ u ∈ isC L, u.oneCell' = true := by
  intro u hu
  simp [isC] at hu
  obtain ⟨x, _, rfl⟩ := hu
  rfl
set_option maxRecDepth 100000 in
theorem wints_any (ba : Option Addr) (ga oa ca : Nat) (L : List Int) (w : World) (h : WsAt w ba ga oa L) (hnil : ba = none → L.length = 0 ∧ ca = 0) (hby : L.length * 8 ≤ 140737488355328) :
    Calls Try.prog 36 #[.slice ba L.length ca] w fun e w' => ∃ v, e = .returned v ∧ w'.ownsRow w.heap.size 3 1 v L.length (isC L) ∧ Below w.heap.size w w' := by
  have HA : Hid (WsAt _ _ _ _ _) := h
  have HN : Hid (ba = none → L.length = 0 ∧ ca = 0) := hnil
  clear h hnil
  obtain ⟨i0, hi0, hz0, hz1, hz2⟩ := info_parts in_info
  go_enter Try.func36, Try.ntmps36
  go_wp2_with (first | (at_builtin; (refine wpList_append_all (by rfl) _ _ _ (by rfl) w.heap.size 3 i0 _ 1 8 ins_under hi0 hz0 hz1 hz2 rfl (by omega) _ 0 [] (by rfl) ⟨rfl, Or.inr ⟨w.heap.size, 0, #[], rfl, Nat.le_refl _, heap_alloc_at _ _ _ rfl, Nat.le_refl _, (by unfold maxLen; omega), rfl, rfl⟩⟩ ba L.length ca (isC L) (by rfl) HN.out (by rw [isC_length]; omega) (ws_news (HA.out.below (below_alloc _ _))) (isC_all _) (by unfold maxLen; omega) (by omega) (by simp) ?_); intro v2 w2 ho2 hgrow hnl; rw [Nat.zero_add, List.nil_append] at ho2; have O2 : Hid (World.ownsRow _ _ _ _ _ _ _) := ho2; have B2 : Hid (Below w.heap.size w w2) := Below.grown (below_alloc _ _) hgrow (by simp) (by intro k hk; simp [Value.ownBlock] at hk; omega); clear hgrow hnl ho2))
  go_ret
  exact ⟨_, rfl, O2.out, B2.out⟩
end Go.Proofs.Ytiencggnijfjoaa
