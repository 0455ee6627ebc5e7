
/- Layer 5: the reference's CopyEvents as a row that can be written. -/

import Derived.Test.YtgbfippcnmpgfaaEOf

namespace Go.Proofs.Ytgbfippcnmpgfaa

open Go.RowKit Go.Deep

attribute [local go_sem ↓] Go.wp_at_zero Go.wp_at_succ

set_option maxRecDepth 100000 in
set_option maxHeartbeats 2000000 in
theorem copyEvents_row (base : Option Addr) (b o c : Nat) (hs : List EvD) (pb : Nat → Option Addr) (pc pg po : Nat → Nat) (w : World) (h : EvsAt w base b o hs pb pc pg po) (hby : hs.length * 96 ≤ 140737488355328) :
    Calls Try.prog 5 #[.slice base hs.length c] w fun e w' => ∃ v m, e = .returned v ∧ Below w.heap.size w w' ∧ m.map (·.1) = hs ∧ w'.ownsRow w.heap.size 55 10 v m.length (evsC m) ∧ ERets w' w.heap.size v.ownBlock m := by
  have HA : Hid _ := h
  have lx := h.len
  unfold maxLen at lx
  clear h
  obtain ⟨i0, hi0, hz0, hz1, hz2⟩ := info_parts ev_info
  go_enter Try.func5, Try.ntmps5
  go_wp2_with fail
  go_loopw [3, 4] (fun v i wr => ∃ (j : Nat) (m : List (EvD × Value)), j ≤ hs.length ∧ i = .int .i64 j ∧ Below w.heap.size w wr ∧ m.map (·.1) = hs.take j ∧ wr.ownsRow w.heap.size 55 10 v m.length (evsC m) ∧ ERets wr w.heap.size v.ownBlock m) (fun _ i _ => hs.length - (intOf i).toNat)
  case atStart => exact ⟨0, [], Nat.zero_le _, rfl, Below.refl _ _, by simp, World.ownsRow_nil _ _ _ _, fun x hx => by cases hx⟩
  case round =>
    obtain ⟨j, m, hj, rfl, hbw, hmap, hown, hrets⟩ := hrel
    obtain ⟨oa, oc, rfl⟩ := owns_form hown
    have HW : Hid _ := hbw
    have HM : Hid _ := hmap
    have HO : Hid (World.ownsRow _ _ _ _ _ _ _) := hown
    have HR : Hid (ERets _ _ _ _) := hrets
    have HOL : Hid _ := owns_lt hown
    by_cases hlt : j < hs.length
    · obtain rfl : base = some ⟨b, o, none⟩ := HA.out.base (by omega)
      have EV := HA.out.below hbw
      have zx : b < wr.heap.size := EV.lt (by omega)
      obtain ⟨d0, d1⟩ := EV.c0 j hlt
      obtain ⟨d2, d3, d4, d5⟩ := EV.c1 j hlt
      obtain ⟨d6, d7, d8, d9⟩ := EV.c2 j hlt
      have j0 : (0 : Int) ≤ (j : Int) := Int.natCast_nonneg _
      have j1 : (j : Int) < (hs.length : Int) := by omega
      have PX : Hid _ := EV.prs j hlt
      have zw := hbw.size
      have hml : m.length ≤ j := by have := congrArg List.length hmap; rw [List.length_map] at this; simp at this; omega
      clear EV hbw hmap hown hrets
      go_wp2_with fail
      refine (copyRet_any (pb j) (pg j) (po j) (pc j) (evAt hs j).rt _ (PX.out.1.below (below_alloc _ _)) PX.out.2.1 PX.out.2.2).mono ?_
      rintro e w2 ⟨g2, c2, rfl, hg2, hgl2, hpa2, hb2⟩
      have z2 := hb2.size
      have hbx : Below wr.heap.size wr w2 := (below_alloc wr _).trans (hb2.mono (by simp))
      have hc2 : ∀ k, k < 10 → w2.cell? ⟨wr.heap.size, k, none⟩ = some ((evC (evAt hs j) (.slice (pb j) (evAt hs j).rt.pairs.length (pc j))).getD k (.bool false)) := by
        intro k hk
        refine (hb2.cell (p := ⟨wr.heap.size, k, none⟩) (by simp)).trans ((cell_new wr _ _ k).trans ?_)
        match k, hk with
        | 0, _ => rfl
        | 1, _ => rfl
        | 2, _ => rfl
        | 3, _ => rfl
        | 4, _ => rfl
        | 5, _ => rfl
        | 6, _ => rfl
        | 7, _ => rfl
        | 8, _ => rfl
        | 9, _ => rfl
      have hf2 : ∀ k, w2.frozen? ⟨wr.heap.size, k, none⟩ = false := fun k => (hb2.frozen (p := ⟨wr.heap.size, k, none⟩) (by simp)).trans (frozen_new wr _ _ k)
      have e6 := hc2 6 (by omega)
      have e7 := hc2 7 (by omega)
      have e8 := hc2 8 (by omega)
      have e9 := hc2 9 (by omega)
      have f6 := hf2 6
      have f7 := hf2 7
      have f8 := hf2 8
      have f9 := hf2 9
      have HC2 : Hid _ := hc2
      have HX2 : Hid _ := hbx
      have HP2 : Hid _ := hpa2
      have HG2 : Hid _ := hg2
      have zz : wr.heap.size < w2.heap.size := by simp at z2; omega
      clear hb2 hc2 hf2 hbx hpa2 hg2 d0 d1 d2 d3 d4 d5 d6 d7 d8 d9
      go_upto_region 7 with fail
      obtain ⟨W3, hW3⟩ : ∃ W3, W3 = (((w2.setCell ⟨wr.heap.size, 6, none⟩ (.bool (evAt hs j).rt.ok)).setCell ⟨wr.heap.size, 7, none⟩ (.int .i64 (evAt hs j).rt.key)).setCell ⟨wr.heap.size, 8, none⟩ (.int .i64 (evAt hs j).rt.val)).setCell ⟨wr.heap.size, 9, none⟩ (.slice (some ⟨g2, 0, none⟩) (evAt hs j).rt.pairs.length c2) := ⟨_, rfl⟩
      rw [← hW3]
      obtain ⟨o3, r3, b3, z3⟩ := four_set rfl HO.out HR.out HX2.out hW3
      obtain ⟨k05, k6, k7, k8, k9⟩ := cells_four HC2.out hW3
      have k0 := k05 0 (by omega)
      have k1 := k05 1 (by omega)
      have k2 := k05 2 (by omega)
      have k3 := k05 3 (by omega)
      have k4 := k05 4 (by omega)
      have k5 := k05 5 (by omega)
      simp only [evC, List.getD_cons_zero, List.getD_cons_succ] at k0 k1 k2 k3 k4 k5
      have P3 : PairsAt W3 (some ⟨g2, 0, none⟩) g2 0 (evAt hs j).rt.pairs := pairs_four HP2.out (fun q => by have := HG2.out; simp at this; omega) hW3
      have R3 : Hid (ERets W3 w.heap.size _ m) := r3
      have E3 : Hid (ERet W3 w.heap.size (Value.ownBlock (.slice oa m.length oc)) (evAt hs j) (.slice (some ⟨g2, 0, none⟩) (evAt hs j).rt.pairs.length c2)) := ⟨_, g2, 0, c2, rfl, fun q => ⟨by have := HG2.out; simp at this; omega, fun r => by have h1 := (HOL.out _ r).2; have h2 := HG2.out; simp at h2; omega⟩, P3, (fun z => by cases z), PX.out.2.2⟩
      have B3 : Hid (Below w.heap.size w W3) := HW.out.trans (b3.mono HW.out.size)
      have O3 : Hid (World.ownsRow _ _ _ _ _ _ _) := o3
      have zz3 : wr.heap.size < W3.heap.size := by omega
      clear hW3 k05 o3 r3 b3 z3 P3 e6 e7 e8 e9 f6 f7 f8 f9
      go_wp2_with (first | (at_builtin; (refine wpList_append_lies _ (by rfl) _ _ _ (by rfl) w.heap.size 55 i0 _ 10 96 evs_under hi0 hz0 hz1 hz2 rfl (by omega) _ m.length _ (by rfl) (O3.out.alloc _) ⟨W3.heap.size, 0, none⟩ 1 1 [.int .i64 (evAt hs j).th, .bool (evAt hs j).ret, .int .i64 (evAt hs j).op.kind, .int .i64 (evAt hs j).op.key, .int .i64 (evAt hs j).op.val, .int .i64 (evAt hs j).op.hi, .bool (evAt hs j).rt.ok, .int .i64 (evAt hs j).rt.key, .int .i64 (evAt hs j).rt.val, .slice (some ⟨g2, 0, none⟩) (evAt hs j).rt.pairs.length c2] (by rfl) (by rfl) (World.news_of_block (cs := #[.int .i64 (evAt hs j).th, .bool (evAt hs j).ret, .int .i64 (evAt hs j).op.kind, .int .i64 (evAt hs j).op.key, .int .i64 (evAt hs j).op.val, .int .i64 (evAt hs j).op.hi, .bool (evAt hs j).rt.ok, .int .i64 (evAt hs j).rt.key, .int .i64 (evAt hs j).rt.val, .slice (some ⟨g2, 0, none⟩) (evAt hs j).rt.pairs.length c2]) (t := 55) (fr := (0, 0)) (heap_alloc_at _ _ _ (by simp))) (by simp [Value.oneCell']) (by omega) (by unfold maxLen; omega) (by omega) (by simp; omega) (W3.heap.size + 1) (by simp) ?_); intro gg cap w3 hown3 hgrow hat hlt3))
      have HG : Hid (World.grownBy _ _ _) := hgrow
      have HAT : Hid _ := hat
      have HO3 : Hid (World.ownsRow _ _ _ _ _ _ _) := hown3
      clear hgrow hat hown3
      go_wp2_with fail
      refine ⟨⟨j + 1, m ++ [(evAt hs j, .slice (some ⟨g2, 0, none⟩) (evAt hs j).rt.pairs.length c2)], by omega, by go_num, Below.grown (B3.out.alloc B3.out.size _) HG.out (by have := B3.out.size; simp; omega) (fun k hk => (HOL.out k hk).1), ?_, ?_, rows_snoc R3.out E3.out HG.out HAT.out⟩, by simp [intOf]; omega⟩
      · rw [List.map_append, HM.out]; exact (take_snoc_ev hlt).symm
      · rw [evsC_snoc, List.length_append]; exact HO3.out
    · obtain rfl : j = hs.length := by omega
      clear hbw hmap hown hrets
      go_wp2_with fail
      go_ret
      exact ⟨_, m, rfl, HW.out, by rw [HM.out, List.take_length], HO.out, HR.out⟩
end Go.Proofs.Ytgbfippcnmpgfaa
