
/- Layer 5: the program's Of; the reference's CopyEvents and Of. -/

import Derived.Test.YtgbfippcnmpgfaaEPartM

import Derived.Deep.CutRange

namespace Go.Proofs.Ytgbfippcnmpgfaa

open Go.RowKit

attribute [local go_sem ↓] Go.wp_at_zero Go.wp_at_succ

theorem frozen_new (w : World) (cs : Array Value) (T : TypeId) (k : Nat) : (w.alloc (.cells cs T)).frozen? ⟨w.heap.size, k, none⟩ = false := by
  simp only [World.frozen?, heap_alloc_at w (.cells cs T) w.heap.size rfl]
  simp
theorem owns_other {w : World} {B sz : Nat} {e : TypeId} {v : Value} {n : Nat} {xs : List Value} (h : w.ownsRow B e sz v n xs) (b j : Nat) (u : Value) (hb : v.ownBlock ≠ some b) : (w.setCell ⟨b, j, none⟩ u).ownsRow B e sz v n xs := by
  obtain ⟨h0, h⟩ := h
  rcases h with h | ⟨g, cap, cur, rfl, hg, hh, h1, h2, h3, h4⟩
  · exact ⟨h0, Or.inl h⟩
  · refine ⟨h0, Or.inr ⟨g, cap, cur, rfl, hg, ?_, h1, h2, h3, h4⟩⟩
    have hne : b ≠ g := fun e => hb (by simp [Value.ownBlock, e])
    simp [World.setCell, Array.getElem?_modify, hne, hh]
theorem ERet.set {w : World} {B : Nat} {row : Option Nat} {e : EvD} {v : Value} (h : ERet w B row e v) {b j : Nat} {u : Value} (hb : ∀ a g o cap, v = .slice a e.rt.pairs.length cap → PairsAt w a g o e.rt.pairs → e.rt.pairs.length ≠ 0 → g ≠ b) : ERet (w.setCell ⟨b, j, none⟩ u) B row e v := by
  obtain ⟨a, g, o, cap, e1, h1, h2, h3⟩ := h
  exact ⟨a, g, o, cap, e1, h1, pairs_set_any h2 (hb a g o cap e1 h2), h3⟩
theorem pairs_set_new {w : World} {a : Option Addr} {g o : Nat} {ps : PL} (h : PairsAt w a g o ps) {b j : Nat} {u : Value} (hb : w.heap.size ≤ b) : PairsAt (w.setCell ⟨b, j, none⟩ u) a g o ps :=
  pairs_set_any h (fun hn => by have := h.lt hn; omega)
/-- What is held of the worlds between an event's copy and its append: four cells of a block that isn't the row's are written. -/
theorem four_set {wr w2 : World} {n B : Nat} {T : TypeId} {row : Value} {m : List (EvD × Value)} {u6 u7 u8 u9 : Value} (hn : n = wr.heap.size) (ho : wr.ownsRow B T 10 row m.length (evsC m)) (hr : ERets wr B row.ownBlock m) (hb : Below wr.heap.size wr w2) {W3 : World} (hW : W3 = (((w2.setCell ⟨n, 6, none⟩ u6).setCell ⟨n, 7, none⟩ u7).setCell ⟨n, 8, none⟩ u8).setCell ⟨n, 9, none⟩ u9) :
    W3.ownsRow B T 10 row m.length (evsC m) ∧ ERets W3 B row.ownBlock m ∧ Below wr.heap.size wr W3 ∧ W3.heap.size = w2.heap.size := by
  have hne : row.ownBlock ≠ some n := fun q => by have := (owns_lt ho n q).2; omega
  subst hW
  refine ⟨owns_other (owns_other (owns_other (owns_other (owns_below ho hb) _ _ _ hne) _ _ _ hne) _ _ _ hne) _ _ _ hne, ?_, ?_, by simp⟩
  · intro x hx
    obtain ⟨a, g, o, cap, e1, h1, h2, h3⟩ := hr x hx
    have hg : x.1.rt.pairs.length ≠ 0 → g ≠ n := fun q => by have := h2.lt q; omega
    exact ⟨a, g, o, cap, e1, h1, pairs_set_any (pairs_set_any (pairs_set_any (pairs_set_any (h2.below hb) hg) hg) hg) hg, h3⟩
  · exact (((hb.setCell (by simp [hn]) _).setCell (by simp [hn]) _).setCell (by simp [hn]) _).setCell (by simp [hn]) _
theorem pairs_four {w2 : World} {n : Nat} {a : Option Addr} {g : Nat} {ps : PL} {u6 u7 u8 u9 : Value} (h : PairsAt w2 a g 0 ps) (hg : ps.length ≠ 0 → g ≠ n) {W3 : World} (hW : W3 = (((w2.setCell ⟨n, 6, none⟩ u6).setCell ⟨n, 7, none⟩ u7).setCell ⟨n, 8, none⟩ u8).setCell ⟨n, 9, none⟩ u9) : PairsAt W3 a g 0 ps := by
  subst hW
  exact pairs_set_any (pairs_set_any (pairs_set_any (pairs_set_any h hg) hg) hg) hg
theorem cells_four {w2 : World} {n : Nat} {f : Nat → Value} {u6 u7 u8 u9 : Value} (h : ∀ k, k < 10 → w2.cell? ⟨n, k, none⟩ = some (f k)) {W3 : World} (hW : W3 = (((w2.setCell ⟨n, 6, none⟩ u6).setCell ⟨n, 7, none⟩ u7).setCell ⟨n, 8, none⟩ u8).setCell ⟨n, 9, none⟩ u9) :
    (∀ k, k < 6 → W3.cell? ⟨n, k, none⟩ = some (f k)) ∧ W3.cell? ⟨n, 6, none⟩ = some u6 ∧ W3.cell? ⟨n, 7, none⟩ = some u7 ∧ W3.cell? ⟨n, 8, none⟩ = some u8 ∧ W3.cell? ⟨n, 9, none⟩ = some u9 := by
  subst hW
  have ne : ∀ a b : Nat, a ≠ b → (⟨n, a, none⟩ : Addr) ≠ ⟨n, b, none⟩ := fun a b h q => h (congrArg Addr.off q)
  have some_of : ∀ k, k < 10 → (w2.cell? ⟨n, k, none⟩).isSome = true := fun k hk => by rw [h k hk]; rfl
  refine ⟨fun k hk => ?_, ?_, ?_, ?_, ?_⟩
  · rw [World.cell?_setCell_other _ _ _ _ (ne _ _ (by omega)), World.cell?_setCell_other _ _ _ _ (ne _ _ (by omega)), World.cell?_setCell_other _ _ _ _ (ne _ _ (by omega)), World.cell?_setCell_other _ _ _ _ (ne _ _ (by omega)), h k (by omega)]
  · rw [World.cell?_setCell_other _ _ _ _ (ne _ _ (by omega)), World.cell?_setCell_other _ _ _ _ (ne _ _ (by omega)), World.cell?_setCell_other _ _ _ _ (ne _ _ (by omega))]
    exact World.cell?_setCell_same _ _ _ (by rw [h 6 (by omega)])
  · rw [World.cell?_setCell_other _ _ _ _ (ne _ _ (by omega)), World.cell?_setCell_other _ _ _ _ (ne _ _ (by omega))]
    exact World.cell?_setCell_same _ _ _ (by rw [World.cell?_setCell_other _ _ _ _ (ne _ _ (by omega)), h 7 (by omega)])
  · rw [World.cell?_setCell_other _ _ _ _ (ne _ _ (by omega))]
    exact World.cell?_setCell_same _ _ _ (by rw [World.cell?_setCell_other _ _ _ _ (ne _ _ (by omega)), World.cell?_setCell_other _ _ _ _ (ne _ _ (by omega)), h 8 (by omega)])
  · exact World.cell?_setCell_same _ _ _ (by rw [World.cell?_setCell_other _ _ _ _ (ne _ _ (by omega)), World.cell?_setCell_other _ _ _ _ (ne _ _ (by omega)), World.cell?_setCell_other _ _ _ _ (ne _ _ (by omega)), h 9 (by omega)])
theorem take_snoc_ev {hs : List EvD} {j : Nat} (h : j < hs.length) : hs.take (j + 1) = hs.take j ++ [evAt hs j] := by
  rw [List.take_succ_eq_append_getElem h]
  congr 1
  unfold evAt
  rw [List.getD_eq_getElem?_getD, List.getElem?_eq_getElem h]
  rfl
/-- A row of events, one more behind. -/
theorem rows_snoc {w2 w3 : World} {B gg : Nat} {o : Obj} {row : Value} {m : List (EvD × Value)} {e : EvD} {v : Value} (hr : ERets w2 B row.ownBlock m) (hv : ERet w2 B row.ownBlock e v) (hg : (w2.alloc o).grownBy w3 row.ownBlock) (hat : row.ownBlock = some gg ∨ gg = w2.heap.size + 1) : ERets w3 B (some gg) (m ++ [(e, v)]) := by
  have h2 : ERets w2 B row.ownBlock (m ++ [(e, v)]) := by
    intro x hx
    rcases List.mem_append.1 hx with q | q
    · exact hr x q
    · rw [List.mem_singleton] at q; subst q; exact hv
  refine (h2.below (below_alloc w2 o)).grown hg ?_
  intro g q
  cases q
  rcases hat with r | r
  · exact Or.inl r
  · right; simp; omega
theorem evsC_snoc (m : List (EvD × Value)) (e : EvD) (v : Value) : evsC (m ++ [(e, v)]) = evsC m ++ evC e v := by rw [evsC_append]; simp [evsC]

set_option maxRecDepth 100000 in
set_option maxHeartbeats 2000000 in
theorem copyEvents_any (base : Option Addr) (b o c : Nat) (hs : List EvD) (pb : Nat → Option Addr) (pc pg po : Nat → Nat) (w : World) (h : EvsAt w base b o hs pb pc pg po) (hby : hs.length * 96 ≤ 140737488355328) :
    Calls Try.prog 5 #[.slice base hs.length c] w fun e w' => ∃ v, e = .returned v ∧ Below w.heap.size w w' ∧ EvsNew w' w.heap.size w.heap.size v hs := by
  have HA : Hid _ := h
  have lx := h.len
  unfold maxLen at lx
  clear h
  obtain ⟨i0, hi0, hz0, hz1, hz2⟩ := info_parts ev_info
  go_enter Try.func5, Try.ntmps5
  go_wp2_with fail
  go_loopw [3, 4] (fun v i wr => ∃ (j : Nat) (m : List (EvD × Value)), j ≤ hs.length ∧ i = .int .i64 j ∧ Below w.heap.size w wr ∧ m.map (·.1) = hs.take j ∧ wr.ownsRow w.heap.size 55 10 v m.length (evsC m) ∧ ERets wr w.heap.size v.ownBlock m) (fun _ i _ => hs.length - (intOf i).toNat)
  case atStart => exact ⟨0, [], Nat.zero_le _, rfl, Below.refl _ _, by simp, World.ownsRow_nil _ _ _ _, fun x hx => by cases hx⟩
  case round =>
    obtain ⟨j, m, hj, rfl, hbw, hmap, hown, hrets⟩ := hrel
    obtain ⟨oa, oc, rfl⟩ := owns_form hown
    have HW : Hid _ := hbw
    have HM : Hid _ := hmap
    have HO : Hid (World.ownsRow _ _ _ _ _ _ _) := hown
    have HR : Hid (ERets _ _ _ _) := hrets
    have HOL : Hid _ := owns_lt hown
    by_cases hlt : j < hs.length
    · obtain rfl : base = some ⟨b, o, none⟩ := HA.out.base (by omega)
      have EV := HA.out.below hbw
      have zx : b < wr.heap.size := EV.lt (by omega)
      obtain ⟨d0, d1⟩ := EV.c0 j hlt
      obtain ⟨d2, d3, d4, d5⟩ := EV.c1 j hlt
      obtain ⟨d6, d7, d8, d9⟩ := EV.c2 j hlt
      have j0 : (0 : Int) ≤ (j : Int) := Int.natCast_nonneg _
      have j1 : (j : Int) < (hs.length : Int) := by omega
      have PX : Hid _ := EV.prs j hlt
      have zw := hbw.size
      have hml : m.length ≤ j := by have := congrArg List.length hmap; rw [List.length_map] at this; simp at this; omega
      clear EV hbw hmap hown hrets
      go_wp2_with fail
      refine (copyRet_any (pb j) (pg j) (po j) (pc j) (evAt hs j).rt _ (PX.out.1.below (below_alloc _ _)) PX.out.2.1 PX.out.2.2).mono ?_
      rintro e w2 ⟨g2, c2, rfl, hg2, hgl2, hpa2, hb2⟩
      have z2 := hb2.size
      have hbx : Below wr.heap.size wr w2 := (below_alloc wr _).trans (hb2.mono (by simp))
      have hc2 : ∀ k, k < 10 → w2.cell? ⟨wr.heap.size, k, none⟩ = some ((evC (evAt hs j) (.slice (pb j) (evAt hs j).rt.pairs.length (pc j))).getD k (.bool false)) := by
        intro k hk
        refine (hb2.cell (p := ⟨wr.heap.size, k, none⟩) (by simp)).trans ((cell_new wr _ _ k).trans ?_)
        match k, hk with
        | 0, _ => rfl
        | 1, _ => rfl
        | 2, _ => rfl
        | 3, _ => rfl
        | 4, _ => rfl
        | 5, _ => rfl
        | 6, _ => rfl
        | 7, _ => rfl
        | 8, _ => rfl
        | 9, _ => rfl
      have hf2 : ∀ k, w2.frozen? ⟨wr.heap.size, k, none⟩ = false := fun k => (hb2.frozen (p := ⟨wr.heap.size, k, none⟩) (by simp)).trans (frozen_new wr _ _ k)
      have e6 := hc2 6 (by omega)
      have e7 := hc2 7 (by omega)
      have e8 := hc2 8 (by omega)
      have e9 := hc2 9 (by omega)
      have f6 := hf2 6
      have f7 := hf2 7
      have f8 := hf2 8
      have f9 := hf2 9
      have HC2 : Hid _ := hc2
      have HX2 : Hid _ := hbx
      have HP2 : Hid _ := hpa2
      have HG2 : Hid _ := hg2
      have zz : wr.heap.size < w2.heap.size := by simp at z2; omega
      clear hb2 hc2 hf2 hbx hpa2 hg2 d0 d1 d2 d3 d4 d5 d6 d7 d8 d9
      go_upto_region 7 with fail
      obtain ⟨W3, hW3⟩ : ∃ W3, W3 = (((w2.setCell ⟨wr.heap.size, 6, none⟩ (.bool (evAt hs j).rt.ok)).setCell ⟨wr.heap.size, 7, none⟩ (.int .i64 (evAt hs j).rt.key)).setCell ⟨wr.heap.size, 8, none⟩ (.int .i64 (evAt hs j).rt.val)).setCell ⟨wr.heap.size, 9, none⟩ (.slice (some ⟨g2, 0, none⟩) (evAt hs j).rt.pairs.length c2) := ⟨_, rfl⟩
      rw [← hW3]
      obtain ⟨o3, r3, b3, z3⟩ := four_set rfl HO.out HR.out HX2.out hW3
      obtain ⟨k05, k6, k7, k8, k9⟩ := cells_four HC2.out hW3
      have k0 := k05 0 (by omega)
      have k1 := k05 1 (by omega)
      have k2 := k05 2 (by omega)
      have k3 := k05 3 (by omega)
      have k4 := k05 4 (by omega)
      have k5 := k05 5 (by omega)
      simp only [evC, List.getD_cons_zero, List.getD_cons_succ] at k0 k1 k2 k3 k4 k5
      have P3 : PairsAt W3 (some ⟨g2, 0, none⟩) g2 0 (evAt hs j).rt.pairs := pairs_four HP2.out (fun q => by have := HG2.out; simp at this; omega) hW3
      have R3 : Hid (ERets W3 w.heap.size _ m) := r3
      have E3 : Hid (ERet W3 w.heap.size (Value.ownBlock (.slice oa m.length oc)) (evAt hs j) (.slice (some ⟨g2, 0, none⟩) (evAt hs j).rt.pairs.length c2)) := ⟨_, g2, 0, c2, rfl, fun q => ⟨by have := HG2.out; simp at this; omega, fun r => by have h1 := (HOL.out _ r).2; have h2 := HG2.out; simp at h2; omega⟩, P3, (fun z => by cases z), PX.out.2.2⟩
      have B3 : Hid (Below w.heap.size w W3) := HW.out.trans (b3.mono HW.out.size)
      have O3 : Hid (World.ownsRow _ _ _ _ _ _ _) := o3
      have zz3 : wr.heap.size < W3.heap.size := by omega
      clear hW3 k05 o3 r3 b3 z3 P3 e6 e7 e8 e9 f6 f7 f8 f9
      go_wp2_with (first | (at_builtin; (refine wpList_append_lies _ (by rfl) _ _ _ (by rfl) w.heap.size 55 i0 _ 10 96 evs_under hi0 hz0 hz1 hz2 rfl (by omega) _ m.length _ (by rfl) (O3.out.alloc _) ⟨W3.heap.size, 0, none⟩ 1 1 [.int .i64 (evAt hs j).th, .bool (evAt hs j).ret, .int .i64 (evAt hs j).op.kind, .int .i64 (evAt hs j).op.key, .int .i64 (evAt hs j).op.val, .int .i64 (evAt hs j).op.hi, .bool (evAt hs j).rt.ok, .int .i64 (evAt hs j).rt.key, .int .i64 (evAt hs j).rt.val, .slice (some ⟨g2, 0, none⟩) (evAt hs j).rt.pairs.length c2] (by rfl) (by rfl) (World.news_of_block (cs := #[.int .i64 (evAt hs j).th, .bool (evAt hs j).ret, .int .i64 (evAt hs j).op.kind, .int .i64 (evAt hs j).op.key, .int .i64 (evAt hs j).op.val, .int .i64 (evAt hs j).op.hi, .bool (evAt hs j).rt.ok, .int .i64 (evAt hs j).rt.key, .int .i64 (evAt hs j).rt.val, .slice (some ⟨g2, 0, none⟩) (evAt hs j).rt.pairs.length c2]) (t := 55) (fr := (0, 0)) (heap_alloc_at _ _ _ (by simp))) (by simp [Value.oneCell']) (by omega) (by unfold maxLen; omega) (by omega) (by simp; omega) (W3.heap.size + 1) (by simp) ?_); intro gg cap w3 hown3 hgrow hat hlt3))
      have HG : Hid (World.grownBy _ _ _) := hgrow
      have HAT : Hid _ := hat
      have HO3 : Hid (World.ownsRow _ _ _ _ _ _ _) := hown3
      clear hgrow hat hown3
      go_wp2_with fail
      refine ⟨⟨j + 1, m ++ [(evAt hs j, .slice (some ⟨g2, 0, none⟩) (evAt hs j).rt.pairs.length c2)], by omega, by go_num, Below.grown (B3.out.alloc B3.out.size _) HG.out (by have := B3.out.size; simp; omega) (fun k hk => (HOL.out k hk).1), ?_, ?_, rows_snoc R3.out E3.out HG.out HAT.out⟩, by simp [intOf]; omega⟩
      · rw [List.map_append, HM.out]; exact (take_snoc_ev hlt).symm
      · rw [evsC_snoc, List.length_append]; exact HO3.out
    · obtain rfl : j = hs.length := by omega
      clear hbw hmap hown hrets
      go_wp2_with fail
      go_ret
      exact ⟨_, rfl, HW.out, own_evs (by rw [HM.out, List.take_length]) HO.out HR.out⟩

set_option maxRecDepth 100000 in
set_option maxHeartbeats 2000000 in
theorem Of_any (base : Option Addr) (b o c : Nat) (hs : List EvD) (pb : Nat → Option Addr) (pc pg po : Nat → Nat) (w : World) (h : EvsAt w base b o hs pb pc pg po) (t : Int) :
    Calls Try.prog 9 #[.slice base hs.length c, .int .i64 t] w fun e w' => ∃ v, e = .returned (.tuple #[v, .int .i64 (hErr hs)]) ∧ Below w.heap.size w w' ∧ (hErr hs ≠ 0 → v = .slice none 0 0) ∧ (hErr hs = 0 → EvsNew w' w.heap.size w.heap.size v (thN hs t hs.length)) := by
  have HA : Hid _ := h
  clear h
  by_cases he : hErr hs = 0
  · have hn : (hErr hs != 0) = false := by simp [he]
    have hbn := (hErr_zero he).1
    have HE : Hid _ := he
    clear he
    obtain ⟨i0, hi0, hz0, hz1, hz2⟩ := info_parts ev_info
    go_enter Try.func9, Try.ntmps9
    go_wp2_with fail
    refine (check_any base b o c hs pb pc pg po _ HA.out).mono ?_
    rintro e w1 ⟨rfl, hb1⟩
    have B1 : Hid _ := hb1
    clear hb1
    go_wp2_with fail
    go_loopw [7, 17] (fun v i wr => ∃ (j : Nat) (m : List (EvD × Value)), j ≤ hs.length ∧ i = .int .i64 j ∧ Below w.heap.size w wr ∧ m.map (·.1) = thN hs t j ∧ wr.ownsRow w.heap.size 55 10 v m.length (evsC m) ∧ ERets wr w.heap.size v.ownBlock m) (fun _ i _ => hs.length - (intOf i).toNat)
    case atStart => exact ⟨0, [], Nat.zero_le _, rfl, B1.out, by simp [thN], World.ownsRow_nil _ _ _ _, fun x hx => by cases hx⟩
    case round =>
      obtain ⟨j, m, hj, rfl, hbw, hmap, hown, hrets⟩ := hrel
      obtain ⟨oa, oc, rfl⟩ := owns_form hown
      have HW : Hid _ := hbw
      have HM : Hid _ := hmap
      have HO : Hid (World.ownsRow _ _ _ _ _ _ _) := hown
      have HR : Hid (ERets _ _ _ _) := hrets
      have HOL : Hid _ := owns_lt hown
      by_cases hlt : j < hs.length
      · obtain rfl : base = some ⟨b, o, none⟩ := HA.out.base (by omega)
        have EV := HA.out.below hbw
        have zx : b < wr.heap.size := EV.lt (by omega)
        obtain ⟨d0, d1⟩ := EV.c0 j hlt
        obtain ⟨d2, d3, d4, d5⟩ := EV.c1 j hlt
        obtain ⟨d6, d7, d8, d9⟩ := EV.c2 j hlt
        have j0 : (0 : Int) ≤ (j : Int) := Int.natCast_nonneg _
        have j1 : (j : Int) < (hs.length : Int) := by omega
        have PX : Hid _ := EV.prs j hlt
        have zw := hbw.size
        have hml : m.length ≤ j := by have := congrArg List.length hmap; rw [List.length_map] at this; rw [this]; exact thN_le hs t j
        clear EV hbw hmap hown hrets
        by_cases ht : (evAt hs j).th = t
        · have hq : ((evAt hs j).th == t) = true := by simp [ht]
          have HN : Hid (thN hs t (j + 1) = thN hs t j ++ [evAt hs j]) := by show thN hs t (j + 1) = _; simp only [thN]; rw [if_pos ht]
          clear ht
          go_wp2_with fail
          refine (copyOf_any (pb j) (pg j) (po j) (pc j) (evAt hs j).rt _ (PX.out.1.below (below_alloc _ _)) PX.out.2.1 PX.out.2.2).mono ?_
          rintro e w2 ⟨a2, g2, c2, rfl, hg2, hpa2, hb2, hnl2⟩
          have z2 := hb2.size
          have hbx : Below wr.heap.size wr w2 := (below_alloc wr _).trans (hb2.mono (by simp))
          have hc2 : ∀ k, k < 10 → w2.cell? ⟨wr.heap.size, k, none⟩ = some ((evC (evAt hs j) (.slice (pb j) (evAt hs j).rt.pairs.length (pc j))).getD k (.bool false)) := by
            intro k hk
            refine (hb2.cell (p := ⟨wr.heap.size, k, none⟩) (by simp)).trans ((cell_new wr _ _ k).trans ?_)
            match k, hk with
            | 0, _ => rfl
            | 1, _ => rfl
            | 2, _ => rfl
            | 3, _ => rfl
            | 4, _ => rfl
            | 5, _ => rfl
            | 6, _ => rfl
            | 7, _ => rfl
            | 8, _ => rfl
            | 9, _ => rfl
          have hf2 : ∀ k, w2.frozen? ⟨wr.heap.size, k, none⟩ = false := fun k => (hb2.frozen (p := ⟨wr.heap.size, k, none⟩) (by simp)).trans (frozen_new wr _ _ k)
          have e6 := hc2 6 (by omega)
          have e7 := hc2 7 (by omega)
          have e8 := hc2 8 (by omega)
          have e9 := hc2 9 (by omega)
          have f6 := hf2 6
          have f7 := hf2 7
          have f8 := hf2 8
          have f9 := hf2 9
          have HC2 : Hid _ := hc2
          have HX2 : Hid _ := hbx
          have HP2 : Hid _ := hpa2
          have HG2 : Hid _ := hg2
          have HNL : Hid _ := hnl2
          clear hnl2
          have zz : wr.heap.size < w2.heap.size := by simp at z2; omega
          clear hb2 hc2 hf2 hbx hpa2 hg2 d0 d1 d2 d3 d4 d5 d6 d7 d8 d9
          go_upto_region 10 with fail
          obtain ⟨W3, hW3⟩ : ∃ W3, W3 = (((w2.setCell ⟨wr.heap.size, 6, none⟩ (.bool (evAt hs j).rt.ok)).setCell ⟨wr.heap.size, 7, none⟩ (.int .i64 (evAt hs j).rt.key)).setCell ⟨wr.heap.size, 8, none⟩ (.int .i64 (evAt hs j).rt.val)).setCell ⟨wr.heap.size, 9, none⟩ (.slice a2 (evAt hs j).rt.pairs.length c2) := ⟨_, rfl⟩
          rw [← hW3]
          obtain ⟨o3, r3, b3, z3⟩ := four_set rfl HO.out HR.out HX2.out hW3
          obtain ⟨k05, k6, k7, k8, k9⟩ := cells_four HC2.out hW3
          have k0 := k05 0 (by omega)
          have k1 := k05 1 (by omega)
          have k2 := k05 2 (by omega)
          have k3 := k05 3 (by omega)
          have k4 := k05 4 (by omega)
          have k5 := k05 5 (by omega)
          simp only [evC, List.getD_cons_zero, List.getD_cons_succ] at k0 k1 k2 k3 k4 k5
          have P3 : PairsAt W3 a2 g2 0 (evAt hs j).rt.pairs := pairs_four HP2.out (fun q => by have := HG2.out q; simp at this; omega) hW3
          have R3 : Hid (ERets W3 w.heap.size _ m) := r3
          have E3 : Hid (ERet W3 w.heap.size (Value.ownBlock (.slice oa m.length oc)) (evAt hs j) (.slice a2 (evAt hs j).rt.pairs.length c2)) := ⟨_, g2, 0, c2, rfl, fun q => ⟨by have := HG2.out q; simp at this; omega, fun r => by have h1 := (HOL.out _ r).2; have h2 := HG2.out q; simp at h2; omega⟩, P3, (fun z => ⟨Classical.byContradiction (fun n => by have := HP2.out.base n; rw [z] at this; cases this), HNL.out z⟩), PX.out.2.2⟩
          have B3 : Hid (Below w.heap.size w W3) := HW.out.trans (b3.mono HW.out.size)
          have O3 : Hid (World.ownsRow _ _ _ _ _ _ _) := o3
          have zz3 : wr.heap.size < W3.heap.size := by omega
          clear hW3 k05 o3 r3 b3 z3 P3 e6 e7 e8 e9 f6 f7 f8 f9
          go_wp2_with (first | (at_builtin; (refine wpList_append_lies _ (by rfl) _ _ _ (by rfl) w.heap.size 55 i0 _ 10 96 evs_under hi0 hz0 hz1 hz2 rfl (by omega) _ m.length _ (by rfl) (O3.out.alloc _) ⟨W3.heap.size, 0, none⟩ 1 1 [.int .i64 (evAt hs j).th, .bool (evAt hs j).ret, .int .i64 (evAt hs j).op.kind, .int .i64 (evAt hs j).op.key, .int .i64 (evAt hs j).op.val, .int .i64 (evAt hs j).op.hi, .bool (evAt hs j).rt.ok, .int .i64 (evAt hs j).rt.key, .int .i64 (evAt hs j).rt.val, .slice a2 (evAt hs j).rt.pairs.length c2] (by rfl) (by rfl) (World.news_of_block (cs := #[.int .i64 (evAt hs j).th, .bool (evAt hs j).ret, .int .i64 (evAt hs j).op.kind, .int .i64 (evAt hs j).op.key, .int .i64 (evAt hs j).op.val, .int .i64 (evAt hs j).op.hi, .bool (evAt hs j).rt.ok, .int .i64 (evAt hs j).rt.key, .int .i64 (evAt hs j).rt.val, .slice a2 (evAt hs j).rt.pairs.length c2]) (t := 55) (fr := (0, 0)) (heap_alloc_at _ _ _ (by simp))) (by simp [Value.oneCell']) (by omega) (by unfold maxLen; omega) (by omega) (by simp; omega) (W3.heap.size + 1) (by simp) ?_); intro gg cap w3 hown3 hgrow hat hlt3))
          have HG : Hid (World.grownBy _ _ _) := hgrow
          have HAT : Hid _ := hat
          have HO3 : Hid (World.ownsRow _ _ _ _ _ _ _) := hown3
          clear hgrow hat hown3
          go_wp2_with fail
          refine ⟨⟨j + 1, m ++ [(evAt hs j, .slice a2 (evAt hs j).rt.pairs.length c2)], by omega, by go_num, Below.grown (B3.out.alloc B3.out.size _) HG.out (by have := B3.out.size; simp; omega) (fun k hk => (HOL.out k hk).1), ?_, ?_, rows_snoc R3.out E3.out HG.out HAT.out⟩, by simp [intOf]; omega⟩
          · rw [List.map_append, HM.out]; exact HN.out.symm
          · rw [evsC_snoc, List.length_append]; exact HO3.out
        · have hq : ((evAt hs j).th == t) = false := by rw [beq_eq_false_iff_ne]; exact ht
          have HN : Hid (thN hs t (j + 1) = thN hs t j) := by show thN hs t (j + 1) = _; simp only [thN]; rw [if_neg ht]
          clear ht
          go_wp2_with fail
          refine ⟨⟨j + 1, m, by omega, by go_num, HW.out.alloc HW.out.size _, by rw [HN.out]; exact HM.out, HO.out.alloc _, HR.out.below (below_alloc _ _)⟩, by simp [intOf]; omega⟩
      · obtain rfl : j = hs.length := by omega
        clear hbw hmap hown hrets
        go_wp2_with fail
        go_ret2
        exact ⟨_, by rw [HE.out]; rfl, HW.out, fun q => absurd HE.out q, fun _ => own_evs HM.out HO.out HR.out⟩
  · have hn : (hErr hs != 0) = true := by simp [he]
    have HE : Hid _ := he
    clear he
    go_enter Try.func9, Try.ntmps9
    go_wp2_with fail
    refine (check_any base b o c hs pb pc pg po _ HA.out).mono ?_
    rintro e w1 ⟨rfl, hb⟩
    go_wp2_with fail
    go_ret2
    exact ⟨_, rfl, hb, fun _ => rfl, fun q => absurd q HE.out⟩

set_option maxRecDepth 100000 in
set_option maxHeartbeats 2000000 in
theorem rOf_any (base : Option Addr) (b o c : Nat) (hs : List EvD) (pb : Nat → Option Addr) (pc pg po : Nat → Nat) (w : World) (h : EvsAt w base b o hs pb pc pg po) (t : Int) :
    Calls Try.prog 15 #[.slice base hs.length c, .int .i64 t] w fun e w' => ∃ v, e = .returned (.tuple #[v, .int .i64 (hErr hs)]) ∧ Below w.heap.size w w' ∧ (hErr hs ≠ 0 → v = .slice none 0 0) ∧ (hErr hs = 0 → EvsNew w' w.heap.size w.heap.size v (thN hs t hs.length)) := by
  have HA : Hid _ := h
  clear h
  by_cases he : hErr hs = 0
  · have hn : (hErr hs != 0) = false := by simp [he]
    have hbn := (hErr_zero he).1
    have HE : Hid _ := he
    clear he
    obtain ⟨i0, hi0, hz0, hz1, hz2⟩ := info_parts ev_info
    go_enter Try.func15, Try.ntmps15
    go_wp2_with fail
    refine (rcheck_any base b o c hs pb pc pg po _ HA.out).mono ?_
    rintro e w1 ⟨rfl, hb1⟩
    have B1 : Hid _ := hb1
    clear hb1
    go_wp2_with fail
    go_loopw [7, 8] (fun v i wr => ∃ (j : Nat) (m : List (EvD × Value)), j ≤ hs.length ∧ i = .int .i64 j ∧ Below w.heap.size w wr ∧ m.map (·.1) = thN hs t j ∧ wr.ownsRow w.heap.size 55 10 v m.length (evsC m) ∧ ERets wr 0 v.ownBlock m) (fun _ i _ => hs.length - (intOf i).toNat)
    case atStart => exact ⟨0, [], Nat.zero_le _, rfl, B1.out, by simp [thN], World.ownsRow_nil _ _ _ _, fun x hx => by cases hx⟩
    case round =>
      obtain ⟨j, m, hj, rfl, hbw, hmap, hown, hrets⟩ := hrel
      obtain ⟨oa, oc, rfl⟩ := owns_form hown
      have HW : Hid _ := hbw
      have HM : Hid _ := hmap
      have HO : Hid (World.ownsRow _ _ _ _ _ _ _) := hown
      have HR : Hid (ERets _ _ _ _) := hrets
      have HOL : Hid _ := owns_lt hown
      by_cases hlt : j < hs.length
      · obtain rfl : base = some ⟨b, o, none⟩ := HA.out.base (by omega)
        have EV := HA.out.below hbw
        have zx : b < wr.heap.size := EV.lt (by omega)
        obtain ⟨d0, d1⟩ := EV.c0 j hlt
        obtain ⟨d2, d3, d4, d5⟩ := EV.c1 j hlt
        obtain ⟨d6, d7, d8, d9⟩ := EV.c2 j hlt
        have j0 : (0 : Int) ≤ (j : Int) := Int.natCast_nonneg _
        have j1 : (j : Int) < (hs.length : Int) := by omega
        have PX : Hid _ := EV.prs j hlt
        have zw := hbw.size
        have hml : m.length ≤ j := by have := congrArg List.length hmap; rw [List.length_map] at this; rw [this]; exact thN_le hs t j
        clear EV hbw hmap hown hrets
        by_cases ht : (evAt hs j).th = t
        · have hq : ((evAt hs j).th == t) = true := by simp [ht]
          have HN : Hid (thN hs t (j + 1) = thN hs t j ++ [evAt hs j]) := by show thN hs t (j + 1) = _; simp only [thN]; rw [if_pos ht]
          clear ht
          have E3 : Hid (ERet wr 0 (Value.ownBlock (.slice oa m.length oc)) (evAt hs j) (.slice (pb j) (evAt hs j).rt.pairs.length (pc j))) := ⟨_, pg j, po j, pc j, rfl, fun q => ⟨Nat.zero_le _, fun r => by have h1 := (HOL.out _ r).1; have h2 := (HA.out.prs j hlt).1.lt q; omega⟩, PX.out.1, PX.out.2.1, PX.out.2.2⟩
          go_wp2_with (first | (at_builtin; (refine wpList_append_lies _ (by rfl) _ _ _ (by rfl) w.heap.size 55 i0 _ 10 96 evs_under hi0 hz0 hz1 hz2 rfl (by omega) _ m.length _ (by rfl) (HO.out.alloc _) ⟨wr.heap.size, 0, none⟩ 1 1 [.int .i64 (evAt hs j).th, .bool (evAt hs j).ret, .int .i64 (evAt hs j).op.kind, .int .i64 (evAt hs j).op.key, .int .i64 (evAt hs j).op.val, .int .i64 (evAt hs j).op.hi, .bool (evAt hs j).rt.ok, .int .i64 (evAt hs j).rt.key, .int .i64 (evAt hs j).rt.val, .slice (pb j) (evAt hs j).rt.pairs.length (pc j)] (by rfl) (by rfl) (World.news_of_block (cs := #[.int .i64 (evAt hs j).th, .bool (evAt hs j).ret, .int .i64 (evAt hs j).op.kind, .int .i64 (evAt hs j).op.key, .int .i64 (evAt hs j).op.val, .int .i64 (evAt hs j).op.hi, .bool (evAt hs j).rt.ok, .int .i64 (evAt hs j).rt.key, .int .i64 (evAt hs j).rt.val, .slice (pb j) (evAt hs j).rt.pairs.length (pc j)]) (t := 55) (fr := (0, 0)) (heap_alloc_at _ _ _ (by simp))) (by simp [Value.oneCell']) (by omega) (by unfold maxLen; omega) (by omega) (by simp; omega) (wr.heap.size + 1) (by simp) ?_); intro gg cap w3 hown3 hgrow hat hlt3))
          have HG : Hid (World.grownBy _ _ _) := hgrow
          have HAT : Hid _ := hat
          have HO3 : Hid (World.ownsRow _ _ _ _ _ _ _) := hown3
          clear hgrow hat hown3
          go_wp2_with fail
          refine ⟨⟨j + 1, m ++ [(evAt hs j, .slice (pb j) (evAt hs j).rt.pairs.length (pc j))], by omega, by go_num, Below.grown (HW.out.alloc HW.out.size _) HG.out (by have := HW.out.size; simp; omega) (fun k hk => (HOL.out k hk).1), ?_, ?_, rows_snoc HR.out E3.out HG.out HAT.out⟩, by simp [intOf]; omega⟩
          · rw [List.map_append, HM.out]; exact HN.out.symm
          · rw [evsC_snoc, List.length_append]; exact HO3.out
        · have hq : ((evAt hs j).th == t) = false := by rw [beq_eq_false_iff_ne]; exact ht
          have HN : Hid (thN hs t (j + 1) = thN hs t j) := by show thN hs t (j + 1) = _; simp only [thN]; rw [if_neg ht]
          clear ht
          go_wp2_with fail
          refine ⟨⟨j + 1, m, by omega, by go_num, HW.out, by rw [HN.out]; exact HM.out, HO.out, HR.out⟩, by simp [intOf]; omega⟩
      · obtain rfl : j = hs.length := by omega
        obtain ⟨base3, cap3, g3, pb3, pc3, pg3, po3, e3, hE3, _, _, _⟩ := own_evs HM.out HO.out HR.out
        have E3 : Hid _ := hE3
        have hol := thN_le hs t hs.length
        clear hbw hmap hown hrets hE3
        rw [e3]
        go_wp2_with fail
        refine (copyEvents_any base3 g3 0 cap3 (thN hs t hs.length) pb3 pc3 pg3 po3 _ E3.out (by omega)).mono ?_
        rintro e w4 ⟨v4, rfl, hb4, hE4⟩
        have E4 : Hid _ := hE4
        have B4 : Hid (Below w.heap.size w w4) := HW.out.trans (hb4.mono HW.out.size)
        have z4 := HW.out.size
        clear hE4 hb4
        go_wp2_with fail
        go_ret2
        refine ⟨_, by rw [HE.out]; rfl, B4.out, fun q => absurd HE.out q, fun _ => ?_⟩
        obtain ⟨q1, q2, q3, q4, q5, q6, q7, q8, q9, q10, q11, q12⟩ := E4.out
        exact ⟨q1, q2, q3, q4, q5, q6, q7, q8, q9, fun z => Nat.le_trans z4 (q10 z), q11, fun i hi z => Nat.le_trans z4 (q12 i hi z)⟩
  · have hn : (hErr hs != 0) = true := by simp [he]
    have HE : Hid _ := he
    clear he
    go_enter Try.func15, Try.ntmps15
    go_wp2_with fail
    refine (rcheck_any base b o c hs pb pc pg po _ HA.out).mono ?_
    rintro e w1 ⟨rfl, hb⟩
    go_wp2_with fail
    go_ret2
    exact ⟨_, rfl, hb, fun _ => rfl, fun q => absurd q HE.out⟩
end Go.Proofs.Ytgbfippcnmpgfaa
