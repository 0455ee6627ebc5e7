
/- Layer 5: the reference's calls. -/

import Derived.Test.YtcphajjonecmbaaDoorECall

namespace Go.Proofs.YtcphajjonecmbaaDoor

open Go.RowKit

attribute [local go_sem ↓] Go.wp_at_zero Go.wp_at_succ

theorem getE_of_map {l : List (Sp × Value)} {sp : List Sp} (h : l.map (·.1) = sp) {k : Nat} (hk : k < sp.length) : ∃ x, l[k]? = some x ∧ x.1 = spAt sp k ∧ x ∈ l := by
  have hl : k < l.length := by rw [← h, List.length_map] at hk; exact hk
  refine ⟨l[k], List.getElem?_eq_getElem hl, ?_, List.getElem_mem _⟩
  subst h
  unfold spAt
  rw [List.getD_eq_getElem?_getD, List.getElem?_map, List.getElem?_eq_getElem hl]
  rfl
theorem owns_form {w : World} {B sz : Nat} {e : TypeId} {v : Value} {n : Nat} {xs : List Value} (h : w.ownsRow B e sz v n xs) : ∃ a c, v = .slice a n c := by
  obtain ⟨_, h⟩ := h
  rcases h with ⟨rfl, rfl⟩ | ⟨g, cap, cur, rfl, _⟩
  · exact ⟨none, 0, rfl⟩
  · exact ⟨_, _, rfl⟩
theorem cell_set_lt {w : World} {b i g k : Nat} {u v : Value} (h : w.cell? ⟨b, i, none⟩ = some v) (hb : b < g) : (w.setCell ⟨g, k, none⟩ u).cell? ⟨b, i, none⟩ = some v := by
  rw [World.cell?_setCell_other _ _ _ _ (fun q => by have := congrArg Addr.block q; simp at this; omega)]; exact h

set_option maxRecDepth 100000 in
set_option maxHeartbeats 2000000 in
theorem calls_any (base : Option Addr) (b o c : Nat) (hs : List EvD) (pb : Nat → Option Addr) (pc pg po : Nat → Nat) (w : World) (h : EvsAt w base b o hs pb pc pg po) (he : hErr hs = 0) :
    Calls Tryd.prog 130 #[.slice base hs.length c] w fun e w' => ∃ v l, e = .returned v ∧ Below w.heap.size w w' ∧ l.map (·.1) = spansL hs ∧ w'.ownsRow w.heap.size 187 11 v l.length (callsC hs l) ∧ RetsAt hs w' w.heap.size v.ownBlock l := by
  have HA : Hid _ := h
  obtain ⟨hbn, sn, hsn, hsl⟩ := hErr_zero he
  clear h he
  have HSN : Hid _ := hsn
  have HSL : Hid _ := hsl
  have hb : (hs.length : Int) ≤ 100000 := by omega
  clear hsn hsl
  have hm1 : ∀ w : World, (Instr.makeSlice 22 (.int .i64 64) (.int .i64 64)).run Tryd.prog w = .ok (.slice (some ⟨w.heap.size, 0, none⟩) 64 64) (w.alloc (.cells (madeCells #[.int .i64 0] 64) 3)) := fun w => run_make_known (P := Tryd.prog) 22 3 (.int .i64 0) 1 8 ints_under int_info 64 (by omega) (by omega) w
  obtain ⟨i0, hi0, hz0, hz1, hz2⟩ := info_parts rc_info
  go_enter Tryd.func130, Tryd.ntmps130
  go_wp2_with fail
  go_loopw [3, 5] (fun v i wr => ∃ (j : Nat) (s : St) (l : List (Sp × Value)) (la : Nat → Nat), j ≤ hs.length ∧ i = .int .i64 j ∧ stN hs j = some s ∧ Below w.heap.size w wr ∧ w.heap.size < wr.heap.size ∧ l.map (·.1) = s.spans ∧ Vals wr w.heap.size 64 (fun t => .int .i64 (la t)) ∧ (∀ t, t < 64 → 0 < s.beg t → la t = s.beg t - 1) ∧ wr.ownsRow (w.heap.size + 1) 187 11 v l.length (callsC hs l) ∧ RetsAt hs wr (w.heap.size + 1) v.ownBlock l) (fun _ i _ => hs.length - (intOf i).toNat)
  case atStart =>
    refine ⟨0, ⟨[], fun _ => 0⟩, [], fun _ => 0, Nat.zero_le _, rfl, rfl, below_alloc _ _, by simp, rfl, Vals.made w 64 _ _, fun t _ h0 => by simp at h0, World.ownsRow_nil _ _ _ _, fun x hx => by cases hx⟩
  case round =>
    obtain ⟨j, s, l, la, hj, rfl, hst, hbw, hsz, hmap, hla, hlr, hown, hrets⟩ := hrel
    obtain ⟨oa, oc, rfl⟩ := owns_form hown
    by_cases hlt : j < hs.length
    · obtain rfl : base = some ⟨b, o, none⟩ := HA.out.base (by omega)
      have EV := HA.out.below hbw
      obtain ⟨d0, d1⟩ := EV.c0 j hlt
      obtain ⟨d2, d3, d4, d5⟩ := EV.c1 j hlt
      obtain ⟨d6, d7, d8, d9⟩ := EV.c2 j hlt
      obtain ⟨s', hst', hstep⟩ := stN_succ hst HSN.out hlt
      obtain ⟨t, ht, ht64, hcase⟩ := stepS_cases hstep
      have hok := stN_ok hst
      have HL : Hid (Vals _ _ _ _) := hla
      have HLR : Hid _ := hlr
      have HM : Hid _ := hmap
      have HB : Hid _ := hbw
      have HO : Hid (World.ownsRow _ _ _ _ _ _ _) := hown
      have HR : Hid (RetsAt _ _ _ _ _) := hrets
      have HE : Hid _ := EV
      have HN : Hid _ := hst'
      have hll : l.length = s.spans.length := by rw [← hmap, List.length_map]
      have hlen := hok.len
      obtain ⟨k0, k1⟩ := HL.out t ht64
      simp only at k0
      have j0 : (0 : Int) ≤ (j : Int) := Int.natCast_nonneg _
      have j1 : (j : Int) < (hs.length : Int) := by omega
      have t0 : (0 : Int) ≤ (t : Int) := Int.natCast_nonneg _
      have t1 : (t : Int) < 64 := by omega
      have hbl : b < wr.heap.size := EV.lt (by omega)
      have hb0 : b < w.heap.size := HA.out.lt (by omega)
      have ol := owns_lt hown
      rw [ht] at d0
      have HT : Hid _ := ht
      have HLL : Hid _ := hll
      have hl2 : l.length ≤ 100000 := by omega
      clear ht hstep hst hst' hla hlr hmap hbw hown hrets EV hll
      rcases hcase with ⟨hr, hbg, hi, hs'⟩ | ⟨hr, hbg, hoe, hs'⟩
      · rw [hr] at d1
        have HS' : Hid _ := hs'
        clear hs' hr hbg hi
        go_wp2_with fail
        have B1 : Below w.heap.size w (wr.setCell ⟨w.heap.size, t, none⟩ (.int .i64 l.length)) := HB.out.setCell (by simp) _
        have e0 := cell_set_lt (g := w.heap.size) (k := t) (u := .int .i64 l.length) d0 hb0
        have e2 := cell_set_lt (g := w.heap.size) (k := t) (u := .int .i64 l.length) d2 hb0
        have e3 := cell_set_lt (g := w.heap.size) (k := t) (u := .int .i64 l.length) d3 hb0
        have e4 := cell_set_lt (g := w.heap.size) (k := t) (u := .int .i64 l.length) d4 hb0
        have e5 := cell_set_lt (g := w.heap.size) (k := t) (u := .int .i64 l.length) d5 hb0
        have V1 := HL.out.set t (.int .i64 l.length)
        have O1 := owns_apart HO.out w.heap.size t (.int .i64 l.length) (by omega)
        have R1 := HR.out.set (g := w.heap.size) (j := t) (u := .int .i64 l.length) (Or.inl (by omega))
        have z1 : (wr.setCell ⟨w.heap.size, t, none⟩ (.int .i64 l.length)).heap.size = wr.heap.size := by simp
        have ol1 := owns_lt O1
        generalize wr.setCell ⟨w.heap.size, t, none⟩ (.int .i64 l.length) = W1 at *
        have hsz1 : w.heap.size < W1.heap.size := by omega
        have hbl1 : b < W1.heap.size := by omega
        have ag : Value.ownBlock (.slice oa l.length oc) ≠ some b := by intro q; have := (ol1 b q).1; omega
        have HO1 : Hid (World.ownsRow _ _ _ _ _ _ _) := O1
        have HR1 : Hid (RetsAt _ _ _ _ _) := R1
        have HV1 : Hid (Vals _ _ _ _) := V1
        have HB1 : Hid _ := B1
        have HOL : Hid _ := ol1
        clear O1 R1 V1 B1 d0 d1 d2 d3 d4 d5 d6 d7 d8 d9 ol ol1 z1 k0 k1
        go_region_held3 (fun w' => w'.cell? ⟨b, o + j * 10, none⟩ = some (.int .i64 t) ∧ w'.cell? ⟨b, o + j * 10 + 2, none⟩ = some (.int .i64 (evAt hs j).op.kind) ∧ w'.cell? ⟨b, o + j * 10 + 3, none⟩ = some (.int .i64 (evAt hs j).op.key) ∧ w'.cell? ⟨b, o + j * 10 + 4, none⟩ = some (.int .i64 (evAt hs j).op.val) ∧ w'.cell? ⟨b, o + j * 10 + 5, none⟩ = some (.int .i64 (evAt hs j).op.hi))
          (first
            | go_keep
            | (go_split_ands
               refine ⟨?_, ?_, ?_, ?_, ?_⟩
               · (rw [hgrow.cell_far _ (by simp; omega) (Ne.symm ag)]; assumption)
               · (rw [hgrow.cell_far _ (by simp; omega) (Ne.symm ag)]; assumption)
               · (rw [hgrow.cell_far _ (by simp; omega) (Ne.symm ag)]; assumption)
               · (rw [hgrow.cell_far _ (by simp; omega) (Ne.symm ag)]; assumption)
               · (rw [hgrow.cell_far _ (by simp; omega) (Ne.symm ag)]; assumption)))
          ((refine step_append_lies _ (by rfl) _ _ _ (by rfl) (w.heap.size + 1) 187 i0 _ 11 104 rcs_under hi0 hz0 hz1 hz2 rfl (by omega) _ l.length _ (by rfl) ((HO1.out.alloc _).drew)
              ⟨W1.heap.size, 0, none⟩ 1 1 [.int .i64 t, .int .i64 (evAt hs j).op.kind, .int .i64 (evAt hs j).op.key, .int .i64 (evAt hs j).op.val, .int .i64 (evAt hs j).op.hi, .bool false, .int .i64 0, .int .i64 0, .slice none 0 0, .int .i64 j, .int .i64 (-1)] (by rfl) (by rfl) (World.news_of_block (cs := #[.int .i64 t, .int .i64 (evAt hs j).op.kind, .int .i64 (evAt hs j).op.key, .int .i64 (evAt hs j).op.val, .int .i64 (evAt hs j).op.hi, .bool false, .int .i64 0, .int .i64 0, .slice none 0 0, .int .i64 j, .int .i64 (-1)]) (t := 187) (fr := (0, 0)) (heap_alloc_new W1 _)) (by simp [Value.oneCell'])
              (by omega) (by unfold maxLen; omega) (by omega) (by simp; omega) (W1.heap.size + 1) (by simp) ?_; intro gg cap w3 hown3 hgrow hat hlt3))
        have G1 : (W1.alloc (.cells #[.int .i64 t, .int .i64 (evAt hs j).op.kind, .int .i64 (evAt hs j).op.key, .int .i64 (evAt hs j).op.val, .int .i64 (evAt hs j).op.hi, .bool false, .int .i64 0, .int .i64 0, .slice none 0 0, .int .i64 j, .int .i64 (-1)] 187)).grownBy w3 (Value.ownBlock (.slice oa l.length oc)) := ⟨hgrow.os, hgrow.tape, hgrow.output, hgrow.size, hgrow.block⟩
        have HG : Hid _ := G1
        have HAT : Hid _ := hat
        have HO3 : Hid (World.ownsRow _ _ _ _ _ _ _) := hown3
        clear G1 hgrow hat hown3
        go_wp2_with fail
        have z3 : W1.heap.size + 1 ≤ w3.heap.size := by have := HG.out.size; simpa using this
        refine ⟨⟨j + 1, s', l ++ [((j, -1), .slice none 0 0)], fun x => if x = t then l.length else la x, by omega, by go_num, HN.out, Below.grown (HB1.out.alloc HB1.out.size _) HG.out (by simp; omega) (fun k hk => by have := (HOL.out k hk).1; omega), by omega, ?_, ?_, ?_, ?_, ?_⟩, by simp [intOf]; omega⟩
        · rw [HS'.out, List.map_append, HM.out]; rfl
        · refine (HV1.out.far HG.out hsz1 (fun k hk => by have := (HOL.out k hk).1; omega)).fn ?_
          intro x _
          simp only [putV]
          split <;> rfl
        · intro x hx h0
          rw [HS'.out] at h0 ⊢
          simp only [upd] at h0 ⊢
          by_cases e : x = t
          · rw [if_pos e, if_pos e, HLL.out, Nat.add_sub_cancel]
          · rw [if_neg e] at h0 ⊢
            rw [if_neg e]
            exact HLR.out x hx h0
        · have ec : callsC hs (l ++ [((j, -1), .slice none 0 0)]) = callsC hs l ++ [.int .i64 t, .int .i64 (evAt hs j).op.kind, .int .i64 (evAt hs j).op.key, .int .i64 (evAt hs j).op.val, .int .i64 (evAt hs j).op.hi, .bool false, .int .i64 0, .int .i64 0, .slice none 0 0, .int .i64 j, .int .i64 (-1)] := by
            rw [callsC_append]
            simp [callsC, callC, retOf, RetD.zero, HT.out]
          rw [ec, List.length_append]
          exact HO3.out
        · have R2 := (HR1.out.below (below_alloc W1 (.cells #[.int .i64 t, .int .i64 (evAt hs j).op.kind, .int .i64 (evAt hs j).op.key, .int .i64 (evAt hs j).op.val, .int .i64 (evAt hs j).op.hi, .bool false, .int .i64 0, .int .i64 0, .slice none 0 0, .int .i64 j, .int .i64 (-1)] 187))).grown (row' := some gg) HG.out (by
            intro g hg
            cases hg
            rcases HAT.out with q | q
            · exact Or.inl q
            · right; simp; omega)
          intro x hx
          rcases List.mem_append.1 hx with hx | hx
          · exact R2 x hx
          · simp only [List.mem_singleton] at hx
            subst hx
            exact ⟨fun _ => rfl, fun h => absurd rfl h⟩
      · rw [hr] at d1
        obtain ⟨q, hq⟩ : ∃ q, s.beg t = q + 1 := ⟨s.beg t - 1, by omega⟩
        have hlaq : la t = q := by rw [HLR.out t ht64 hbg, hq, Nat.add_sub_cancel]
        rw [hlaq] at k0
        have hql : q < l.length := by have := hok.beg t; have := HLL.out; omega
        obtain ⟨g, cp, hv, hg1, hg2, hcap, hcap2, hcl, hfz⟩ := owns_some HO.out (by omega)
        cases hv
        obtain ⟨x, hx1, hx2, hx3⟩ := getE_of_map HM.out (k := q) (by have := HLL.out; omega)
        have y : ∀ i, i < 11 → wr.cell? ⟨g, q * 11 + i, none⟩ = (callC hs x.1 x.2)[i]? := fun i hi => by rw [hcl _ (by omega)]; exact callsC_get hs l q i x hx1 hi
        have y5 := y 5 (by omega)
        have y6 := y 6 (by omega)
        have y7 := y 7 (by omega)
        have y8 := y 8 (by omega)
        have y10 := y 10 (by omega)
        simp only [callC, List.getElem?_cons_succ, List.getElem?_cons_zero] at y5 y6 y7 y8 y10
        have f5 := hfz (q * 11 + 5)
        have f6 := hfz (q * 11 + 6)
        have f7 := hfz (q * 11 + 7)
        have f8 := hfz (q * 11 + 8)
        have f10 := hfz (q * 11 + 10)
        have q0 : (0 : Int) ≤ (q : Int) := Int.natCast_nonneg _
        have q1 : (q : Int) < (l.length : Int) := by omega
        have HS' : Hid _ := hs'
        have HQ : Hid _ := hq
        have HX1 : Hid _ := hx1
        have HX2 : Hid _ := hx2
        have HLQ : Hid _ := hlaq
        clear hs' hr hoe y hcl hfz hx1 hx2 hx3 hq hlaq hbg
        go_wp2_with fail
        have Ba : Below w.heap.size w (wr.setCell ⟨g, q * 11 + 10, none⟩ (.int .i64 j)) := HB.out.setCell (by simp; omega) _
        refine (copyRet_any (pb j) (pg j) (po j) (pc j) (evAt hs j).rt _ ((HA.out.prs j hlt).1.below Ba) (HA.out.prs j hlt).2.1 (HA.out.prs j hlt).2.2).mono ?_
        rintro e w2 ⟨g2, cp2, rfl, h2a, h2b, hpa2, hb2⟩
        have u5 := (hb2.cell (p := ⟨g, q * 11 + 5, none⟩) (by simpa using hg2)).trans ((World.cell?_setCell_other _ _ _ _ (by simp)).trans y5)
        have u6 := (hb2.cell (p := ⟨g, q * 11 + 6, none⟩) (by simpa using hg2)).trans ((World.cell?_setCell_other _ _ _ _ (by simp)).trans y6)
        have u7 := (hb2.cell (p := ⟨g, q * 11 + 7, none⟩) (by simpa using hg2)).trans ((World.cell?_setCell_other _ _ _ _ (by simp)).trans y7)
        have u8 := (hb2.cell (p := ⟨g, q * 11 + 8, none⟩) (by simpa using hg2)).trans ((World.cell?_setCell_other _ _ _ _ (by simp)).trans y8)
        have v5 : w2.frozen? ⟨g, q * 11 + 5, none⟩ = false := (hb2.frozen (p := ⟨g, q * 11 + 5, none⟩) (by simpa using hg2)).trans (by simpa using f5)
        have v6 : w2.frozen? ⟨g, q * 11 + 6, none⟩ = false := (hb2.frozen (p := ⟨g, q * 11 + 6, none⟩) (by simpa using hg2)).trans (by simpa using f6)
        have v7 : w2.frozen? ⟨g, q * 11 + 7, none⟩ = false := (hb2.frozen (p := ⟨g, q * 11 + 7, none⟩) (by simpa using hg2)).trans (by simpa using f7)
        have v8 : w2.frozen? ⟨g, q * 11 + 8, none⟩ = false := (hb2.frozen (p := ⟨g, q * 11 + 8, none⟩) (by simpa using hg2)).trans (by simpa using f8)
        have z2 : wr.heap.size ≤ w2.heap.size := by have := hb2.size; simpa using this
        have hg2' : wr.heap.size ≤ g2 := by simpa using h2a
        have HB2 : Hid _ := hb2
        have HP2 : Hid _ := hpa2
        have HBA : Hid _ := Ba
        clear hb2 hpa2 y5 y6 y7 y8 y10 f5 f6 f7 f8 f10 Ba h2a
        go_wp2_with fail
        have R2 : RetsAt hs _ (w.heap.size + 1) (some g) l := (HR.out.set (g := g) (j := q * 11 + 10) (u := .int .i64 j) (Or.inr rfl)).below HB2.out
        have O2 := owns_below (owns_put HO.out (q * 11 + 10) (.int .i64 j)) HB2.out
        have V2 := (HL.out.apart g (q * 11 + 10) (.int .i64 j) (by omega)).below (by simpa using hsz) HB2.out
        have B2 := HBA.out.trans (HB2.out.mono HBA.out.size)
        refine ⟨⟨j + 1, s', l.set q ((x.1.1, (j : Int)), .slice (some ⟨g2, 0, none⟩) (evAt hs j).rt.pairs.length cp2), la, by omega, by go_num, HN.out, ?_, by simp; omega, ?_, ?_, ?_, ?_, ?_⟩, by simp [intOf]; omega⟩
        · repeat (refine Below.setCell ?_ (by simp; omega) _)
          exact B2
        · rw [List.map_set, HM.out, HS'.out, HX2.out, HQ.out, Nat.add_sub_cancel]
        · exact (((V2.apart _ _ _ (by omega)).apart _ _ _ (by omega)).apart _ _ _ (by omega)).apart _ _ _ (by omega)
        · intro x hx h0
          rw [HS'.out] at h0 ⊢
          simp only [upd] at h0 ⊢
          by_cases e : x = t
          · rw [if_pos e] at h0; omega
          · rw [if_neg e] at h0 ⊢
            exact HLR.out x hx h0
        · rw [callsC_set hs j _ (by omega) l q x HX1.out, List.length_set]
          exact owns_put (owns_put (owns_put (owns_put O2 _ _) _ _) _ _) _ _
        · have R3 := (((R2.set (g := g) (j := q * 11 + 5) (u := .bool (evAt hs j).rt.ok) (Or.inr rfl)).set (g := g) (j := q * 11 + 6) (u := .int .i64 (evAt hs j).rt.key) (Or.inr rfl)).set (g := g) (j := q * 11 + 7) (u := .int .i64 (evAt hs j).rt.val) (Or.inr rfl)).set (g := g) (j := q * 11 + 8) (u := .slice (some ⟨g2, 0, none⟩) (evAt hs j).rt.pairs.length cp2) (Or.inr rfl)
          intro y hy
          rcases List.mem_or_eq_of_mem_set hy with hy | hy
          · exact R3 y hy
          · subst hy
            refine ⟨fun h => by simp at h, fun _ => ?_⟩
            have e : retOf hs (x.1.1, (j : Int)) = (evAt hs j).rt := by unfold retOf; rw [if_neg (by simp)]; rfl
            simp only [e]
            refine ⟨g2, cp2, rfl, by omega, by simpa using h2b, by simp [Value.ownBlock]; omega, ?_⟩
            exact (((HP2.out.apart' (by omega)).apart' (by omega)).apart' (by omega)).apart' (by omega)
    · obtain rfl : j = hs.length := by omega
      have e : sn = s := by have := HSN.out; rw [this] at hst; exact Option.some.inj hst
      subst e
      have HM : Hid _ := hmap
      have HO : Hid (World.ownsRow _ _ _ _ _ _ _) := hown
      have HR : Hid (RetsAt _ _ _ _ _) := hrets
      clear hmap hown hrets hst hla hlr
      go_wp2_with fail
      go_ret
      refine ⟨_, l, rfl, hbw, HM.out.trans HSL.out.symm, owns_down HO.out (by omega), ?_⟩
      intro x hx
      obtain ⟨r1, r2⟩ := HR.out x hx
      refine ⟨r1, fun hn => ?_⟩
      obtain ⟨g, cap, e, h1, h2⟩ := r2 hn
      exact ⟨g, cap, e, by omega, h2⟩
end Go.Proofs.YtcphajjonecmbaaDoor
