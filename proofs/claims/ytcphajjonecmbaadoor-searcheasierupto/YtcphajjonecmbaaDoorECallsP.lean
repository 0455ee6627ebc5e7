
/- Layer 5: the program's Calls. -/

import Derived.Test.YtcphajjonecmbaaDoorEClone

import Derived.Test.YtcphajjonecmbaaDoorEKnown

namespace Go.Proofs.YtcphajjonecmbaaDoor

open Go.RowKit

attribute [local go_sem ↓] Go.wp_at_zero Go.wp_at_succ

def setMany (g : Nat) : World → Nat → List Value → World
  | W, _, [] => W
  | W, b, v :: t => setMany g (W.setCell ⟨g, b, none⟩ v) (b + 1) t
def putMany : (Nat → Value) → Nat → List Value → (Nat → Value)
  | F, _, [] => F
  | F, b, v :: t => putMany (putV F b v) (b + 1) t
theorem setMany_vals {g n : Nat} : ∀ (vs : List Value) {W : World} {b : Nat} {F : Nat → Value}, Vals W g n F → Vals (setMany g W b vs) g n (putMany F b vs)
  | [], _, _, _, h => h
  | v :: t, _, _, _, h => setMany_vals t (h.set _ v)
theorem putMany_out : ∀ (vs : List Value) {b x : Nat} {F : Nat → Value}, (x < b ∨ b + vs.length ≤ x) → putMany F b vs x = F x
  | [], _, _, _, _ => rfl
  | v :: t, b, x, F, h => by
    simp only [List.length_cons] at h
    show putMany (putV F b v) (b + 1) t x = _
    rw [putMany_out t (by omega), putV_other _ _ _ _ (by omega)]
theorem putMany_in : ∀ (vs : List Value) {b i : Nat} {F : Nat → Value}, i < vs.length → some (putMany F b vs (b + i)) = vs[i]?
  | [], _, _, _, h => by simp at h
  | v :: t, b, 0, F, _ => by
    show some (putMany (putV F b v) (b + 1) t (b + 0)) = _
    rw [putMany_out t (by omega), Nat.add_zero, putV_same]; rfl
  | v :: t, b, i + 1, F, h => by
    have ih := putMany_in t (b := b + 1) (i := i) (F := putV F b v) (by simpa using h)
    show some (putMany (putV F b v) (b + 1) t (b + (i + 1))) = _
    rw [show b + (i + 1) = b + 1 + i by omega, ih]; rfl
theorem setMany_below {g B : Nat} {w : World} (hg : B ≤ g) : ∀ (vs : List Value) {W : World} {b : Nat}, Below B w W → Below B w (setMany g W b vs)
  | [], _, _, h => h
  | v :: t, _, _, h => setMany_below hg t (h.setCell (by simpa using hg) v)
theorem setMany_size {g : Nat} : ∀ (vs : List Value) (W : World) (b : Nat), (setMany g W b vs).heap.size = W.heap.size
  | [], _, _ => rfl
  | v :: t, W, b => by show (setMany g (W.setCell ⟨g, b, none⟩ v) (b + 1) t).heap.size = _; rw [setMany_size t]; simp
theorem setMany_own {g B : Nat} {ps : PL} {u : Value} (hg : g < B) : ∀ (vs : List Value) {W : World} {b : Nat}, OwnP W B ps u → OwnP (setMany g W b vs) B ps u
  | [], _, _, h => h
  | _ :: t, _, _, h => setMany_own hg t (h.set hg)
theorem setMany_other {g b' i : Nat} {u : Value} (hg : b' ≠ g) : ∀ (vs : List Value) {W : World} {b : Nat}, W.cell? ⟨b', i, none⟩ = some u → (setMany g W b vs).cell? ⟨b', i, none⟩ = some u
  | [], _, _, h => h
  | v :: t, _, _, h => setMany_other hg t (by rw [World.cell?_setCell_other _ _ _ _ (fun q => hg (congrArg Addr.block q).symm)]; exact h)

theorem many_facts {n b : Nat} {w1 wr W2 : World} {vs : List Value} {cs : Array Value} {T : TypeId} {F : Nat → Value} (hW : W2 = ((setMany w1.heap.size wr b vs).alloc (.cells cs T)).drew) (hB : Below w1.heap.size w1 wr) (hg : w1.heap.size < wr.heap.size) (hV : Vals wr w1.heap.size n F) :
    Below w1.heap.size w1 W2 ∧ W2.heap.size = wr.heap.size + 1 ∧ Vals W2 w1.heap.size n (putMany F b vs) ∧ (∀ ps v, OwnP wr (w1.heap.size + 1) ps v → OwnP W2 (w1.heap.size + 1) ps v) ∧ ∀ k, W2.cell? ⟨wr.heap.size, k, none⟩ = cs[k]? := by
  have zs : (setMany w1.heap.size wr b vs).heap.size = wr.heap.size := setMany_size _ _ _
  have hb := setMany_below (g := w1.heap.size) (Nat.le_refl _) vs (b := b) hB
  have hv := setMany_vals vs (b := b) hV
  have ho : ∀ ps v, OwnP wr (w1.heap.size + 1) ps v → OwnP (setMany w1.heap.size wr b vs) (w1.heap.size + 1) ps v := fun ps v h => setMany_own (Nat.lt_succ_self _) vs h
  generalize setMany w1.heap.size wr b vs = M at *
  subst hW
  refine ⟨(hb.alloc hb.size _).drew, by simp [zs], (hv.below (by omega) (below_alloc _ _)).below (by simp; omega) (below_drewN (Below.refl _ _) 1), fun ps v h => OwnP.below ((ho ps v h).below (below_alloc _ _)) (below_drewN (Below.refl _ _) 1), fun k => ?_⟩
  rw [← zs]
  exact cell_new M cs T k
theorem pc_info : (Tryd.prog.info? 82).map (fun i => (i.zero, i.size, i.bytes)) = some (some (.agg #[.int .i64 0, .int .i64 0, .int .i64 0, .int .i64 0, .int .i64 0, .bool false, .int .i64 0, .int .i64 0, .slice none 0 0, .int .i64 0, .int .i64 0]), 11, 104) := by kernel_rfl
theorem pcs_under : Tryd.prog.underlying 78 = some (.slice 82) := by kernel_rfl
theorem Vals.anyMade (w : World) (cs : Array Value) (n : Nat) (e : TypeId) (hn : cs.size = n) : Vals (w.alloc (.cells cs e)) w.heap.size n (fun j => cs.getD j (.int .i64 0)) := by
  intro j hj
  refine ⟨?_, by simp⟩
  rw [cell_new]
  simp [Array.getD, hn, hj]

theorem take_snoc_sp {sp : List Sp} {j : Nat} {p : Sp} (hj : j < sp.length) (h : spAt sp j = p) : sp.take (j + 1) = sp.take j ++ [p] := by
  rw [List.take_succ_eq_append_getElem hj]
  congr 1
  unfold spAt at h
  rw [List.getD_eq_getElem?_getD, List.getElem?_eq_getElem hj] at h
  simpa using h
theorem calls_snoc {hs : List EvD} {l : List (Sp × Value)} {F : Nat → Value} {j : Nat} {x : Sp × Value} {vs : List Value} (h : ∀ k y, l[k]? = some y → ∀ i, i < 11 → some (F (k * 11 + i)) = (callC hs y.1 y.2)[i]?) (hl : l.length = j) (hv : vs = callC hs x.1 x.2) :
    ∀ k y, (l ++ [x])[k]? = some y → ∀ i, i < 11 → some (putMany F (j * 11) vs (k * 11 + i)) = (callC hs y.1 y.2)[i]? := by
  subst hv
  intro k y hy i hi
  by_cases e : k = j
  · subst e
    rw [List.getElem?_append_right (by omega), hl, Nat.sub_self] at hy
    simp only [List.getElem?_cons_zero, Option.some.injEq] at hy
    subst hy
    exact putMany_in _ (by rw [callC_length]; exact hi)
  · have hk : k < l.length := by
      have := (List.getElem?_eq_some_iff.1 hy).1
      simp at this
      omega
    rw [List.getElem?_append_left hk] at hy
    rw [putMany_out _ (by rw [callC_length]; omega)]
    exact h k y hy i hi

theorem calls_ret {hs : List EvD} {l : List (Sp × Value)} {F : Nat → Value} {j p1 : Nat} {t : Int} {r : RetD} {v : Value} (h : ∀ k y, l[k]? = some y → ∀ i, i < 11 → some (F (k * 11 + i)) = (callC hs y.1 y.2)[i]?) (hl : l.length = j) (hr : retOf hs (p1, t) = r) :
    ∀ k y, (l ++ [((p1, t), v)])[k]? = some y → ∀ i, i < 11 → some (putV (putV (putV (putV (putMany F (j * 11) [.int .i64 (evAt hs p1).th, .int .i64 (evAt hs p1).op.kind, .int .i64 (evAt hs p1).op.key, .int .i64 (evAt hs p1).op.val, .int .i64 (evAt hs p1).op.hi, .bool false, .int .i64 0, .int .i64 0, .slice none 0 0, .int .i64 p1, .int .i64 t]) (j * 11 + 5) (.bool r.ok)) (j * 11 + 6) (.int .i64 r.key)) (j * 11 + 7) (.int .i64 r.val)) (j * 11 + 8) v (k * 11 + i)) = (callC hs y.1 y.2)[i]? := by
  subst hr
  intro k y hy i hi
  by_cases e : k = j
  · subst e
    rw [List.getElem?_append_right (by omega), hl, Nat.sub_self] at hy
    simp only [List.getElem?_cons_zero, Option.some.injEq] at hy
    subst hy
    have hin := putMany_in [.int .i64 (evAt hs p1).th, .int .i64 (evAt hs p1).op.kind, .int .i64 (evAt hs p1).op.key, .int .i64 (evAt hs p1).op.val, .int .i64 (evAt hs p1).op.hi, .bool false, .int .i64 0, .int .i64 0, .slice none 0 0, .int .i64 p1, .int .i64 t] (b := k * 11) (i := i) (F := F) (by simpa using hi)
    by_cases e8 : i = 8
    · subst e8; rw [putV_same]; rfl
    · by_cases e7 : i = 7
      · subst e7; rw [putV_other _ _ _ _ (by omega), putV_same]; rfl
      · by_cases e6 : i = 6
        · subst e6; rw [putV_other _ _ _ _ (by omega), putV_other _ _ _ _ (by omega), putV_same]; rfl
        · by_cases e5 : i = 5
          · subst e5; rw [putV_other _ _ _ _ (by omega), putV_other _ _ _ _ (by omega), putV_other _ _ _ _ (by omega), putV_same]; rfl
          · rw [putV_other _ _ _ _ (by omega), putV_other _ _ _ _ (by omega), putV_other _ _ _ _ (by omega), putV_other _ _ _ _ (by omega), hin]
            match i, hi, e5, e6, e7, e8 with
            | 0, _, _, _, _, _ => rfl
            | 1, _, _, _, _, _ => rfl
            | 2, _, _, _, _, _ => rfl
            | 3, _, _, _, _, _ => rfl
            | 4, _, _, _, _, _ => rfl
            | 9, _, _, _, _, _ => rfl
            | 10, _, _, _, _, _ => rfl
  · have hk : k < l.length := by
      have := (List.getElem?_eq_some_iff.1 hy).1
      simp at this
      omega
    rw [List.getElem?_append_left hk] at hy
    rw [putV_other _ _ _ _ (by omega), putV_other _ _ _ _ (by omega), putV_other _ _ _ _ (by omega), putV_other _ _ _ _ (by omega), putMany_out _ (by simp; omega)]
    exact h k y hy i hi

set_option maxRecDepth 100000 in
set_option maxHeartbeats 2000000 in
theorem Calls_fz (base : Option Addr) (b o c : Nat) (hs : List EvD) (pb : Nat → Option Addr) (pc pg po : Nat → Nat) (w : World) (h : EvsAt w base b o hs pb pc pg po) :
    Calls Tryd.prog 35 #[.slice base hs.length c] w fun e w' => ∃ v, e = .returned (.tuple #[v, .int .i64 (hErr hs)]) ∧ Below w.heap.size w w' ∧ (hErr hs ≠ 0 → v = .slice none 0 0) ∧ (hErr hs = 0 → ∃ g l, w.heap.size ≤ g ∧ g < w'.heap.size ∧ v = .slice (some ⟨g, 0, none⟩) (spansL hs).length (spansL hs).length ∧ l.map (·.1) = spansL hs ∧ CallsAt hs w' (some ⟨g, 0, none⟩) g l ∧ (∀ x ∈ l, OwnP w' (g + 1) (retOf hs x.1).pairs x.2) ∧ ∀ k, k < (spansL hs).length * 11 → w'.frozen? ⟨g, k, none⟩ = false) := by
  have HA : Hid _ := h
  clear h
  by_cases he : hErr hs = 0
  · have hn : (hErr hs != 0) = false := by simp [he]
    obtain ⟨hbn, s, hst, hsl⟩ := hErr_zero he
    have hok := stN_ok hst
    have hsn : (spansL hs).length ≤ 100000 := by rw [hsl]; have := hok.len; omega
    have hfr : Hid (∀ k, k < (spansL hs).length → (spAt (spansL hs) k).1 < hs.length ∧ ((spAt (spansL hs) k).2 = -1 ∨ 0 ≤ (spAt (spansL hs) k).2 ∧ (spAt (spansL hs) k).2 < hs.length)) := by
      intro k hk
      rw [hsl] at hk ⊢
      refine ⟨hok.fr k hk, ?_⟩
      rcases hok.to k hk with q | q
      · exact Or.inl q
      · right; omega
    have HE : Hid _ := he
    clear he hst hsl hbn hok
    go_enter Tryd.func35, Tryd.ntmps35
    go_wp2_with fail
    refine (spansOf_any base b o c hs pb pc pg po _ HA.out).mono ?_
    rintro e w1 ⟨v, rfl, hb, _, hown⟩
    obtain ⟨base1, cap, g, rfl, hg, hnil, hsp, hmx⟩ := sps_of_owns (hown HE.out)
    generalize hgs : spansL hs = sp at *
    have HGS : Hid _ := hgs
    have HB : Hid _ := hb
    have HP : Hid _ := hsp
    have hs1 := hb.size
    have hm1 : ∀ w : World, (Instr.makeSlice 78 (.int .i64 sp.length) (.int .i64 sp.length)).run Tryd.prog w = .ok (.slice (some ⟨w.heap.size, 0, none⟩) sp.length sp.length) (w.alloc (.cells (madeCells #[.int .i64 0, .int .i64 0, .int .i64 0, .int .i64 0, .int .i64 0, .bool false, .int .i64 0, .int .i64 0, .slice none 0 0, .int .i64 0, .int .i64 0] (sp.length * 11)) 82)) := fun w => run_make_known (P := Tryd.prog) 78 82 (.agg #[.int .i64 0, .int .i64 0, .int .i64 0, .int .i64 0, .int .i64 0, .bool false, .int .i64 0, .int .i64 0, .slice none 0 0, .int .i64 0, .int .i64 0]) 11 104 pcs_under pc_info sp.length (by omega) (by omega) w
    clear hown hg hnil hsp hb hgs
    go_wp2_with fail
    go_loopw [22] (fun i wr => ∃ (j : Nat) (l : List (Sp × Value)) (F : Nat → Value), j ≤ sp.length ∧ i = .int .i64 j ∧ Below w1.heap.size w1 wr ∧ w1.heap.size < wr.heap.size ∧ l.map (·.1) = sp.take j ∧ Vals wr w1.heap.size (sp.length * 11) F ∧ (∀ k x, l[k]? = some x → ∀ i, i < 11 → some (F (k * 11 + i)) = (callC hs x.1 x.2)[i]?) ∧ ∀ x ∈ l, OwnP wr (w1.heap.size + 1) (retOf hs x.1).pairs x.2) (fun i _ => sp.length - (intOf i).toNat)
    case atStart =>
      refine ⟨0, [], _, Nat.zero_le _, rfl, below_alloc _ _, by simp, rfl, Vals.anyMade w1 _ _ _ (size_madeCells _ _), fun k x hx => by simp at hx, fun x hx => by cases hx⟩
    case round =>
      obtain ⟨j, l, F, hj, rfl, hbw, hsz, hmap, hV, hF, hOw⟩ := hrel
      have HW : Hid _ := hbw
      have HV : Hid (Vals _ _ _ _) := hV
      have HF : Hid _ := hF
      have HOw : Hid _ := hOw
      have HMp : Hid _ := hmap
      have hll : l.length = min j sp.length := by have := congrArg List.length hmap; simpa using this
      by_cases hlt : j < sp.length
      · obtain rfl : base1 = some ⟨g, 0, none⟩ := HP.out.base (by omega)
        obtain ⟨s0, s1⟩ := (HP.out.below hbw).cells j hlt
        have hgw : g < w1.heap.size := HP.out.lt (by omega)
        obtain ⟨hf1, hf2⟩ := hfr.out j hlt
        obtain rfl : base = some ⟨b, o, none⟩ := HA.out.base (by omega)
        have EV := (HA.out.below HB.out).below hbw
        have hb0 : b < w.heap.size := HA.out.lt (by omega)
        have j0 : (0 : Int) ≤ (j : Int) := Int.natCast_nonneg _
        have j1 : (j : Int) < (sp.length : Int) := by omega
        generalize hsj : spAt sp j = p at *
        obtain ⟨p1, p2⟩ := p
        simp only at s0 s1 hf1 hf2
        obtain ⟨d0, d1⟩ := EV.c0 p1 hf1
        obtain ⟨d2, d3, d4, d5⟩ := EV.c1 p1 hf1
        have f0 : (0 : Int) ≤ (p1 : Int) := Int.natCast_nonneg _
        have f1 : (p1 : Int) < (hs.length : Int) := by omega
        have hbr : b < wr.heap.size := by omega
        have m0 := HV.out (j * 11) (by omega)
        have m1 := HV.out (j * 11 + 1) (by omega)
        have m2 := HV.out (j * 11 + 2) (by omega)
        have m3 := HV.out (j * 11 + 3) (by omega)
        have m4 := HV.out (j * 11 + 4) (by omega)
        have m5 := HV.out (j * 11 + 5) (by omega)
        have m6 := HV.out (j * 11 + 6) (by omega)
        have m7 := HV.out (j * 11 + 7) (by omega)
        have m8 := HV.out (j * 11 + 8) (by omega)
        have m9 := HV.out (j * 11 + 9) (by omega)
        have m10 := HV.out (j * 11 + 10) (by omega)
        have HSJ : Hid _ := hsj
        have HE2 : Hid _ := EV
        clear hbw hV hF hOw hmap EV hsj
        go_wp2_with fail
        go_region
        obtain ⟨W2, hW2⟩ : ∃ W2, W2 = ((setMany w1.heap.size wr (j * 11) [.int .i64 (evAt hs p1).th, .int .i64 (evAt hs p1).op.kind, .int .i64 (evAt hs p1).op.key, .int .i64 (evAt hs p1).op.val, .int .i64 (evAt hs p1).op.hi, .bool false, .int .i64 0, .int .i64 0, .slice none 0 0, .int .i64 p1, .int .i64 p2]).alloc (.cells #[.int .i64 p1, .int .i64 p2] 142)).drew := ⟨_, rfl⟩
        have HW2 : Hid _ := hW2
        simp only [setMany, Nat.add_assoc, Nat.reduceAdd] at hW2
        rw [← hW2]
        clear hW2
        obtain ⟨b2, z2, v2, o2, t2⟩ := many_facts HW2.out HW.out hsz HV.out
        have B2 : Hid (Below w1.heap.size w1 W2) := b2
        have V2 : Hid (Vals W2 w1.heap.size (sp.length * 11) (putMany F (j * 11) [.int .i64 (evAt hs p1).th, .int .i64 (evAt hs p1).op.kind, .int .i64 (evAt hs p1).op.key, .int .i64 (evAt hs p1).op.val, .int .i64 (evAt hs p1).op.hi, .bool false, .int .i64 0, .int .i64 0, .slice none 0 0, .int .i64 p1, .int .i64 p2])) := v2
        have O2 : Hid (∀ x ∈ l, OwnP W2 (w1.heap.size + 1) (retOf hs x.1).pairs x.2) := fun x hx => o2 _ _ (HOw.out x hx)
        have t0 : W2.cell? ⟨wr.heap.size, 0, none⟩ = some (.int .i64 p1) := t2 0
        have t1 : W2.cell? ⟨wr.heap.size, 1, none⟩ = some (.int .i64 p2) := t2 1
        clear b2 v2 o2 t2
        clear s0 s1 d0 d1 d2 d3 d4 d5 m0 m1 m2 m3 m4 m5 m6 m7 m8 m9 m10 HW2
        have E2 := (HA.out.below HB.out).below B2.out
        by_cases hp : p2 = -1
        · have hd : decide (p2 ≠ -1) = false := by simp [hp]
          have HPP : Hid _ := hp
          clear hp E2
          go_wp2_with fail
          refine (returned_any _ _ _).mono ?_
          rintro e w3 ⟨rfl, hb3⟩
          rw [hd]
          have B3 : Hid _ := hb3
          have z3 := hb3.size
          clear hb3
          go_wp2_with fail
          refine ⟨⟨j + 1, l ++ [((p1, p2), .slice none 0 0)], putMany F (j * 11) [.int .i64 (evAt hs p1).th, .int .i64 (evAt hs p1).op.kind, .int .i64 (evAt hs p1).op.key, .int .i64 (evAt hs p1).op.val, .int .i64 (evAt hs p1).op.hi, .bool false, .int .i64 0, .int .i64 0, .slice none 0 0, .int .i64 p1, .int .i64 p2], by omega, by go_num, B2.out.trans (B3.out.mono B2.out.size), by omega, ?_, V2.out.below (by omega) B3.out, ?_, ?_⟩, by simp [intOf]; omega⟩
          · rw [List.map_append, HMp.out]
            exact (take_snoc_sp hlt HSJ.out).symm
          · exact calls_snoc HF.out (by omega) (by simp [callC, retOf, HPP.out, RetD.zero])
          · intro x hx
            rcases List.mem_append.1 hx with q | q
            · exact (O2.out x q).below B3.out
            · simp only [List.mem_singleton] at q
              subst q
              have hz : retOf hs (p1, p2) = RetD.zero := by unfold retOf; rw [if_pos HPP.out]
              rw [hz]
              exact ⟨none, 0, 0, rfl, fun q => absurd rfl q, pairs_none _, fun _ => rfl⟩
        · have hd : decide (p2 ≠ -1) = true := by simp [hp]
          rcases hf2 with q | ⟨q1, q2⟩
          · exact absurd q hp
          obtain ⟨t, ht⟩ : ∃ t : Nat, p2 = t := ⟨p2.toNat, by omega⟩
          subst ht
          have htl : t < hs.length := by omega
          obtain ⟨e6, e7, e8, e9⟩ := E2.c2 t htl
          have hp2 := (E2.prs t htl)
          have HPR : Hid _ := hp2
          have hret : Hid (retOf hs (p1, (t : Int)) = (evAt hs t).rt) := by show retOf hs (p1, (t : Int)) = _; unfold retOf; rw [if_neg hp]; rfl
          clear hp E2 hp2
          go_wp2_with fail
          refine (returned_any _ _ _).mono ?_
          rintro e w3 ⟨rfl, hb3⟩
          rw [hd]
          have hz3 := hb3.size
          have u1 := (hb3.cell (p := ⟨wr.heap.size, 1, none⟩) (by simp; omega)).trans t1
          have u6 := (hb3.cell (p := ⟨b, o + t * 10 + 6, none⟩) (by simp; omega)).trans e6
          have u7 := (hb3.cell (p := ⟨b, o + t * 10 + 7, none⟩) (by simp; omega)).trans e7
          have u8 := (hb3.cell (p := ⟨b, o + t * 10 + 8, none⟩) (by simp; omega)).trans e8
          have u9 := (hb3.cell (p := ⟨b, o + t * 10 + 9, none⟩) (by simp; omega)).trans e9
          have B3 : Hid _ := hb3
          clear hb3 e6 e7 e8 e9 t0 t1
          have q3 : (t : Int) < (hs.length : Int) := by omega
          go_wp2_with fail
          refine (copyOf_any (pb t) (pg t) (po t) (pc t) (evAt hs t).rt _ (HPR.out.1.below B3.out) HPR.out.2.1 HPR.out.2.2).mono ?_
          rintro e w4 ⟨a4, g4, c4, rfl, hg4, hpa4, hb4, hnl4⟩
          have hz4 := hb4.size
          have V4 : Hid (Vals w4 w1.heap.size (sp.length * 11) (putMany F (j * 11) [.int .i64 (evAt hs p1).th, .int .i64 (evAt hs p1).op.kind, .int .i64 (evAt hs p1).op.key, .int .i64 (evAt hs p1).op.val, .int .i64 (evAt hs p1).op.hi, .bool false, .int .i64 0, .int .i64 0, .slice none 0 0, .int .i64 p1, .int .i64 (t : Int)])) := (V2.out.below (by omega) B3.out).below (by omega) hb4
          have n5 := V4.out (j * 11 + 5) (by omega)
          have n6 := V4.out (j * 11 + 6) (by omega)
          have n7 := V4.out (j * 11 + 7) (by omega)
          have n8 := V4.out (j * 11 + 8) (by omega)
          have B4 : Hid _ := hb4
          have P4 : Hid (OwnP w4 (w1.heap.size + 1) (evAt hs t).rt.pairs (.slice a4 (evAt hs t).rt.pairs.length c4)) := ⟨a4, g4, c4, rfl, fun q => by have := hg4 q; omega, hpa4, hnl4⟩
          clear hb4 hpa4 hg4 hnl4 u1 u6 u7 u8 u9
          go_wp2_with fail
          have BB := B2.out.trans ((B3.out.mono B2.out.size).trans (B4.out.mono (Nat.le_trans B2.out.size B3.out.size)))
          refine ⟨⟨j + 1, l ++ [((p1, (t : Int)), .slice a4 (evAt hs t).rt.pairs.length c4)], _, by omega, by go_num, ?_, by simp; omega, ?_, (((V4.out.set _ _).set _ _).set _ _).set _ _, ?_, ?_⟩, by simp [intOf]; omega⟩
          · exact (((BB.setCell (by simp) _).setCell (by simp) _).setCell (by simp) _).setCell (by simp) _
          · rw [List.map_append, HMp.out]
            exact (take_snoc_sp hlt HSJ.out).symm
          · exact calls_ret HF.out (by omega) hret.out
          · intro x hx
            rcases List.mem_append.1 hx with q | q
            · exact ((((((O2.out x q).below B3.out).below B4.out).set (Nat.lt_succ_self _)).set (Nat.lt_succ_self _)).set (Nat.lt_succ_self _)).set (Nat.lt_succ_self _)
            · simp only [List.mem_singleton] at q
              subst q
              simp only [hret.out]
              exact (((P4.out.set (Nat.lt_succ_self _)).set (Nat.lt_succ_self _)).set (Nat.lt_succ_self _)).set (Nat.lt_succ_self _)
      · obtain rfl : j = sp.length := by omega
        clear hbw hV hF hOw hmap
        go_wp2_with fail
        go_ret2
        refine ⟨_, by rw [HE.out]; rfl, HB.out.trans (HW.out.mono HB.out.size), fun h => absurd HE.out h, fun _ => ⟨w1.heap.size, l, hs1, hsz, by rw [HGS.out]; rfl, by rw [HGS.out, HMp.out, List.take_length], ⟨fun _ => rfl, fun _ => hsz, fun k x hx i hi => ?_⟩, HOw.out, fun k hk => (HV.out k (by rw [← HGS.out]; exact hk)).2⟩⟩
        have hkl := (List.getElem?_eq_some_iff.1 hx).1
        rw [(HV.out (k * 11 + i) (by omega)).1]
        exact HF.out k x hx i hi
  · have hn : (hErr hs != 0) = true := by simp [he]
    have HE : Hid _ := he
    clear he
    go_enter Tryd.func35, Tryd.ntmps35
    go_wp2_with fail
    refine (spansOf_any base b o c hs pb pc pg po _ HA.out).mono ?_
    rintro e w1 ⟨v, rfl, hb, _, hown⟩
    clear hown
    go_wp2_with fail
    go_ret2
    exact ⟨_, rfl, hb, fun _ => rfl, fun h => absurd h HE.out⟩
theorem Calls_any (base : Option Addr) (b o c : Nat) (hs : List EvD) (pb : Nat → Option Addr) (pc pg po : Nat → Nat) (w : World) (h : EvsAt w base b o hs pb pc pg po) :
    Calls Tryd.prog 35 #[.slice base hs.length c] w fun e w' => ∃ v, e = .returned (.tuple #[v, .int .i64 (hErr hs)]) ∧ Below w.heap.size w w' ∧ (hErr hs ≠ 0 → v = .slice none 0 0) ∧ (hErr hs = 0 → ∃ g l, w.heap.size ≤ g ∧ g < w'.heap.size ∧ v = .slice (some ⟨g, 0, none⟩) (spansL hs).length (spansL hs).length ∧ l.map (·.1) = spansL hs ∧ CallsAt hs w' (some ⟨g, 0, none⟩) g l ∧ ∀ x ∈ l, OwnP w' (g + 1) (retOf hs x.1).pairs x.2) := by
  refine (Calls_fz base b o c hs pb pc pg po w h).mono ?_
  rintro e w' ⟨v, h1, h2, h3, h4⟩
  refine ⟨v, h1, h2, h3, fun q => ?_⟩
  obtain ⟨g, l, a1, a2, a3, a4, a5, a6, _⟩ := h4 q
  exact ⟨g, l, a1, a2, a3, a4, a5, a6⟩
end Go.Proofs.YtcphajjonecmbaaDoor
