
/- Layer 5: slices.IndexFunc and slices.DeleteFunc at spans, by the program's question whether one is pending. -/

import Derived.Test.YtgbfippcnmpgfaaEKnown

import Derived.Lib.SliceRun

import Derived.Laws.IdiomCopy

namespace Go.Proofs.Ytgbfippcnmpgfaa

open Go.RowKit

attribute [local go_sem ↓] Go.wp_at_zero Go.wp_at_succ

theorem done1_any (a b : Int) (w : World) : Calls Try.prog 26 #[.agg #[.int .i64 a, .int .i64 b]] w fun e w' => e = .returned (.bool (decide (b = -1))) ∧ Below w.heap.size w w' := by
  go_enter Try.func26, Try.ntmps26
  go_wp2_with fail
  refine (returned_any _ _ _).mono ?_
  rintro e w1 ⟨rfl, hb⟩
  go_wp2_with fail
  go_ret
  exact ⟨by simp, (below_alloc _ _).trans (hb.mono (by simp))⟩

set_option maxRecDepth 100000 in
set_option maxHeartbeats 1000000 in
theorem indexFunc_any (a1 : Option Addr) (g c1 : Nat) (sp : List Sp) (w : World) (hx : SpsAt w a1 g sp) (hxl : sp.length ≤ maxLen) :
    Calls Try.prog 42 #[.slice a1 sp.length c1, .func (.func 26) #[] #[]] w fun e w' => ∃ r : Int, e = .returned (.int .i64 r) ∧ Below w.heap.size w w' ∧ ((r = -1 ∧ ∀ k, k < sp.length → (spAt sp k).2 ≠ -1) ∨ ∃ k : Nat, r = k ∧ k < sp.length ∧ (spAt sp k).2 = -1 ∧ ∀ m, m < k → (spAt sp m).2 ≠ -1) := by
  have lx := hxl
  unfold maxLen at lx
  have HX : Hid _ := hx
  clear hx hxl
  go_enter Try.func42, Try.ntmps42
  go_wp2_with fail
  go_loopw [8] (fun i wr => ∃ j : Nat, j ≤ sp.length ∧ i = .int .i64 j ∧ (∀ k, k < j → (spAt sp k).2 ≠ -1) ∧ Below w.heap.size w wr) (fun i _ => sp.length - (intOf i).toNat)
  case atStart => exact ⟨0, Nat.zero_le _, rfl, fun k hk => by omega, Below.refl _ _⟩
  case round =>
    obtain ⟨j, hj, rfl, hall, hbw⟩ := hrel
    have HAL : Hid _ := hall
    have HW : Hid _ := hbw
    clear hall
    by_cases hlt : j < sp.length
    · obtain rfl : a1 = some ⟨g, 0, none⟩ := HX.out.base (by omega)
      have EX := HX.out.below hbw
      have zx : g < wr.heap.size := EX.lt (by omega)
      obtain ⟨s0, s1⟩ := EX.cells j hlt
      have j0 : (0 : Int) ≤ (j : Int) := Int.natCast_nonneg _
      have j1 : (j : Int) < (sp.length : Int) := by omega
      clear EX hbw
      go_wp2_with fail
      refine (done1_any _ _ _).mono ?_
      rintro e w2 ⟨rfl, hb2⟩
      have B2 : Hid (Below w.heap.size w w2) := HW.out.trans (hb2.mono HW.out.size)
      clear hb2 s0 s1
      cases hq : decide ((spAt sp j).2 = -1)
      · have HQ : Hid ((spAt sp j).2 ≠ -1) := by show (spAt sp j).2 ≠ -1; simpa using hq
        go_wp2_with fail
        refine ⟨⟨j + 1, by omega, by go_num, fun k hk => ?_, B2.out⟩, by simp [intOf]; omega⟩
        by_cases e : k = j
        · subst e; exact HQ.out
        · exact HAL.out k (by omega)
      · have HQ : Hid ((spAt sp j).2 = -1) := by show (spAt sp j).2 = -1; simpa using hq
        go_wp2_with fail
        go_ret
        exact ⟨_, rfl, B2.out, Or.inr ⟨j, rfl, hlt, HQ.out, HAL.out⟩⟩
    · obtain rfl : j = sp.length := by omega
      clear hbw
      go_wp2_with fail
      go_ret
      exact ⟨_, rfl, HW.out, Or.inl ⟨rfl, HAL.out⟩⟩

theorem run_clear_two {P : Program} (w : World) (t e ty : TypeId) (ht : P.underlying t = some (.slice e)) (hv : ∀ w, (zeroValue e).run P w = .ok (.agg #[.int .i64 0, .int .i64 0]) w) (b o n c : Nat) (hn : 0 < n)
    (hc : ∀ j, j < n * 2 → (w.cell? ⟨b, o + j, none⟩).isSome = true) (hf : ∀ j, j < n * 2 → w.frozen? ⟨b, o + j, none⟩ = false) :
    (Builtin.clear_ #[t] ty #[.slice (some ⟨b, o, none⟩) n c]).run P w = .ok (.tuple #[]) (w.setCells b o (List.replicate (n * 2) (.int .i64 0))) := by
  have hzc : (Builtin.zeroCells (Value.agg #[.int .i64 0, .int .i64 0]).cells n).toList = List.replicate (n * 2) (.int .i64 0) := by
    have hcs : (Value.agg #[.int .i64 0, .int .i64 0]).cells = #[.int .i64 0, .int .i64 0] := rfl
    rw [hcs]
    simp [Builtin.zeroCells]
    apply List.ext_getElem
    · simp
    · intro i h1 h2
      have hm : i % 2 = 0 ∨ i % 2 = 1 := by omega
      rcases hm with q | q <;> simp [q]
  have hst := run_storeCells_cells (P := P) b o (List.replicate (n * 2) (.int .i64 0)) 0 w (by simpa using hc) (by simpa using hf) (by intro v hv'; rw [List.eq_of_mem_replicate hv']; rfl)
  simp only [Nat.add_zero] at hst
  obtain ⟨m, rfl⟩ : ∃ m, n = m + 1 := ⟨n - 1, by omega⟩
  simp [Builtin.clear_, run_underlying ht, hv, hzc, hst]
theorem below_setCells {B : Nat} {w0 : World} (g : Nat) (hg : B ≤ g) : ∀ (vs : List Value) (o : Nat) (w : World), Below B w0 w → Below B w0 (w.setCells g o vs)
  | [], _, _, h => h
  | v :: vs, o, w, h => below_setCells g hg vs (o + 1) _ (h.setCell (by simpa using hg) v)

theorem rtN_none {sp : List Sp} : ∀ j, (∀ k, k < j → (spAt sp k).2 ≠ -1) → j ≤ sp.length → rtN sp j = sp.take j
  | 0, _, _ => by simp [rtN]
  | j + 1, h, hj => by
    have ih := rtN_none j (fun k hk => h k (by omega)) (by omega)
    simp only [rtN]
    rw [if_neg (h j (by omega)), ih, List.take_succ_eq_append_getElem (by omega)]
    congr 1
    unfold spAt
    rw [List.getD_eq_getElem?_getD, List.getElem?_eq_getElem (by omega)]
    rfl
theorem spAt_app (l : List Sp) (x : Sp) (i : Nat) (h : i < l.length) : spAt (l ++ [x]) i = spAt l i := by rw [spAt_append, if_neg (by omega)]
theorem spAt_app_last (l : List Sp) (x : Sp) : spAt (l ++ [x]) l.length = x := by rw [spAt_append, if_pos rfl]

set_option maxRecDepth 100000 in
set_option maxHeartbeats 2000000 in
theorem deleteFunc_any (B : Nat) (v : Value) (sp : List Sp) (w : World) (h : w.ownsRow B 61 2 v sp.length (spCells sp)) (hB : B ≤ w.heap.size) :
    Calls Try.prog 27 #[v, .func (.func 26) #[] #[]] w fun e w' => ∃ base cap g, e = .returned (.slice base (rtN sp sp.length).length cap) ∧ SpsAt w' base g (rtN sp sp.length) ∧ Below B w w' := by
  obtain ⟨base, cap, g, rfl, hg, hnil, hsp, hmx⟩ := sps_of_owns h
  have HS : Hid _ := hsp
  have HO : Hid (World.ownsRow _ _ _ _ _ _ _) := h
  have lx := hmx
  unfold maxLen at lx
  clear hsp h
  go_enter Try.func27, Try.ntmps27
  go_wp2_with fail
  refine (indexFunc_any base g cap sp _ HS.out hmx).mono ?_
  rintro e w1 ⟨r, rfl, hb1, hr⟩
  have B1 : Hid _ := hb1
  clear hb1
  rcases hr with ⟨rfl, hall⟩ | ⟨k, rfl, hk, hpk, hbef⟩
  · have HR : Hid (rtN sp sp.length = sp) := by show rtN sp sp.length = sp; rw [rtN_none _ hall (Nat.le_refl _), List.take_length]
    clear hall
    go_wp2_with fail
    go_ret
    rw [HR.out]
    exact ⟨base, cap, g, rfl, HS.out.below B1.out, B1.out.mono hB⟩
  · have hn0 : 0 < sp.length := by omega
    obtain rfl : base = some ⟨g, 0, none⟩ := HS.out.base (by omega)
    obtain ⟨g', cap', e', hg1, hg2, hcap1, hcap2, hcl, hfz⟩ := owns_some HO.out hn0
    cases e'
    have z1 := B1.out.size
    have V1 : Hid (Vals w1 g (sp.length * 2) (fun x => if x % 2 = 0 then .int .i64 (spAt sp (x / 2)).1 else .int .i64 (spAt sp (x / 2)).2)) := by
      intro x hx
      obtain ⟨c0, c1⟩ := spCells_get sp (x / 2) (by omega)
      refine ⟨(B1.out.cell (p := ⟨g, x, none⟩) hg2).trans ?_, (B1.out.frozen (p := ⟨g, x, none⟩) hg2).trans (hfz x)⟩
      rw [hcl x hx]
      show _ = some (if x % 2 = 0 then Value.int .i64 (spAt sp (x / 2)).1 else .int .i64 (spAt sp (x / 2)).2)
      by_cases q : x % 2 = 0
      · rw [if_pos q, ← c0]; congr 1; omega
      · rw [if_neg q, ← c1]; congr 1; omega
    have HR0 : Hid ((rtN sp (k + 1)).length = k ∧ ∀ x, x < k → spAt (rtN sp (k + 1)) x = spAt sp x) := by
      have e0 : rtN sp (k + 1) = sp.take k := by simp only [rtN]; rw [if_pos hpk, rtN_none _ hbef (by omega)]
      rw [e0]
      refine ⟨by simp; omega, fun x hx => ?_⟩
      unfold spAt
      rw [List.getD_eq_getElem?_getD, List.getD_eq_getElem?_getD, List.getElem?_take, if_pos hx]
    have hki : ((k : Int) == -1) = false := by rw [beq_eq_false_iff_ne]; omega
    have hgB : Hid (B ≤ g) := hg1
    unfold maxLen at hcap2
    clear hpk hbef hcl hfz hnil hg hn0 HO
    go_wp2_with fail
    go_loopw [5, 6] (fun iv jv wr => ∃ (j i : Nat) (F : Nat → Value), j ≤ sp.length ∧ jv = .int .i64 j ∧ iv = .int .i64 i ∧ i < j ∧ (rtN sp j).length = i ∧ Vals wr g (sp.length * 2) F ∧ (∀ x, x < i → F (x * 2) = .int .i64 (spAt (rtN sp j) x).1 ∧ F (x * 2 + 1) = .int .i64 (spAt (rtN sp j) x).2) ∧ (∀ x, j ≤ x → x < sp.length → F (x * 2) = .int .i64 (spAt sp x).1 ∧ F (x * 2 + 1) = .int .i64 (spAt sp x).2) ∧ Below B w wr ∧ g < wr.heap.size ∧ B ≤ wr.heap.size) (fun _ jv _ => sp.length - (intOf jv).toNat)
    case atStart =>
      refine ⟨k + 1, k, _, by omega, by go_num, rfl, by omega, HR0.out.1, V1.out, fun x hx => ?_, fun x hx hx2 => ?_, B1.out.mono hB, by omega, by omega⟩
      · rw [HR0.out.2 x hx]
        have e1 : x * 2 % 2 = 0 := by omega
        have e2 : ¬ (x * 2 + 1) % 2 = 0 := by omega
        have e3 : x * 2 / 2 = x := by omega
        have e4 : (x * 2 + 1) / 2 = x := by omega
        simp only [e1, e3, e4, if_true]
        rw [if_neg e2]
        refine ⟨?_, ?_⟩ <;> first | trivial | rfl
      · have e1 : x * 2 % 2 = 0 := by omega
        have e2 : ¬ (x * 2 + 1) % 2 = 0 := by omega
        have e3 : x * 2 / 2 = x := by omega
        have e4 : (x * 2 + 1) / 2 = x := by omega
        simp only [e1, e3, e4, if_true]
        rw [if_neg e2]
        refine ⟨?_, ?_⟩ <;> first | trivial | rfl
    case round =>
      clear V1 HR0 hki B1 z1
      obtain ⟨j, i, F, hj, rfl, rfl, hij, hlen, hV, hF1, hF2, hbw, hgw, hBw⟩ := hrel
      have HV : Hid (Vals _ _ _ _) := hV
      have H1 : Hid _ := hF1
      have H2 : Hid _ := hF2
      have HB : Hid _ := hbw
      have HL : Hid _ := hlen
      by_cases hlt : j < sp.length
      · obtain ⟨f0, f1⟩ := hF2 j (Nat.le_refl _) hlt
        have c0 := (hV (j * 2) (by omega)).1
        have c1 := (hV (j * 2 + 1) (by omega)).1
        rw [f0] at c0
        rw [f1] at c1
        have j0 : (0 : Int) ≤ (j : Int) := Int.natCast_nonneg _
        have j1 : (j : Int) < (sp.length : Int) := by omega
        have i0 : (0 : Int) ≤ (i : Int) := Int.natCast_nonneg _
        have i1 : (i : Int) < (sp.length : Int) := by omega
        have hsj : Hid (∀ p, spAt sp j = p → rtN sp (j + 1) = if p.2 = -1 then rtN sp j else rtN sp j ++ [p]) := by
          intro p hp; subst hp; rfl
        generalize hp : spAt sp j = p at *
        obtain ⟨p1, p2⟩ := p
        simp only at c0 c1 f0 f1
        have HP : Hid _ := hp
        clear hV hF1 hF2 hbw hlen f0 f1 hp
        go_wp2_with fail
        refine (done1_any _ _ _).mono ?_
        rintro e w2 ⟨rfl, hb2⟩
        have hbx : Below wr.heap.size wr w2 := (below_alloc wr _).trans (hb2.mono (by simp))
        have z2 := hbx.size
        have B2 : Hid (Below B w w2) := HB.out.trans (hbx.mono hBw)
        have t0 : w2.cell? ⟨wr.heap.size, 0, none⟩ = some (.int .i64 p1) := (hb2.cell (p := ⟨wr.heap.size, 0, none⟩) (by simp)).trans (cell_new wr _ _ 0)
        have t1 : w2.cell? ⟨wr.heap.size, 1, none⟩ = some (.int .i64 p2) := (hb2.cell (p := ⟨wr.heap.size, 1, none⟩) (by simp)).trans (cell_new wr _ _ 1)
        have V2 : Hid (Vals w2 g (sp.length * 2) F) := HV.out.below hgw hbx
        have m0 := V2.out (i * 2) (by omega)
        have m1 := V2.out (i * 2 + 1) (by omega)
        clear hb2 hbx c0 c1
        by_cases hq : p2 = -1
        · have hd : decide (p2 = -1) = true := by simp [hq]
          have HN : Hid (rtN sp (j + 1) = rtN sp j) := by show _ = _; rw [hsj.out _ rfl, if_pos hq]
          clear hq
          rw [hd]
          go_wp2_with fail
          refine ⟨⟨j + 1, i, F, by omega, by go_num, rfl, by omega, by rw [HN.out]; exact HL.out, V2.out, by rw [HN.out]; exact H1.out, fun x hx hx2 => H2.out x (by omega) hx2, B2.out, by omega, by omega⟩, by simp [intOf]; omega⟩
        · have hd : decide (p2 = -1) = false := by simp [hq]
          have HN : Hid (rtN sp (j + 1) = rtN sp j ++ [(p1, p2)]) := by show _ = _; rw [hsj.out _ rfl, if_neg hq]
          clear hq
          rw [hd]
          go_wp2_with fail
          refine ⟨⟨j + 1, i + 1, _, by omega, by go_num, by go_num, by omega, by rw [HN.out]; simp [HL.out], (V2.out.set _ _).set _ _, ?_, ?_, (B2.out.setCell (by simpa using hgB.out) _).setCell (by simpa using hgB.out) _, by simp; omega, by simp; omega⟩, by simp [intOf]; omega⟩
          · rw [HN.out]
            intro x hx
            by_cases e : x = i
            · subst e
              have el : x = (rtN sp j).length := HL.out.symm
              rw [putV_other _ _ _ _ (by omega), putV_same, putV_same]
              rw [show spAt (rtN sp j ++ [(p1, p2)]) x = (p1, p2) by rw [el]; exact spAt_app_last _ _]
              exact ⟨rfl, rfl⟩
            · have hx' : x < i := by omega
              rw [spAt_app _ _ _ (by rw [HL.out]; exact hx'), putV_other _ _ _ _ (by omega), putV_other _ _ _ _ (by omega), putV_other _ _ _ _ (by omega), putV_other _ _ _ _ (by omega)]
              exact H1.out x hx'
          · intro x hx hx2
            rw [putV_other _ _ _ _ (by omega), putV_other _ _ _ _ (by omega), putV_other _ _ _ _ (by omega), putV_other _ _ _ _ (by omega)]
            exact H2.out x (by omega) hx2
      · obtain rfl : j = sp.length := by omega
        have hcl : ∀ ty, (Builtin.clear_ #[ 57 ] ty #[.slice (some ⟨g, i * 2, none⟩) (sp.length - i) (cap - i)]).run Try.prog wr = .ok (.tuple #[]) (wr.setCells g (i * 2) (List.replicate ((sp.length - i) * 2) (.int .i64 0))) := fun ty => run_clear_two wr _ _ ty sps_under Try.zeroValue61 g (i * 2) (sp.length - i) (cap - i) (by omega)
          (fun x hx => by rw [(hV (i * 2 + x) (by omega)).1]; rfl) (fun x hx => (hV (i * 2 + x) (by omega)).2)
        have q1 : i ≤ sp.length := by omega
        have q2 : i ≤ cap := by omega
        have q3 : ¬ cap = i := by omega
        have q4 : (i : Int) ≤ (sp.length : Int) := by omega
        have q5 : (i : Int) ≤ (cap : Int) := by omega
        have q6 : (0 : Int) ≤ (i : Int) := Int.natCast_nonneg _
        clear hV hF1 hF2 hbw hlen
        go_wp2_with fail
        go_ret
        refine ⟨_, cap, g, by rw [HL.out]; rfl, ⟨fun _ => rfl, fun _ => ?_, fun x hx => ?_⟩, below_setCells g hgB.out _ _ _ HB.out⟩
        · have := below_setCells (w0 := wr) (B := 0) g (Nat.zero_le _) (List.replicate ((sp.length - i) * 2) (.int .i64 0)) (i * 2) wr (Below.refl _ _)
          exact Nat.lt_of_lt_of_le hgw this.size
        · rw [HL.out] at hx
          obtain ⟨y0, y1⟩ := H1.out x hx
          rw [World.cell?_setCells_out g _ _ _ ⟨g, x * 2, none⟩ (fun _ _ => Or.inl (by show x * 2 < i * 2; omega)), World.cell?_setCells_out g _ _ _ ⟨g, x * 2 + 1, none⟩ (fun _ _ => Or.inl (by show x * 2 + 1 < i * 2; omega)), (HV.out (x * 2) (by omega)).1, (HV.out (x * 2 + 1) (by omega)).1, y0, y1]
          exact ⟨rfl, rfl⟩
end Go.Proofs.Ytgbfippcnmpgfaa
