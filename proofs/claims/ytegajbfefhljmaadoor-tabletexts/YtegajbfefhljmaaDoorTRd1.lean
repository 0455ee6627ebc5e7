
/- Layer 16: the reader's take and number. -/

import Derived.Test.YtegajbfefhljmaaDoorTRdP

namespace Go.Proofs.YtegajbfefhljmaaDoor

open Go.RowKit

attribute [local go_sem ↓] Go.wp_at_zero Go.wp_at_succ

set_option maxRecDepth 100000 in
theorem take_any (B R : Nat) (l pl : List UInt8) (nv ov : Value) (N : NL) (O : List Nat) (w : World) (h : RdAt w B R l nv ov N O) :
    Calls Tryd.prog 31 #[.pointer (some ⟨R, 0, none⟩), .string ⟨pl.toArray⟩] w fun e w' => e = .returned (.bool (Lib.hasPrefix l pl)) ∧ RdAt w' B R (Lib.trimPrefix l pl) nv ov N O ∧ Turn (fun k => k = R) w w' := by
  have HR : Hid _ := h
  obtain ⟨c0, c1, c2, f0, f1, f2⟩ := h.cells
  have hlt := h.lt
  clear h
  go_enter Tryd.func31, Tryd.ntmps31
  go_wp2_with (first | (go_at_call 37; refine (cutPrefix_any _ _ _).mono ?_; rintro e w1 ⟨rfl, rfl⟩))
  go_ret
  exact ⟨rfl, HR.out.setRest _, (Turn.refl _ _).setCell R 0 _ rfl⟩

theorem atoi_below {w w' : World} (h : w' = w ∨ ∃ t, w' = Lib.bytesWorld w 5 t) : Below w.heap.size w w' := by
  rcases h with rfl | ⟨t, rfl⟩
  · exact Below.refl _ _
  · exact Go.Joins.below_bytesWorld _ _ _ _ (Nat.le_refl _)
theorem getElem_mk (l : List UInt8) (j : Nat) (h : j < (⟨l.toArray⟩ : ByteArray).size) : (⟨l.toArray⟩ : ByteArray)[j].toNat = (l.getD j 0).toNat := by
  have h' : j < l.length := h
  rw [List.getD_eq_getElem?_getD, List.getElem?_eq_getElem h']
  rfl
theorem numCh_iff (c : UInt8) : numCh c = true ↔ (c.toNat = 45 ∨ (48 ≤ c.toNat ∧ c.toNat ≤ 57)) := by
  unfold numCh
  simp
  constructor
  · rintro (h | h)
    · left; rw [h]; rfl
    · right; exact h
  · rintro (h | h)
    · left; exact UInt8.toNat_inj.1 h
    · right; exact h
set_option maxRecDepth 100000 in
set_option maxHeartbeats 2000000 in
theorem number_any (B R : Nat) (l : List UInt8) (nv ov : Value) (N : NL) (O : List Nat) (w : World) (h : RdAt w B R l nv ov N O) (hl : l.length ≤ 8000000) (hB : B ≤ w.heap.size) (hlaid : LaidB B w) :
    Calls Tryd.prog 38 #[.pointer (some ⟨R, 0, none⟩)] w fun e w' => ∃ v, e = .returned (.tuple #[.int .i64 v, .bool (numV l).isSome]) ∧ (∀ x, numV l = some x → v = x) ∧ RdAt w' B R (numR l) nv ov N O ∧ Turn (fun k => k = R) w w' := by
  have HR : Hid _ := h
  have HL : Hid _ := hlaid
  obtain ⟨c0, c1, c2, f0, f1, f2⟩ := h.cells
  have hlt := h.lt
  have hsz : (⟨l.toArray⟩ : ByteArray).size = l.length := by simp [ByteArray.size]
  have HSZ : Hid _ := hsz
  clear h hlaid
  go_enter Tryd.func38, Tryd.ntmps38
  go_wp2_with fail
  go_loopw [4] (fun i wr => ∃ j : Nat, j ≤ l.length ∧ i = .int .i64 j ∧ (∀ k, k < j → numCh (l.getD k 0) = true) ∧ w = wr) (fun i _ => l.length - (intOf i).toNat)
  case atStart => exact ⟨0, Nat.zero_le _, rfl, fun k hk => by omega, rfl⟩
  case round =>
    obtain ⟨j, hj, rfl, hall, rfl⟩ := hrel
    have HAL : Hid (∀ k, k < j → numCh (l.getD k 0) = true) := hall
    clear hall
    by_cases hlt1 : j < l.length
    · have j0 : (0 : Int) ≤ (j : Int) := Int.natCast_nonneg _
      have j1 : (j : Int) < (l.length : Int) := by omega
      have hge := getElem_mk l j (by rw [HSZ.out]; exact hlt1)
      have hch := numCh_iff (l.getD j 0)
      by_cases h45 : (l.getD j 0).toNat = 45
      · have HN : Hid (numCh (l.getD j 0) = true) := hch.2 (Or.inl h45)
        have hge' : (⟨l.toArray⟩ : ByteArray)[j].toNat = 45 := hge.trans h45
        clear hge hch h45
        go_wp2_with fail
        exact ⟨⟨j + 1, by omega, by go_num, fun k hk => by
          by_cases e : k = j
          · rw [e]; exact HN.out
          · exact HAL.out k (by omega), trivial⟩, by simp [intOf]; omega⟩
      · by_cases h48 : 48 ≤ (l.getD j 0).toNat ∧ (l.getD j 0).toNat ≤ 57
        · have HN : Hid (numCh (l.getD j 0) = true) := hch.2 (Or.inr h48)
          have g1 : (((⟨l.toArray⟩ : ByteArray)[j].toNat : Int) == 45) = false := by rw [hge]; exact beq_eq_false_iff_ne.2 (by omega)
          have g2 : (48 : Int) ≤ ((⟨l.toArray⟩ : ByteArray)[j].toNat : Int) := by rw [hge]; omega
          have g3 : ((⟨l.toArray⟩ : ByteArray)[j].toNat : Int) ≤ 57 := by rw [hge]; omega
          clear hge hch h45 h48
          go_wp2_with fail
          exact ⟨⟨j + 1, by omega, by go_num, fun k hk => by
            by_cases e : k = j
            · rw [e]; exact HN.out
            · exact HAL.out k (by omega), trivial⟩, by simp [intOf]; omega⟩
        · have HEND : Hid (j = l.length ∨ numCh (l.getD j 0) = false) := Or.inr (by
            cases hn : numCh (l.getD j 0) with
            | true => exact absurd (hch.1 hn) (by omega)
            | false => rfl)
          have g1 : (((⟨l.toArray⟩ : ByteArray)[j].toNat : Int) == 45) = false := by rw [hge]; exact beq_eq_false_iff_ne.2 (by omega)
          rcases Nat.lt_or_ge (l.getD j 0).toNat 48 with g0 | g0
          · have g2 : ((⟨l.toArray⟩ : ByteArray)[j].toNat : Int) < 48 := by rw [hge]; omega
            clear hge hch h45 h48 g0
            obtain ⟨hT, hRr⟩ := num_cut l j hj HAL.out HEND.out
            have HT : Hid (numT l = l.take j) := hT
            have HRr : Hid (numR l = l.drop j) := hRr
            have hx0 : (⟨l.toArray⟩ : ByteArray).extract 0 j = ⟨(l.take j).toArray⟩ := by rw [ByteArray.extract_mk]; simp
            have hx1 : (⟨l.toArray⟩ : ByteArray).extract j l.length = ⟨(l.drop j).toArray⟩ := by rw [ByteArray.extract_mk, List.take_of_length_le (by simp)]
            have hDl : (⟨(l.take j).toArray⟩ : ByteArray).size ≤ 8000000 := by show (l.take j).toArray.size ≤ _; simp; omega
            have HB0 : Hid (Below B w (w.setCell ⟨R, 0, none⟩ (.string ⟨(l.drop j).toArray⟩))) := (Below.refl B w).setCell HR.out.lo _
            have HR1 : Hid (RdAt (w.setCell ⟨R, 0, none⟩ (.string ⟨(l.drop j).toArray⟩)) B R (numR l) nv ov N O) := by
              show RdAt _ _ _ _ _ _ _ _
              rw [HRr.out]; exact HR.out.setRest _
            have HT1 : Hid (Turn (fun k => k = R) w (w.setCell ⟨R, 0, none⟩ (.string ⟨(l.drop j).toArray⟩))) := (Turn.refl _ w).setCell R 0 _ rfl
            clear hT hRr
            cases hat : Lib.atoiAll (l.take j) with
            | ok v =>
              have hbd := Lib.atoiAll_bounds hat
              by_cases hq : Lib.itoa v = l.take j
              · have F : Hid (numV l = some v) := by show numV l = _; unfold numV; rw [HT.out, hat]; simp only; rw [if_pos hq]
                have hqq : (Lib.itoa v == l.take j) = true := by simp [hq]
                have HAT : Hid (Lib.atoiAll (⟨(l.take j).toArray⟩ : ByteArray).data.toList = .ok v) := hat
                clear hat hq
                go_wp2_with (first | (go_at_call 44; refine (atoi_ok _ (by omega) v HAT.out _).mono ?_; rintro e w2 ⟨rfl, hw2⟩; have B2 : Hid (Below _ _ w2) := atoi_below hw2; clear hw2) | (go_at_call 45; refine (itoa_any v hbd.1 hbd.2 _ (HL.out _ (HB0.out.trans (B2.out.mono (by simpa using hB)))).tab).mono ?_; rintro e w3 ⟨rfl, kk, os, rfl⟩))
                go_ret2
                refine ⟨v, by rw [F.out]; rfl, fun x hx => ?_, ?_, ?_⟩
                · rw [F.out] at hx; exact Option.some.inj hx
                · exact (HR1.out.quiet B2.out).quiet (Lib.below_grow _ _ (Nat.le_refl _) _ _)
                · exact (HT1.out.trans (Turn.ofBelow B2.out)).trans (Turn.ofBelow (Lib.below_grow _ _ (Nat.le_refl _) _ _))
              · have F : Hid (numV l = none) := by show numV l = _; unfold numV; rw [HT.out, hat]; simp only; rw [if_neg hq]
                have hqq : (Lib.itoa v == l.take j) = false := by simp [hq]
                have HAT : Hid (Lib.atoiAll (⟨(l.take j).toArray⟩ : ByteArray).data.toList = .ok v) := hat
                clear hat hq
                go_wp2_with (first | (go_at_call 44; refine (atoi_ok _ (by omega) v HAT.out _).mono ?_; rintro e w2 ⟨rfl, hw2⟩; have B2 : Hid (Below _ _ w2) := atoi_below hw2; clear hw2) | (go_at_call 45; refine (itoa_any v hbd.1 hbd.2 _ (HL.out _ (HB0.out.trans (B2.out.mono (by simpa using hB)))).tab).mono ?_; rintro e w3 ⟨rfl, kk, os, rfl⟩))
                go_ret2
                refine ⟨v, by rw [F.out]; rfl, fun x hx => ?_, ?_, ?_⟩
                · rw [F.out] at hx; cases hx
                · exact (HR1.out.quiet B2.out).quiet (Lib.below_grow _ _ (Nat.le_refl _) _ _)
                · exact (HT1.out.trans (Turn.ofBelow B2.out)).trans (Turn.ofBelow (Lib.below_grow _ _ (Nat.le_refl _) _ _))
            | «syntax» =>
              have F : Hid (numV l = none) := by show numV l = _; unfold numV; rw [HT.out, hat]
              have HAT : Hid (Lib.atoiAll (⟨(l.take j).toArray⟩ : ByteArray).data.toList = .«syntax») := hat
              obtain ⟨tp, pp, hvar⟩ := (HL.out _ HB0.out).syn
              have HVar : Hid _ := hvar
              clear hat hvar
              go_wp2_with (first | (go_at_call 44; refine (atoi_syntax _ (by omega) HAT.out tp pp _ HVar.out).mono ?_; rintro e w2 ⟨nn, rfl, -, -, hb2⟩; have B2 : Hid _ := hb2; clear hb2))
              go_ret2
              refine ⟨_, by rw [F.out]; rfl, fun x hx => ?_, HR1.out.quiet B2.out, HT1.out.trans (Turn.ofBelow B2.out)⟩
              rw [F.out] at hx; cases hx
            | range =>
              have F : Hid (numV l = none) := by show numV l = _; unfold numV; rw [HT.out, hat]
              have HAT : Hid (Lib.atoiAll (⟨(l.take j).toArray⟩ : ByteArray).data.toList = .range) := hat
              obtain ⟨tp, pp, hvar⟩ := (HL.out _ HB0.out).rng
              have HVar : Hid _ := hvar
              clear hat hvar
              go_wp2_with (first | (go_at_call 44; refine (atoi_range _ (by omega) HAT.out tp pp _ HVar.out).mono ?_; rintro e w2 ⟨nn, rfl, -, -, hb2⟩; have B2 : Hid _ := hb2; clear hb2))
              go_ret2
              refine ⟨_, by rw [F.out]; rfl, fun x hx => ?_, HR1.out.quiet B2.out, HT1.out.trans (Turn.ofBelow B2.out)⟩
              rw [F.out] at hx; cases hx
          · have g2 : (48 : Int) ≤ ((⟨l.toArray⟩ : ByteArray)[j].toNat : Int) := by rw [hge]; omega
            have g3 : (57 : Int) < ((⟨l.toArray⟩ : ByteArray)[j].toNat : Int) := by rw [hge]; omega
            clear hge hch h45 h48 g0
            obtain ⟨hT, hRr⟩ := num_cut l j hj HAL.out HEND.out
            have HT : Hid (numT l = l.take j) := hT
            have HRr : Hid (numR l = l.drop j) := hRr
            have hx0 : (⟨l.toArray⟩ : ByteArray).extract 0 j = ⟨(l.take j).toArray⟩ := by rw [ByteArray.extract_mk]; simp
            have hx1 : (⟨l.toArray⟩ : ByteArray).extract j l.length = ⟨(l.drop j).toArray⟩ := by rw [ByteArray.extract_mk, List.take_of_length_le (by simp)]
            have hDl : (⟨(l.take j).toArray⟩ : ByteArray).size ≤ 8000000 := by show (l.take j).toArray.size ≤ _; simp; omega
            have HB0 : Hid (Below B w (w.setCell ⟨R, 0, none⟩ (.string ⟨(l.drop j).toArray⟩))) := (Below.refl B w).setCell HR.out.lo _
            have HR1 : Hid (RdAt (w.setCell ⟨R, 0, none⟩ (.string ⟨(l.drop j).toArray⟩)) B R (numR l) nv ov N O) := by
              show RdAt _ _ _ _ _ _ _ _
              rw [HRr.out]; exact HR.out.setRest _
            have HT1 : Hid (Turn (fun k => k = R) w (w.setCell ⟨R, 0, none⟩ (.string ⟨(l.drop j).toArray⟩))) := (Turn.refl _ w).setCell R 0 _ rfl
            clear hT hRr
            cases hat : Lib.atoiAll (l.take j) with
            | ok v =>
              have hbd := Lib.atoiAll_bounds hat
              by_cases hq : Lib.itoa v = l.take j
              · have F : Hid (numV l = some v) := by show numV l = _; unfold numV; rw [HT.out, hat]; simp only; rw [if_pos hq]
                have hqq : (Lib.itoa v == l.take j) = true := by simp [hq]
                have HAT : Hid (Lib.atoiAll (⟨(l.take j).toArray⟩ : ByteArray).data.toList = .ok v) := hat
                clear hat hq
                go_wp2_with (first | (go_at_call 44; refine (atoi_ok _ (by omega) v HAT.out _).mono ?_; rintro e w2 ⟨rfl, hw2⟩; have B2 : Hid (Below _ _ w2) := atoi_below hw2; clear hw2) | (go_at_call 45; refine (itoa_any v hbd.1 hbd.2 _ (HL.out _ (HB0.out.trans (B2.out.mono (by simpa using hB)))).tab).mono ?_; rintro e w3 ⟨rfl, kk, os, rfl⟩))
                go_ret2
                refine ⟨v, by rw [F.out]; rfl, fun x hx => ?_, ?_, ?_⟩
                · rw [F.out] at hx; exact Option.some.inj hx
                · exact (HR1.out.quiet B2.out).quiet (Lib.below_grow _ _ (Nat.le_refl _) _ _)
                · exact (HT1.out.trans (Turn.ofBelow B2.out)).trans (Turn.ofBelow (Lib.below_grow _ _ (Nat.le_refl _) _ _))
              · have F : Hid (numV l = none) := by show numV l = _; unfold numV; rw [HT.out, hat]; simp only; rw [if_neg hq]
                have hqq : (Lib.itoa v == l.take j) = false := by simp [hq]
                have HAT : Hid (Lib.atoiAll (⟨(l.take j).toArray⟩ : ByteArray).data.toList = .ok v) := hat
                clear hat hq
                go_wp2_with (first | (go_at_call 44; refine (atoi_ok _ (by omega) v HAT.out _).mono ?_; rintro e w2 ⟨rfl, hw2⟩; have B2 : Hid (Below _ _ w2) := atoi_below hw2; clear hw2) | (go_at_call 45; refine (itoa_any v hbd.1 hbd.2 _ (HL.out _ (HB0.out.trans (B2.out.mono (by simpa using hB)))).tab).mono ?_; rintro e w3 ⟨rfl, kk, os, rfl⟩))
                go_ret2
                refine ⟨v, by rw [F.out]; rfl, fun x hx => ?_, ?_, ?_⟩
                · rw [F.out] at hx; cases hx
                · exact (HR1.out.quiet B2.out).quiet (Lib.below_grow _ _ (Nat.le_refl _) _ _)
                · exact (HT1.out.trans (Turn.ofBelow B2.out)).trans (Turn.ofBelow (Lib.below_grow _ _ (Nat.le_refl _) _ _))
            | «syntax» =>
              have F : Hid (numV l = none) := by show numV l = _; unfold numV; rw [HT.out, hat]
              have HAT : Hid (Lib.atoiAll (⟨(l.take j).toArray⟩ : ByteArray).data.toList = .«syntax») := hat
              obtain ⟨tp, pp, hvar⟩ := (HL.out _ HB0.out).syn
              have HVar : Hid _ := hvar
              clear hat hvar
              go_wp2_with (first | (go_at_call 44; refine (atoi_syntax _ (by omega) HAT.out tp pp _ HVar.out).mono ?_; rintro e w2 ⟨nn, rfl, -, -, hb2⟩; have B2 : Hid _ := hb2; clear hb2))
              go_ret2
              refine ⟨_, by rw [F.out]; rfl, fun x hx => ?_, HR1.out.quiet B2.out, HT1.out.trans (Turn.ofBelow B2.out)⟩
              rw [F.out] at hx; cases hx
            | range =>
              have F : Hid (numV l = none) := by show numV l = _; unfold numV; rw [HT.out, hat]
              have HAT : Hid (Lib.atoiAll (⟨(l.take j).toArray⟩ : ByteArray).data.toList = .range) := hat
              obtain ⟨tp, pp, hvar⟩ := (HL.out _ HB0.out).rng
              have HVar : Hid _ := hvar
              clear hat hvar
              go_wp2_with (first | (go_at_call 44; refine (atoi_range _ (by omega) HAT.out tp pp _ HVar.out).mono ?_; rintro e w2 ⟨nn, rfl, -, -, hb2⟩; have B2 : Hid _ := hb2; clear hb2))
              go_ret2
              refine ⟨_, by rw [F.out]; rfl, fun x hx => ?_, HR1.out.quiet B2.out, HT1.out.trans (Turn.ofBelow B2.out)⟩
              rw [F.out] at hx; cases hx
    · have HEND : Hid (j = l.length ∨ numCh (l.getD j 0) = false) := Or.inl (by omega)
      have j1 : (l.length : Int) ≤ (j : Int) := by omega
      obtain ⟨hT, hRr⟩ := num_cut l j hj HAL.out HEND.out
      have HT : Hid (numT l = l.take j) := hT
      have HRr : Hid (numR l = l.drop j) := hRr
      have hx0 : (⟨l.toArray⟩ : ByteArray).extract 0 j = ⟨(l.take j).toArray⟩ := by rw [ByteArray.extract_mk]; simp
      have hx1 : (⟨l.toArray⟩ : ByteArray).extract j l.length = ⟨(l.drop j).toArray⟩ := by rw [ByteArray.extract_mk, List.take_of_length_le (by simp)]
      have hDl : (⟨(l.take j).toArray⟩ : ByteArray).size ≤ 8000000 := by show (l.take j).toArray.size ≤ _; simp; omega
      have HB0 : Hid (Below B w (w.setCell ⟨R, 0, none⟩ (.string ⟨(l.drop j).toArray⟩))) := (Below.refl B w).setCell HR.out.lo _
      have HR1 : Hid (RdAt (w.setCell ⟨R, 0, none⟩ (.string ⟨(l.drop j).toArray⟩)) B R (numR l) nv ov N O) := by
        show RdAt _ _ _ _ _ _ _ _
        rw [HRr.out]; exact HR.out.setRest _
      have HT1 : Hid (Turn (fun k => k = R) w (w.setCell ⟨R, 0, none⟩ (.string ⟨(l.drop j).toArray⟩))) := (Turn.refl _ w).setCell R 0 _ rfl
      clear hT hRr
      cases hat : Lib.atoiAll (l.take j) with
      | ok v =>
        have hbd := Lib.atoiAll_bounds hat
        by_cases hq : Lib.itoa v = l.take j
        · have F : Hid (numV l = some v) := by show numV l = _; unfold numV; rw [HT.out, hat]; simp only; rw [if_pos hq]
          have hqq : (Lib.itoa v == l.take j) = true := by simp [hq]
          have HAT : Hid (Lib.atoiAll (⟨(l.take j).toArray⟩ : ByteArray).data.toList = .ok v) := hat
          clear hat hq
          go_wp2_with (first | (go_at_call 44; refine (atoi_ok _ (by omega) v HAT.out _).mono ?_; rintro e w2 ⟨rfl, hw2⟩; have B2 : Hid (Below _ _ w2) := atoi_below hw2; clear hw2) | (go_at_call 45; refine (itoa_any v hbd.1 hbd.2 _ (HL.out _ (HB0.out.trans (B2.out.mono (by simpa using hB)))).tab).mono ?_; rintro e w3 ⟨rfl, kk, os, rfl⟩))
          go_ret2
          refine ⟨v, by rw [F.out]; rfl, fun x hx => ?_, ?_, ?_⟩
          · rw [F.out] at hx; exact Option.some.inj hx
          · exact (HR1.out.quiet B2.out).quiet (Lib.below_grow _ _ (Nat.le_refl _) _ _)
          · exact (HT1.out.trans (Turn.ofBelow B2.out)).trans (Turn.ofBelow (Lib.below_grow _ _ (Nat.le_refl _) _ _))
        · have F : Hid (numV l = none) := by show numV l = _; unfold numV; rw [HT.out, hat]; simp only; rw [if_neg hq]
          have hqq : (Lib.itoa v == l.take j) = false := by simp [hq]
          have HAT : Hid (Lib.atoiAll (⟨(l.take j).toArray⟩ : ByteArray).data.toList = .ok v) := hat
          clear hat hq
          go_wp2_with (first | (go_at_call 44; refine (atoi_ok _ (by omega) v HAT.out _).mono ?_; rintro e w2 ⟨rfl, hw2⟩; have B2 : Hid (Below _ _ w2) := atoi_below hw2; clear hw2) | (go_at_call 45; refine (itoa_any v hbd.1 hbd.2 _ (HL.out _ (HB0.out.trans (B2.out.mono (by simpa using hB)))).tab).mono ?_; rintro e w3 ⟨rfl, kk, os, rfl⟩))
          go_ret2
          refine ⟨v, by rw [F.out]; rfl, fun x hx => ?_, ?_, ?_⟩
          · rw [F.out] at hx; cases hx
          · exact (HR1.out.quiet B2.out).quiet (Lib.below_grow _ _ (Nat.le_refl _) _ _)
          · exact (HT1.out.trans (Turn.ofBelow B2.out)).trans (Turn.ofBelow (Lib.below_grow _ _ (Nat.le_refl _) _ _))
      | «syntax» =>
        have F : Hid (numV l = none) := by show numV l = _; unfold numV; rw [HT.out, hat]
        have HAT : Hid (Lib.atoiAll (⟨(l.take j).toArray⟩ : ByteArray).data.toList = .«syntax») := hat
        obtain ⟨tp, pp, hvar⟩ := (HL.out _ HB0.out).syn
        have HVar : Hid _ := hvar
        clear hat hvar
        go_wp2_with (first | (go_at_call 44; refine (atoi_syntax _ (by omega) HAT.out tp pp _ HVar.out).mono ?_; rintro e w2 ⟨nn, rfl, -, -, hb2⟩; have B2 : Hid _ := hb2; clear hb2))
        go_ret2
        refine ⟨_, by rw [F.out]; rfl, fun x hx => ?_, HR1.out.quiet B2.out, HT1.out.trans (Turn.ofBelow B2.out)⟩
        rw [F.out] at hx; cases hx
      | range =>
        have F : Hid (numV l = none) := by show numV l = _; unfold numV; rw [HT.out, hat]
        have HAT : Hid (Lib.atoiAll (⟨(l.take j).toArray⟩ : ByteArray).data.toList = .range) := hat
        obtain ⟨tp, pp, hvar⟩ := (HL.out _ HB0.out).rng
        have HVar : Hid _ := hvar
        clear hat hvar
        go_wp2_with (first | (go_at_call 44; refine (atoi_range _ (by omega) HAT.out tp pp _ HVar.out).mono ?_; rintro e w2 ⟨nn, rfl, -, -, hb2⟩; have B2 : Hid _ := hb2; clear hb2))
        go_ret2
        refine ⟨_, by rw [F.out]; rfl, fun x hx => ?_, HR1.out.quiet B2.out, HT1.out.trans (Turn.ofBelow B2.out)⟩
        rw [F.out] at hx; cases hx
end Go.Proofs.YtegajbfefhljmaaDoor
