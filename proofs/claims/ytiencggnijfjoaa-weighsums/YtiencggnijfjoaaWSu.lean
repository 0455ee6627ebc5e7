
/- Layer 17: the law WeighSums. -/

import Derived.Test.YtiencggnijfjoaaWRf4

namespace Go.Proofs.Ytiencggnijfjoaa

open Go.RowKit

attribute [local go_sem ↓] Go.wp_at_zero Go.wp_at_succ

theorem isEq_self (a : List Int) : isEq a a = true := by unfold isEq; simp
set_option maxRecDepth 100000 in
set_option maxHeartbeats 8000000 in
theorem weighSums_any (bT : Option Addr) (b o cT : Nat) (t : NL) (bw : Option Addr) (cw : Nat) (W : List Int) (key nn : Int) (w : World) (h : NodesAt w bT b o t) (hTn : bT = none → t.length = 0 ∧ cT = 0) (hTb : t.length * 48 ≤ 140737488355328) (hnn : nn ≤ 9223372036854775807) :
    Calls Try.prog 3 #[.agg #[.slice bT t.length cT, .slice bw W.length cw, .int .i64 key, .int .i64 nn]] w fun e w' => e = .returned (.bool true) ∧ Below w.heap.size w w' := by
  have HTN : Hid (bT = none → t.length = 0 ∧ cT = 0) := hTn
  obtain ⟨k, hk⟩ := keyed_of t
  have HK : Hid (Keyed t k) := hk
  generalize hW1 : w.alloc (.cells #[.slice bT t.length cT, .slice bw W.length cw, .int .i64 key, .int .i64 nn] 25) = W1
  have hs1 : W1.heap.size = w.heap.size + 1 := by rw [← hW1]; simp
  have hb1 : Below w.heap.size w W1 := by rw [← hW1]; exact below_alloc _ _
  have hbk : W1.heap[w.heap.size]? = some (.cells #[.slice bT t.length cT, .slice bw W.length cw, .int .i64 key, .int .i64 nn] 25) := by rw [← hW1]; exact heap_alloc_at _ _ _ rfl
  have NT : Hid (∀ z, Below W1.heap.size W1 z → NodesAt z bT b o t) := fun z hz => (h.below hb1).below hz
  have CC : Hid (∀ z, Below W1.heap.size W1 z → z.cell? ⟨w.heap.size, 0, none⟩ = some (.slice bT t.length cT) ∧ z.cell? ⟨w.heap.size, 2, none⟩ = some (.int .i64 key) ∧ z.cell? ⟨w.heap.size, 3, none⟩ = some (.int .i64 nn)) := fun z hz => by
    have e := (hz.block _ (by omega)).trans hbk
    exact ⟨by simp [World.cell?, e], by simp [World.cell?, e], by simp [World.cell?, e]⟩
  have BL : Hid (∀ z, Below W1.heap.size W1 z → Below w.heap.size w z ∧ w.heap.size < z.heap.size) := fun z hz => ⟨hb1.trans (hz.mono hb1.size), by have := hz.size; omega⟩
  clear h hTn hb1 hbk hk
  go_enter Try.func3, Try.ntmps3
  go_wp2_with fail
  clear hW1
  refine (fixed_any _).mono ?_
  rintro e w2 ⟨rfl, hb2⟩
  have H2 : Hid (Below W1.heap.size W1 w2) := hb2
  clear hb2
  have HNN : Hid (nn ≤ 9223372036854775807) := hnn
  have qE : (keyE t != keyE t) = false := by simp
  obtain ⟨e0, e1, e2⟩ := CC.out _ H2.out
  have lt2 := (BL.out _ H2.out).2
  go_wp2_with fail
  refine (copied_any bT b o cT t _ (NT.out _ H2.out) HTN.out hTb).mono ?_
  rintro e w3 ⟨v3, rfl, ho, hb⟩
  obtain ⟨a3, c3, g3, rfl, -, -, hn⟩ := nodes_of_owns ho
  have N3 : Hid (NodesAt w3 a3 g3 0 t) := hn
  have H3 : Hid (Below W1.heap.size W1 w3) := H2.out.trans (hb.mono H2.out.size)
  clear ho hn hb e0 e1 e2 lt2
  obtain ⟨e0, e1, e2⟩ := CC.out _ H3.out
  have lt3 := (BL.out _ H3.out).2
  go_wp2_with fail
  refine (Sums_any a3 g3 0 c3 t k _ N3.out HK.out).mono ?_
  rintro e w4 ⟨v4, rfl, ho, hb⟩
  obtain ⟨a4, c4, g4, rfl, -, -, hs⟩ := ws_of_owns ho
  have S4 : Hid (WsAt w4 a4 g4 0 (sumsO k)) := hs
  have H4 : Hid (Below W1.heap.size W1 w4) := H3.out.trans (hb.mono H3.out.size)
  clear ho hs hb e0 e1 e2 lt3
  obtain ⟨e0, e1, e2⟩ := CC.out _ H4.out
  have lt4 := (BL.out _ H4.out).2
  go_wp2_with fail
  refine (vSums_any bT b o cT t k _ (NT.out _ H4.out) HK.out).mono ?_
  rintro e w5 ⟨v5, rfl, ho, hb⟩
  obtain ⟨a5, c5, g5, rfl, -, -, hs⟩ := ws_of_owns ho
  have S5 : Hid (WsAt w5 a5 g5 0 (sumsO k)) := hs
  have S4' : Hid (WsAt w5 a4 g4 0 (sumsO k)) := S4.out.below hb
  have H5 : Hid (Below W1.heap.size W1 w5) := H4.out.trans (hb.mono H4.out.size)
  clear ho hs hb e0 e1 e2 lt4 S4
  generalize hLL : sumsO k = LL at S4' S5
  go_wp2_with fail
  refine (sameInts_any a4 a5 g4 0 c4 g5 0 c5 LL LL _ S4'.out S5.out).mono ?_
  rintro e w6 ⟨rfl, hb⟩
  rw [isEq_self]
  have H6 : Hid (Below W1.heap.size W1 w6) := H5.out.trans (hb.mono H5.out.size)
  clear hb
  obtain ⟨e0, e1, e2⟩ := CC.out _ H6.out
  have lt6 := (BL.out _ H6.out).2
  go_wp2_with fail
  refine (copied_any bT b o cT t _ (NT.out _ H6.out) HTN.out hTb).mono ?_
  rintro e w7 ⟨v7, rfl, ho, hb⟩
  obtain ⟨a7, c7, g7, rfl, -, -, hn⟩ := nodes_of_owns ho
  have N7 : Hid (NodesAt w7 a7 g7 0 t) := hn
  have H7 : Hid (Below W1.heap.size W1 w7) := H6.out.trans (hb.mono H6.out.size)
  clear ho hn hb e0 e1 e2 lt6
  obtain ⟨e0, e1, e2⟩ := CC.out _ H7.out
  have lt7 := (BL.out _ H7.out).2
  go_wp2_with fail
  refine (Even_any a7 g7 0 c7 t k _ N7.out HK.out).mono ?_
  rintro e w8 ⟨rfl, hb⟩
  have H8 : Hid (Below W1.heap.size W1 w8) := H7.out.trans (hb.mono H7.out.size)
  clear hb e0 e1 e2 lt7
  generalize hev1 : (if keyE t = 0 then evS (sumsO k) else 0) = xev1
  have Eev1 : Hid ((if keyE t = 0 then evS (sumsO k) else 0) = xev1) := hev1
  clear hev1
  generalize hev2 : (if keyE t = 0 then evB (sumsO k) else false) = xev2
  have Eev2 : Hid ((if keyE t = 0 then evB (sumsO k) else false) = xev2) := hev2
  clear hev2
  obtain ⟨e0, e1, e2⟩ := CC.out _ H8.out
  have lt8 := (BL.out _ H8.out).2
  go_wp2_with fail
  refine (vEven_any bT b o cT t k _ (NT.out _ H8.out) HK.out).mono ?_
  rintro e w9 ⟨rfl, hb⟩
  have H9 : Hid (Below W1.heap.size W1 w9) := H8.out.trans (hb.mono H8.out.size)
  clear hb e0 e1 e2 lt8
  rw [Eev1.out]
  have qev1 : (xev1 != xev1) = false := by simp
  have pev1 : (xev1 == xev1) = true := by simp
  rw [Eev2.out]
  have qev2 : (xev2 != xev2) = false := by simp
  have pev2 : (xev2 == xev2) = true := by simp
  obtain ⟨e0, e1, e2⟩ := CC.out _ H9.out
  have lt9 := (BL.out _ H9.out).2
  go_wp2_with fail
  refine (copied_any bT b o cT t _ (NT.out _ H9.out) HTN.out hTb).mono ?_
  rintro e w10 ⟨v10, rfl, ho, hb⟩
  obtain ⟨a10, c10, g10, rfl, -, -, hn⟩ := nodes_of_owns ho
  have N10 : Hid (NodesAt w10 a10 g10 0 t) := hn
  have H10 : Hid (Below W1.heap.size W1 w10) := H9.out.trans (hb.mono H9.out.size)
  clear ho hn hb e0 e1 e2 lt9
  obtain ⟨e0, e1, e2⟩ := CC.out _ H10.out
  have lt10 := (BL.out _ H10.out).2
  go_wp2_with fail
  refine (Sound_any a10 g10 0 c10 t k _ N10.out HK.out).mono ?_
  rintro e w11 ⟨rfl, hb⟩
  have H11 : Hid (Below W1.heap.size W1 w11) := H10.out.trans (hb.mono H10.out.size)
  clear hb e0 e1 e2 lt10
  generalize hsn : sndB t k = xsn
  have Esn : Hid (sndB t k = xsn) := hsn
  clear hsn
  obtain ⟨e0, e1, e2⟩ := CC.out _ H11.out
  have lt11 := (BL.out _ H11.out).2
  go_wp2_with fail
  refine (vSound_any bT b o cT t k _ (NT.out _ H11.out) HK.out).mono ?_
  rintro e w12 ⟨rfl, hb⟩
  have H12 : Hid (Below W1.heap.size W1 w12) := H11.out.trans (hb.mono H11.out.size)
  clear hb e0 e1 e2 lt11
  rw [Esn.out]
  have qsn : (xsn != xsn) = false := by simp
  have psn : (xsn == xsn) = true := by simp
  obtain ⟨e0, e1, e2⟩ := CC.out _ H12.out
  have lt12 := (BL.out _ H12.out).2
  go_wp2_with fail
  refine (copied_any bT b o cT t _ (NT.out _ H12.out) HTN.out hTb).mono ?_
  rintro e w13 ⟨v13, rfl, ho, hb⟩
  obtain ⟨a13, c13, g13, rfl, -, -, hn⟩ := nodes_of_owns ho
  have N13 : Hid (NodesAt w13 a13 g13 0 t) := hn
  have H13 : Hid (Below W1.heap.size W1 w13) := H12.out.trans (hb.mono H12.out.size)
  clear ho hn hb e0 e1 e2 lt12
  obtain ⟨e0, e1, e2⟩ := CC.out _ H13.out
  have lt13 := (BL.out _ H13.out).2
  go_wp2_with fail
  refine (Total_any a13 g13 0 c13 t _ N13.out).mono ?_
  rintro e w14 ⟨rfl, hb⟩
  have H14 : Hid (Below W1.heap.size W1 w14) := H13.out.trans (hb.mono H13.out.size)
  clear hb e0 e1 e2 lt13
  generalize hto : totN (keysA t) (keysA t).length = xto
  have Eto : Hid (totN (keysA t) (keysA t).length = xto) := hto
  clear hto
  obtain ⟨e0, e1, e2⟩ := CC.out _ H14.out
  have lt14 := (BL.out _ H14.out).2
  go_wp2_with fail
  refine (vTotal_any bT b o cT t _ (NT.out _ H14.out)).mono ?_
  rintro e w15 ⟨rfl, hb⟩
  have H15 : Hid (Below W1.heap.size W1 w15) := H14.out.trans (hb.mono H14.out.size)
  clear hb e0 e1 e2 lt14
  rw [Eto.out]
  have qto : (xto != xto) = false := by simp
  have pto : (xto == xto) = true := by simp
  obtain ⟨e0, e1, e2⟩ := CC.out _ H15.out
  have lt15 := (BL.out _ H15.out).2
  go_wp2_with fail
  refine (copied_any bT b o cT t _ (NT.out _ H15.out) HTN.out hTb).mono ?_
  rintro e w16 ⟨v16, rfl, ho, hb⟩
  obtain ⟨a16, c16, g16, rfl, -, -, hn⟩ := nodes_of_owns ho
  have N16 : Hid (NodesAt w16 a16 g16 0 t) := hn
  have H16 : Hid (Below W1.heap.size W1 w16) := H15.out.trans (hb.mono H15.out.size)
  clear ho hn hb e0 e1 e2 lt15
  obtain ⟨e0, e1, e2⟩ := CC.out _ H16.out
  have lt16 := (BL.out _ H16.out).2
  go_wp2_with fail
  refine (Deep_any a16 g16 0 c16 t _ N16.out).mono ?_
  rintro e w17 ⟨rfl, hb⟩
  have H17 : Hid (Below W1.heap.size W1 w17) := H16.out.trans (hb.mono H16.out.size)
  clear hb e0 e1 e2 lt16
  generalize hde : deepA t = xde
  have Ede : Hid (deepA t = xde) := hde
  clear hde
  obtain ⟨e0, e1, e2⟩ := CC.out _ H17.out
  have lt17 := (BL.out _ H17.out).2
  go_wp2_with fail
  refine (vDeep_any bT b o cT t _ (NT.out _ H17.out)).mono ?_
  rintro e w18 ⟨rfl, hb⟩
  have H18 : Hid (Below W1.heap.size W1 w18) := H17.out.trans (hb.mono H17.out.size)
  clear hb e0 e1 e2 lt17
  rw [Ede.out]
  have qde : (xde != xde) = false := by simp
  have pde : (xde == xde) = true := by simp
  obtain ⟨e0, e1, e2⟩ := CC.out _ H18.out
  have lt18 := (BL.out _ H18.out).2
  go_wp2_with fail
  refine (Bound_any nn _ HNN.out).mono ?_
  rintro e w19 ⟨rfl, hb⟩
  have H19 : Hid (Below W1.heap.size W1 w19) := H18.out.trans (hb.mono H18.out.size)
  clear hb e0 e1 e2 lt18
  obtain ⟨e0, e1, e2⟩ := CC.out _ H19.out
  have lt19 := (BL.out _ H19.out).2
  go_wp2_with fail
  refine (vBound_any nn _ HNN.out).mono ?_
  rintro e w20 ⟨rfl, hb⟩
  have H20 : Hid (Below W1.heap.size W1 w20) := H19.out.trans (hb.mono H19.out.size)
  clear hb e0 e1 e2 lt19
  have qb1 : (bndA nn != bndA nn) = false := by simp
  have qb2 : (bndE nn != bndE nn) = false := by simp
  generalize bndA nn = xb1 at *
  generalize bndE nn = xb2 at *
  obtain ⟨e0, e1, e2⟩ := CC.out _ H20.out
  have lt20 := (BL.out _ H20.out).2
  go_wp2_with fail
  refine (copied_any bT b o cT t _ (NT.out _ H20.out) HTN.out hTb).mono ?_
  rintro e w21 ⟨v21, rfl, ho, hb⟩
  obtain ⟨a21, c21, g21, rfl, -, -, hn⟩ := nodes_of_owns ho
  have N21 : Hid (NodesAt w21 a21 g21 0 t) := hn
  have H21 : Hid (Below W1.heap.size W1 w21) := H20.out.trans (hb.mono H20.out.size)
  clear ho hn hb e0 e1 e2 lt20
  obtain ⟨e0, e1, e2⟩ := CC.out _ H21.out
  have lt21 := (BL.out _ H21.out).2
  go_wp2_with fail
  refine (Fits_any a21 g21 0 c21 t _ N21.out).mono ?_
  rintro e w22 ⟨rfl, hb⟩
  have H22 : Hid (Below W1.heap.size W1 w22) := H21.out.trans (hb.mono H21.out.size)
  clear hb e0 e1 e2 lt21
  generalize hfi : fitA t = xfi
  have Efi : Hid (fitA t = xfi) := hfi
  clear hfi
  obtain ⟨e0, e1, e2⟩ := CC.out _ H22.out
  have lt22 := (BL.out _ H22.out).2
  go_wp2_with fail
  refine (vFits_any bT b o cT t _ (NT.out _ H22.out)).mono ?_
  rintro e w23 ⟨rfl, hb⟩
  have H23 : Hid (Below W1.heap.size W1 w23) := H22.out.trans (hb.mono H22.out.size)
  clear hb e0 e1 e2 lt22
  rw [Efi.out]
  have qfi : (xfi != xfi) = false := by simp
  have pfi : (xfi == xfi) = true := by simp
  have pE : (keyE t == keyE t) = true := by simp
  go_wp2_with fail
  go_ret
  exact ⟨rfl, (BL.out _ H23.out).1⟩
end Go.Proofs.Ytiencggnijfjoaa
