
/- Layer 28: the document's Tell of a Range, and of every other kind. -/

import Derived.Test.YtgiblcieplnncaaGreatDoorHRf2

namespace Go.Proofs.YtgiblcieplnncaaGreatDoor

open Go.RowKit

attribute [local go_sem ↓] Go.wp_at_zero Go.wp_at_succ

set_option maxRecDepth 100000 in
set_option maxHeartbeats 4000000 in
theorem rTell_9t (kd : Int) (th ky vl hh rk rv : Int) (pb : Option Addr) (pc n : Nat) (w : World) (hth : In64 th) (hrk : In64 rk) (hrv : In64 rv) (hin : OpIn ⟨kd, ky, vl, hh⟩) (L : List UInt8) (hL : opL ⟨kd, ky, vl, hh⟩ = L) (hLl : L.length ≤ 60) (pg po : Nat) (ps : PL) (hp : PairsAt w pb pg po ps) (hn : n = ps.length) (hpi : ∀ i, i < ps.length → In64 (keyAt ps i) ∧ In64 (valAt ps i)) (hnl : n ≤ 1048576) (hkd : kd < 1 ∨ 8 < kd) (hne : L ≠ []) :
    Calls Tryz.prog 12 #[.agg #[.int .i64 th, .bool true, .int .i64 kd, .int .i64 ky, .int .i64 vl, .int .i64 hh, .bool true, .int .i64 rk, .int .i64 rv, .slice pb n pc]] w fun e w' => e = .returned (.string ⟨(116 :: Lib.itoa th ++ 32 :: L ++ [32, 45, 62, 32, 121, 101, 115] ++ blkL (ps.map pairT)).toArray⟩) ∧ Below w.heap.size w w' := by
  have HIN : Hid (OpIn ⟨kd, ky, vl, hh⟩) := hin
  have HTH : Hid (In64 th) := hth
  have HRK : Hid (In64 rk) := hrk
  have HRV : Hid (In64 rv) := hrv
  have HOL : Hid (opL ⟨kd, ky, vl, hh⟩ = L) := hL
  have l1 := itoa_le hth
  have l2 := itoa_le hrv
  have l3 := itoa_le hin.1
  have l4 := pairT_len (p := (rk, rv)) hrk hrv
  have B0 : Hid (Below (w.alloc (.cells #[.int .i64 th, .bool true, .int .i64 kd, .int .i64 ky, .int .i64 vl, .int .i64 hh, .bool true, .int .i64 rk, .int .i64 rv, .slice pb n pc] 39)).heap.size (w.alloc (.cells #[.int .i64 th, .bool true, .int .i64 kd, .int .i64 ky, .int .i64 vl, .int .i64 hh, .bool true, .int .i64 rk, .int .i64 rv, .slice pb n pc] 39)) (w.alloc (.cells #[.int .i64 th, .bool true, .int .i64 kd, .int .i64 ky, .int .i64 vl, .int .i64 hh, .bool true, .int .i64 rk, .int .i64 rv, .slice pb n pc] 39))) := Below.refl _ _
  clear hth hrk hrv hin hL
  have hne' : (L == []) = false := by simpa using hne
  clear hne
  have e1 : (kd == 1) = false := by simp; omega
  have e2 : (kd == 2) = false := by simp; omega
  have e3 : (kd == 3) = false := by simp; omega
  have e4 : (kd == 4) = false := by simp; omega
  have e5 : (kd == 5) = false := by simp; omega
  have e6 : (kd == 6) = false := by simp; omega
  have e7 : (kd == 7) = false := by simp; omega
  have e8 : (kd == 8) = false := by simp; omega
  have HP : Hid (PairsAt w pb pg po ps) := hp
  have HN : Hid (n = ps.length) := hn
  have HPI : Hid (∀ i, i < ps.length → In64 (keyAt ps i) ∧ In64 (valAt ps i)) := hpi
  have n1 : n ≤ 1048576 := hnl
  clear hp hn hpi hnl hkd
  go_enter Tryz.func12, Tryz.ntmps12
  go_wp2_with (first | (go_at_call 7; have q := B0; refine (rPrintOp_any ⟨kd, ky, vl, hh⟩ HIN.out _).mono ?_; rintro e z1 ⟨rfl, hb1⟩; rw [HOL.out]; have B1 : Hid (Below (w.alloc (.cells #[.int .i64 th, .bool true, .int .i64 kd, .int .i64 ky, .int .i64 vl, .int .i64 hh, .bool true, .int .i64 rk, .int .i64 rv, .slice pb n pc] 39)).heap.size (w.alloc (.cells #[.int .i64 th, .bool true, .int .i64 kd, .int .i64 ky, .int .i64 vl, .int .i64 hh, .bool true, .int .i64 rk, .int .i64 rv, .slice pb n pc] 39)) z1) := B0.out.trans (hb1.mono B0.out.size); obtain ⟨c0, c1, c2, c3, c4, c5, c6, c7, c8, c9⟩ := box10 B1.out; clear hb1; clear q B0) | (go_at_call 18; have q := B1; refine (number_any _ HTH.out _).mono ?_; rintro e z3 ⟨rfl, hb3⟩; have B3 : Hid (Below (w.alloc (.cells #[.int .i64 th, .bool true, .int .i64 kd, .int .i64 ky, .int .i64 vl, .int .i64 hh, .bool true, .int .i64 rk, .int .i64 rv, .slice pb n pc] 39)).heap.size (w.alloc (.cells #[.int .i64 th, .bool true, .int .i64 kd, .int .i64 ky, .int .i64 vl, .int .i64 hh, .bool true, .int .i64 rk, .int .i64 rv, .slice pb n pc] 39)) z3) := B1.out.trans (hb3.mono B1.out.size); obtain ⟨c0, c1, c2, c3, c4, c5, c6, c7, c8, c9⟩ := box10 B3.out; clear hb3; clear q B1))
  obtain ⟨S, hS⟩ : ∃ S : List UInt8, S = 116 :: Lib.itoa th ++ 32 :: L ++ [32, 45, 62, 32, 121, 101, 115] := ⟨_, rfl⟩
  have HS : Hid (S = 116 :: Lib.itoa th ++ 32 :: L ++ [32, 45, 62, 32, 121, 101, 115]) := hS
  have sl : S.length ≤ 200 := by rw [hS]; simp; omega
  go_loopw [4, 70] (fun vs vi wr => ∃ j : Nat, j ≤ n ∧ vi = .int .i64 j ∧ vs = .string ⟨(S ++ blkL ((ps.take j).map pairT)).toArray⟩ ∧ Below (w.alloc (.cells #[.int .i64 th, .bool true, .int .i64 kd, .int .i64 ky, .int .i64 vl, .int .i64 hh, .bool true, .int .i64 rk, .int .i64 rv, .slice pb n pc] 39)).heap.size (w.alloc (.cells #[.int .i64 th, .bool true, .int .i64 kd, .int .i64 ky, .int .i64 vl, .int .i64 hh, .bool true, .int .i64 rk, .int .i64 rv, .slice pb n pc] 39)) wr) (fun _ vi _ => n - (intOf vi).toNat)
  case atStart => exact ⟨0, Nat.zero_le _, rfl, by simp only [ba_app]; rw [HS.out]; simp [blkL], B3.out⟩
  case round =>
    obtain ⟨j, hj, rfl, rfl, hbr⟩ := hrel
    have BR : Hid (Below (w.alloc (.cells #[.int .i64 th, .bool true, .int .i64 kd, .int .i64 ky, .int .i64 vl, .int .i64 hh, .bool true, .int .i64 rk, .int .i64 rv, .slice pb n pc] 39)).heap.size (w.alloc (.cells #[.int .i64 th, .bool true, .int .i64 kd, .int .i64 ky, .int .i64 vl, .int .i64 hh, .bool true, .int .i64 rk, .int .i64 rv, .slice pb n pc] 39)) wr) := hbr
    have hwz := hbr.size
    have HSX : Hid (116 :: Lib.itoa th ++ 32 :: L ++ [32, 45, 62, 32, 121, 101, 115] = S) := HS.out.symm
    clear hbr hS HS
    have BW : Hid (Below w.heap.size w wr) := (below_alloc _ _).trans (BR.out.mono (by simp))
    have hLL : (S ++ blkL ((ps.take j).map pairT)).length ≤ 50000000 := by
      have h1 := blkL_len ((ps.take j).map pairT) (fun x hx => by
        obtain ⟨p, hp, rfl⟩ := List.mem_map.1 hx
        obtain ⟨i, hi, rfl⟩ := List.mem_iff_getElem.1 (List.mem_of_mem_take hp)
        have := HPI.out i hi
        simp only [keyAt, valAt, List.getD_eq_getElem?_getD, List.getElem?_eq_getElem hi, Option.getD_some] at this
        exact pairT_len this.1 this.2)
      have := HN.out
      simp at h1 ⊢
      omega
    by_cases hjn : j < n
    · have hjl : j < ps.length := by have := HN.out; omega
      have j0 : (0 : Int) ≤ (j : Int) := Int.natCast_nonneg _
      have j1 : (j : Int) < (n : Int) := by omega
      obtain rfl := HP.out.base (by omega)
      obtain ⟨d0, d1⟩ := (HP.out.below BW.out).cells j hjl
      have HPK : Hid (In64 (keyAt ps j)) := (HPI.out j hjl).1
      have HPV : Hid (In64 (valAt ps j)) := (HPI.out j hjl).2
      have HT : Hid (S ++ blkL ((ps.take (j + 1)).map pairT) = (S ++ blkL ((ps.take j).map pairT)) ++ 32 :: pairT (keyAt ps j, valAt ps j)) := by
        show _ = _
        rw [take_blk hjl, List.append_assoc]
      have lp := pairT_len (p := (keyAt ps j, valAt ps j)) HPK.out HPV.out
      generalize S ++ blkL ((ps.take j).map pairT) = L4 at *
      generalize keyAt ps j = pk at *
      generalize valAt ps j = pv at *
      clear hjn hjl
      go_wp2_with (first | (go_at_call 26; go_loud (refine (rpair_any _ _ HPK.out HPV.out _).mono ?_; rintro e z4 ⟨rfl, hb4⟩; have B4 : Hid (Below _ _ z4) := (BR.out.alloc BR.out.size _).trans (hb4.mono (BR.out.alloc BR.out.size _).size); clear hb4)))
      refine ⟨⟨j + 1, by omega, by go_num, ?_, B4.out⟩, by simp [intOf]; omega⟩
      rw [HT.out]
      simp only [ba_app]
      simp
    · obtain rfl : j = n := by omega
      have HT : Hid (ps.take j = ps) := by show _ = _; rw [HN.out, List.take_length]
      rw [HT.out] at hLL ⊢
      clear hjn
      go_wp2_with fail
      go_ret
      refine ⟨ret_str ?_, BW.out⟩
      rw [← HSX.out]
      simp
set_option maxRecDepth 100000 in
set_option maxHeartbeats 4000000 in
theorem rTell_bt (kd : Int) (th ky vl hh rk rv : Int) (pb : Option Addr) (pc n : Nat) (w : World) (hth : In64 th) (hrk : In64 rk) (hrv : In64 rv) (hin : OpIn ⟨kd, ky, vl, hh⟩) (L : List UInt8) (hL : opL ⟨kd, ky, vl, hh⟩ = L) (hLl : L.length ≤ 60) (pg po : Nat) (ps : PL) (hp : PairsAt w pb pg po ps) (hn : n = ps.length) (hpi : ∀ i, i < ps.length → In64 (keyAt ps i) ∧ In64 (valAt ps i)) (hnl : n ≤ 1048576) (hkd : kd < 1 ∨ 8 < kd) (he : L = []) :
    Calls Tryz.prog 12 #[.agg #[.int .i64 th, .bool true, .int .i64 kd, .int .i64 ky, .int .i64 vl, .int .i64 hh, .bool true, .int .i64 rk, .int .i64 rv, .slice pb n pc]] w fun e w' => e = .returned (.string ⟨(116 :: Lib.itoa th ++ 32 :: ([107, 105, 110, 100, 32] ++ Lib.itoa kd) ++ [32, 45, 62, 32, 121, 101, 115] ++ blkL (ps.map pairT)).toArray⟩) ∧ Below w.heap.size w w' := by
  have HIN : Hid (OpIn ⟨kd, ky, vl, hh⟩) := hin
  have HTH : Hid (In64 th) := hth
  have HRK : Hid (In64 rk) := hrk
  have HRV : Hid (In64 rv) := hrv
  have HOL : Hid (opL ⟨kd, ky, vl, hh⟩ = L) := hL
  have l1 := itoa_le hth
  have l2 := itoa_le hrv
  have l3 := itoa_le hin.1
  have l4 := pairT_len (p := (rk, rv)) hrk hrv
  have B0 : Hid (Below (w.alloc (.cells #[.int .i64 th, .bool true, .int .i64 kd, .int .i64 ky, .int .i64 vl, .int .i64 hh, .bool true, .int .i64 rk, .int .i64 rv, .slice pb n pc] 39)).heap.size (w.alloc (.cells #[.int .i64 th, .bool true, .int .i64 kd, .int .i64 ky, .int .i64 vl, .int .i64 hh, .bool true, .int .i64 rk, .int .i64 rv, .slice pb n pc] 39)) (w.alloc (.cells #[.int .i64 th, .bool true, .int .i64 kd, .int .i64 ky, .int .i64 vl, .int .i64 hh, .bool true, .int .i64 rk, .int .i64 rv, .slice pb n pc] 39))) := Below.refl _ _
  clear hth hrk hrv hin hL
  subst he
  have e1 : (kd == 1) = false := by simp; omega
  have e2 : (kd == 2) = false := by simp; omega
  have e3 : (kd == 3) = false := by simp; omega
  have e4 : (kd == 4) = false := by simp; omega
  have e5 : (kd == 5) = false := by simp; omega
  have e6 : (kd == 6) = false := by simp; omega
  have e7 : (kd == 7) = false := by simp; omega
  have e8 : (kd == 8) = false := by simp; omega
  have HP : Hid (PairsAt w pb pg po ps) := hp
  have HN : Hid (n = ps.length) := hn
  have HPI : Hid (∀ i, i < ps.length → In64 (keyAt ps i) ∧ In64 (valAt ps i)) := hpi
  have n1 : n ≤ 1048576 := hnl
  clear hp hn hpi hnl hkd
  go_enter Tryz.func12, Tryz.ntmps12
  go_wp2_with (first | (go_at_call 7; have q := B0; refine (rPrintOp_any ⟨kd, ky, vl, hh⟩ HIN.out _).mono ?_; rintro e z1 ⟨rfl, hb1⟩; rw [HOL.out]; have B1 : Hid (Below (w.alloc (.cells #[.int .i64 th, .bool true, .int .i64 kd, .int .i64 ky, .int .i64 vl, .int .i64 hh, .bool true, .int .i64 rk, .int .i64 rv, .slice pb n pc] 39)).heap.size (w.alloc (.cells #[.int .i64 th, .bool true, .int .i64 kd, .int .i64 ky, .int .i64 vl, .int .i64 hh, .bool true, .int .i64 rk, .int .i64 rv, .slice pb n pc] 39)) z1) := B0.out.trans (hb1.mono B0.out.size); obtain ⟨c0, c1, c2, c3, c4, c5, c6, c7, c8, c9⟩ := box10 B1.out; clear hb1; clear q B0) | (go_at_call 18; have q := B1; refine (number_any _ HIN.out.1 _).mono ?_; rintro e z2 ⟨rfl, hb2⟩; have B2 : Hid (Below (w.alloc (.cells #[.int .i64 th, .bool true, .int .i64 kd, .int .i64 ky, .int .i64 vl, .int .i64 hh, .bool true, .int .i64 rk, .int .i64 rv, .slice pb n pc] 39)).heap.size (w.alloc (.cells #[.int .i64 th, .bool true, .int .i64 kd, .int .i64 ky, .int .i64 vl, .int .i64 hh, .bool true, .int .i64 rk, .int .i64 rv, .slice pb n pc] 39)) z2) := B1.out.trans (hb2.mono B1.out.size); obtain ⟨c0, c1, c2, c3, c4, c5, c6, c7, c8, c9⟩ := box10 B2.out; clear hb2; clear q B1) | (go_at_call 18; have q := B2; refine (number_any _ HTH.out _).mono ?_; rintro e z3 ⟨rfl, hb3⟩; have B3 : Hid (Below (w.alloc (.cells #[.int .i64 th, .bool true, .int .i64 kd, .int .i64 ky, .int .i64 vl, .int .i64 hh, .bool true, .int .i64 rk, .int .i64 rv, .slice pb n pc] 39)).heap.size (w.alloc (.cells #[.int .i64 th, .bool true, .int .i64 kd, .int .i64 ky, .int .i64 vl, .int .i64 hh, .bool true, .int .i64 rk, .int .i64 rv, .slice pb n pc] 39)) z3) := B2.out.trans (hb3.mono B2.out.size); obtain ⟨c0, c1, c2, c3, c4, c5, c6, c7, c8, c9⟩ := box10 B3.out; clear hb3; clear q B2))
  obtain ⟨S, hS⟩ : ∃ S : List UInt8, S = 116 :: Lib.itoa th ++ 32 :: ([107, 105, 110, 100, 32] ++ Lib.itoa kd) ++ [32, 45, 62, 32, 121, 101, 115] := ⟨_, rfl⟩
  have HS : Hid (S = 116 :: Lib.itoa th ++ 32 :: ([107, 105, 110, 100, 32] ++ Lib.itoa kd) ++ [32, 45, 62, 32, 121, 101, 115]) := hS
  have sl : S.length ≤ 200 := by rw [hS]; simp; omega
  go_loopw [4, 70] (fun vs vi wr => ∃ j : Nat, j ≤ n ∧ vi = .int .i64 j ∧ vs = .string ⟨(S ++ blkL ((ps.take j).map pairT)).toArray⟩ ∧ Below (w.alloc (.cells #[.int .i64 th, .bool true, .int .i64 kd, .int .i64 ky, .int .i64 vl, .int .i64 hh, .bool true, .int .i64 rk, .int .i64 rv, .slice pb n pc] 39)).heap.size (w.alloc (.cells #[.int .i64 th, .bool true, .int .i64 kd, .int .i64 ky, .int .i64 vl, .int .i64 hh, .bool true, .int .i64 rk, .int .i64 rv, .slice pb n pc] 39)) wr) (fun _ vi _ => n - (intOf vi).toNat)
  case atStart => exact ⟨0, Nat.zero_le _, rfl, by simp only [ba_app]; rw [HS.out]; simp [blkL], B3.out⟩
  case round =>
    obtain ⟨j, hj, rfl, rfl, hbr⟩ := hrel
    have BR : Hid (Below (w.alloc (.cells #[.int .i64 th, .bool true, .int .i64 kd, .int .i64 ky, .int .i64 vl, .int .i64 hh, .bool true, .int .i64 rk, .int .i64 rv, .slice pb n pc] 39)).heap.size (w.alloc (.cells #[.int .i64 th, .bool true, .int .i64 kd, .int .i64 ky, .int .i64 vl, .int .i64 hh, .bool true, .int .i64 rk, .int .i64 rv, .slice pb n pc] 39)) wr) := hbr
    have hwz := hbr.size
    have HSX : Hid (116 :: Lib.itoa th ++ 32 :: ([107, 105, 110, 100, 32] ++ Lib.itoa kd) ++ [32, 45, 62, 32, 121, 101, 115] = S) := HS.out.symm
    clear hbr hS HS
    have BW : Hid (Below w.heap.size w wr) := (below_alloc _ _).trans (BR.out.mono (by simp))
    have hLL : (S ++ blkL ((ps.take j).map pairT)).length ≤ 50000000 := by
      have h1 := blkL_len ((ps.take j).map pairT) (fun x hx => by
        obtain ⟨p, hp, rfl⟩ := List.mem_map.1 hx
        obtain ⟨i, hi, rfl⟩ := List.mem_iff_getElem.1 (List.mem_of_mem_take hp)
        have := HPI.out i hi
        simp only [keyAt, valAt, List.getD_eq_getElem?_getD, List.getElem?_eq_getElem hi, Option.getD_some] at this
        exact pairT_len this.1 this.2)
      have := HN.out
      simp at h1 ⊢
      omega
    by_cases hjn : j < n
    · have hjl : j < ps.length := by have := HN.out; omega
      have j0 : (0 : Int) ≤ (j : Int) := Int.natCast_nonneg _
      have j1 : (j : Int) < (n : Int) := by omega
      obtain rfl := HP.out.base (by omega)
      obtain ⟨d0, d1⟩ := (HP.out.below BW.out).cells j hjl
      have HPK : Hid (In64 (keyAt ps j)) := (HPI.out j hjl).1
      have HPV : Hid (In64 (valAt ps j)) := (HPI.out j hjl).2
      have HT : Hid (S ++ blkL ((ps.take (j + 1)).map pairT) = (S ++ blkL ((ps.take j).map pairT)) ++ 32 :: pairT (keyAt ps j, valAt ps j)) := by
        show _ = _
        rw [take_blk hjl, List.append_assoc]
      have lp := pairT_len (p := (keyAt ps j, valAt ps j)) HPK.out HPV.out
      generalize S ++ blkL ((ps.take j).map pairT) = L4 at *
      generalize keyAt ps j = pk at *
      generalize valAt ps j = pv at *
      clear hjn hjl
      go_wp2_with (first | (go_at_call 26; go_loud (refine (rpair_any _ _ HPK.out HPV.out _).mono ?_; rintro e z4 ⟨rfl, hb4⟩; have B4 : Hid (Below _ _ z4) := (BR.out.alloc BR.out.size _).trans (hb4.mono (BR.out.alloc BR.out.size _).size); clear hb4)))
      refine ⟨⟨j + 1, by omega, by go_num, ?_, B4.out⟩, by simp [intOf]; omega⟩
      rw [HT.out]
      simp only [ba_app]
      simp
    · obtain rfl : j = n := by omega
      have HT : Hid (ps.take j = ps) := by show _ = _; rw [HN.out, List.take_length]
      rw [HT.out] at hLL ⊢
      clear hjn
      go_wp2_with fail
      go_ret
      refine ⟨ret_str ?_, BW.out⟩
      rw [← HSX.out]
      simp
set_option maxRecDepth 100000 in
set_option maxHeartbeats 4000000 in
theorem rTell_9f (kd : Int) (th ky vl hh rk rv : Int) (pb : Option Addr) (pc n : Nat) (w : World) (hth : In64 th) (hrk : In64 rk) (hrv : In64 rv) (hin : OpIn ⟨kd, ky, vl, hh⟩) (L : List UInt8) (hL : opL ⟨kd, ky, vl, hh⟩ = L) (hLl : L.length ≤ 60) (pg po : Nat) (ps : PL) (hp : PairsAt w pb pg po ps) (hn : n = ps.length) (hpi : ∀ i, i < ps.length → In64 (keyAt ps i) ∧ In64 (valAt ps i)) (hnl : n ≤ 1048576) (hkd : kd < 1 ∨ 8 < kd) (hne : L ≠ []) :
    Calls Tryz.prog 12 #[.agg #[.int .i64 th, .bool true, .int .i64 kd, .int .i64 ky, .int .i64 vl, .int .i64 hh, .bool false, .int .i64 rk, .int .i64 rv, .slice pb n pc]] w fun e w' => e = .returned (.string ⟨(116 :: Lib.itoa th ++ 32 :: L ++ [32, 45, 62, 32, 110, 111] ++ blkL (ps.map pairT)).toArray⟩) ∧ Below w.heap.size w w' := by
  have HIN : Hid (OpIn ⟨kd, ky, vl, hh⟩) := hin
  have HTH : Hid (In64 th) := hth
  have HRK : Hid (In64 rk) := hrk
  have HRV : Hid (In64 rv) := hrv
  have HOL : Hid (opL ⟨kd, ky, vl, hh⟩ = L) := hL
  have l1 := itoa_le hth
  have l2 := itoa_le hrv
  have l3 := itoa_le hin.1
  have l4 := pairT_len (p := (rk, rv)) hrk hrv
  have B0 : Hid (Below (w.alloc (.cells #[.int .i64 th, .bool true, .int .i64 kd, .int .i64 ky, .int .i64 vl, .int .i64 hh, .bool false, .int .i64 rk, .int .i64 rv, .slice pb n pc] 39)).heap.size (w.alloc (.cells #[.int .i64 th, .bool true, .int .i64 kd, .int .i64 ky, .int .i64 vl, .int .i64 hh, .bool false, .int .i64 rk, .int .i64 rv, .slice pb n pc] 39)) (w.alloc (.cells #[.int .i64 th, .bool true, .int .i64 kd, .int .i64 ky, .int .i64 vl, .int .i64 hh, .bool false, .int .i64 rk, .int .i64 rv, .slice pb n pc] 39))) := Below.refl _ _
  clear hth hrk hrv hin hL
  have hne' : (L == []) = false := by simpa using hne
  clear hne
  have e1 : (kd == 1) = false := by simp; omega
  have e2 : (kd == 2) = false := by simp; omega
  have e3 : (kd == 3) = false := by simp; omega
  have e4 : (kd == 4) = false := by simp; omega
  have e5 : (kd == 5) = false := by simp; omega
  have e6 : (kd == 6) = false := by simp; omega
  have e7 : (kd == 7) = false := by simp; omega
  have e8 : (kd == 8) = false := by simp; omega
  have HP : Hid (PairsAt w pb pg po ps) := hp
  have HN : Hid (n = ps.length) := hn
  have HPI : Hid (∀ i, i < ps.length → In64 (keyAt ps i) ∧ In64 (valAt ps i)) := hpi
  have n1 : n ≤ 1048576 := hnl
  clear hp hn hpi hnl hkd
  go_enter Tryz.func12, Tryz.ntmps12
  go_wp2_with (first | (go_at_call 7; have q := B0; refine (rPrintOp_any ⟨kd, ky, vl, hh⟩ HIN.out _).mono ?_; rintro e z1 ⟨rfl, hb1⟩; rw [HOL.out]; have B1 : Hid (Below (w.alloc (.cells #[.int .i64 th, .bool true, .int .i64 kd, .int .i64 ky, .int .i64 vl, .int .i64 hh, .bool false, .int .i64 rk, .int .i64 rv, .slice pb n pc] 39)).heap.size (w.alloc (.cells #[.int .i64 th, .bool true, .int .i64 kd, .int .i64 ky, .int .i64 vl, .int .i64 hh, .bool false, .int .i64 rk, .int .i64 rv, .slice pb n pc] 39)) z1) := B0.out.trans (hb1.mono B0.out.size); obtain ⟨c0, c1, c2, c3, c4, c5, c6, c7, c8, c9⟩ := box10 B1.out; clear hb1; clear q B0) | (go_at_call 18; have q := B1; refine (number_any _ HTH.out _).mono ?_; rintro e z3 ⟨rfl, hb3⟩; have B3 : Hid (Below (w.alloc (.cells #[.int .i64 th, .bool true, .int .i64 kd, .int .i64 ky, .int .i64 vl, .int .i64 hh, .bool false, .int .i64 rk, .int .i64 rv, .slice pb n pc] 39)).heap.size (w.alloc (.cells #[.int .i64 th, .bool true, .int .i64 kd, .int .i64 ky, .int .i64 vl, .int .i64 hh, .bool false, .int .i64 rk, .int .i64 rv, .slice pb n pc] 39)) z3) := B1.out.trans (hb3.mono B1.out.size); obtain ⟨c0, c1, c2, c3, c4, c5, c6, c7, c8, c9⟩ := box10 B3.out; clear hb3; clear q B1))
  obtain ⟨S, hS⟩ : ∃ S : List UInt8, S = 116 :: Lib.itoa th ++ 32 :: L ++ [32, 45, 62, 32, 110, 111] := ⟨_, rfl⟩
  have HS : Hid (S = 116 :: Lib.itoa th ++ 32 :: L ++ [32, 45, 62, 32, 110, 111]) := hS
  have sl : S.length ≤ 200 := by rw [hS]; simp; omega
  go_loopw [4, 70] (fun vs vi wr => ∃ j : Nat, j ≤ n ∧ vi = .int .i64 j ∧ vs = .string ⟨(S ++ blkL ((ps.take j).map pairT)).toArray⟩ ∧ Below (w.alloc (.cells #[.int .i64 th, .bool true, .int .i64 kd, .int .i64 ky, .int .i64 vl, .int .i64 hh, .bool false, .int .i64 rk, .int .i64 rv, .slice pb n pc] 39)).heap.size (w.alloc (.cells #[.int .i64 th, .bool true, .int .i64 kd, .int .i64 ky, .int .i64 vl, .int .i64 hh, .bool false, .int .i64 rk, .int .i64 rv, .slice pb n pc] 39)) wr) (fun _ vi _ => n - (intOf vi).toNat)
  case atStart => exact ⟨0, Nat.zero_le _, rfl, by simp only [ba_app]; rw [HS.out]; simp [blkL], B3.out⟩
  case round =>
    obtain ⟨j, hj, rfl, rfl, hbr⟩ := hrel
    have BR : Hid (Below (w.alloc (.cells #[.int .i64 th, .bool true, .int .i64 kd, .int .i64 ky, .int .i64 vl, .int .i64 hh, .bool false, .int .i64 rk, .int .i64 rv, .slice pb n pc] 39)).heap.size (w.alloc (.cells #[.int .i64 th, .bool true, .int .i64 kd, .int .i64 ky, .int .i64 vl, .int .i64 hh, .bool false, .int .i64 rk, .int .i64 rv, .slice pb n pc] 39)) wr) := hbr
    have hwz := hbr.size
    have HSX : Hid (116 :: Lib.itoa th ++ 32 :: L ++ [32, 45, 62, 32, 110, 111] = S) := HS.out.symm
    clear hbr hS HS
    have BW : Hid (Below w.heap.size w wr) := (below_alloc _ _).trans (BR.out.mono (by simp))
    have hLL : (S ++ blkL ((ps.take j).map pairT)).length ≤ 50000000 := by
      have h1 := blkL_len ((ps.take j).map pairT) (fun x hx => by
        obtain ⟨p, hp, rfl⟩ := List.mem_map.1 hx
        obtain ⟨i, hi, rfl⟩ := List.mem_iff_getElem.1 (List.mem_of_mem_take hp)
        have := HPI.out i hi
        simp only [keyAt, valAt, List.getD_eq_getElem?_getD, List.getElem?_eq_getElem hi, Option.getD_some] at this
        exact pairT_len this.1 this.2)
      have := HN.out
      simp at h1 ⊢
      omega
    by_cases hjn : j < n
    · have hjl : j < ps.length := by have := HN.out; omega
      have j0 : (0 : Int) ≤ (j : Int) := Int.natCast_nonneg _
      have j1 : (j : Int) < (n : Int) := by omega
      obtain rfl := HP.out.base (by omega)
      obtain ⟨d0, d1⟩ := (HP.out.below BW.out).cells j hjl
      have HPK : Hid (In64 (keyAt ps j)) := (HPI.out j hjl).1
      have HPV : Hid (In64 (valAt ps j)) := (HPI.out j hjl).2
      have HT : Hid (S ++ blkL ((ps.take (j + 1)).map pairT) = (S ++ blkL ((ps.take j).map pairT)) ++ 32 :: pairT (keyAt ps j, valAt ps j)) := by
        show _ = _
        rw [take_blk hjl, List.append_assoc]
      have lp := pairT_len (p := (keyAt ps j, valAt ps j)) HPK.out HPV.out
      generalize S ++ blkL ((ps.take j).map pairT) = L4 at *
      generalize keyAt ps j = pk at *
      generalize valAt ps j = pv at *
      clear hjn hjl
      go_wp2_with (first | (go_at_call 26; go_loud (refine (rpair_any _ _ HPK.out HPV.out _).mono ?_; rintro e z4 ⟨rfl, hb4⟩; have B4 : Hid (Below _ _ z4) := (BR.out.alloc BR.out.size _).trans (hb4.mono (BR.out.alloc BR.out.size _).size); clear hb4)))
      refine ⟨⟨j + 1, by omega, by go_num, ?_, B4.out⟩, by simp [intOf]; omega⟩
      rw [HT.out]
      simp only [ba_app]
      simp
    · obtain rfl : j = n := by omega
      have HT : Hid (ps.take j = ps) := by show _ = _; rw [HN.out, List.take_length]
      rw [HT.out] at hLL ⊢
      clear hjn
      go_wp2_with fail
      go_ret
      refine ⟨ret_str ?_, BW.out⟩
      rw [← HSX.out]
      simp
set_option maxRecDepth 100000 in
set_option maxHeartbeats 4000000 in
theorem rTell_bf (kd : Int) (th ky vl hh rk rv : Int) (pb : Option Addr) (pc n : Nat) (w : World) (hth : In64 th) (hrk : In64 rk) (hrv : In64 rv) (hin : OpIn ⟨kd, ky, vl, hh⟩) (L : List UInt8) (hL : opL ⟨kd, ky, vl, hh⟩ = L) (hLl : L.length ≤ 60) (pg po : Nat) (ps : PL) (hp : PairsAt w pb pg po ps) (hn : n = ps.length) (hpi : ∀ i, i < ps.length → In64 (keyAt ps i) ∧ In64 (valAt ps i)) (hnl : n ≤ 1048576) (hkd : kd < 1 ∨ 8 < kd) (he : L = []) :
    Calls Tryz.prog 12 #[.agg #[.int .i64 th, .bool true, .int .i64 kd, .int .i64 ky, .int .i64 vl, .int .i64 hh, .bool false, .int .i64 rk, .int .i64 rv, .slice pb n pc]] w fun e w' => e = .returned (.string ⟨(116 :: Lib.itoa th ++ 32 :: ([107, 105, 110, 100, 32] ++ Lib.itoa kd) ++ [32, 45, 62, 32, 110, 111] ++ blkL (ps.map pairT)).toArray⟩) ∧ Below w.heap.size w w' := by
  have HIN : Hid (OpIn ⟨kd, ky, vl, hh⟩) := hin
  have HTH : Hid (In64 th) := hth
  have HRK : Hid (In64 rk) := hrk
  have HRV : Hid (In64 rv) := hrv
  have HOL : Hid (opL ⟨kd, ky, vl, hh⟩ = L) := hL
  have l1 := itoa_le hth
  have l2 := itoa_le hrv
  have l3 := itoa_le hin.1
  have l4 := pairT_len (p := (rk, rv)) hrk hrv
  have B0 : Hid (Below (w.alloc (.cells #[.int .i64 th, .bool true, .int .i64 kd, .int .i64 ky, .int .i64 vl, .int .i64 hh, .bool false, .int .i64 rk, .int .i64 rv, .slice pb n pc] 39)).heap.size (w.alloc (.cells #[.int .i64 th, .bool true, .int .i64 kd, .int .i64 ky, .int .i64 vl, .int .i64 hh, .bool false, .int .i64 rk, .int .i64 rv, .slice pb n pc] 39)) (w.alloc (.cells #[.int .i64 th, .bool true, .int .i64 kd, .int .i64 ky, .int .i64 vl, .int .i64 hh, .bool false, .int .i64 rk, .int .i64 rv, .slice pb n pc] 39))) := Below.refl _ _
  clear hth hrk hrv hin hL
  subst he
  have e1 : (kd == 1) = false := by simp; omega
  have e2 : (kd == 2) = false := by simp; omega
  have e3 : (kd == 3) = false := by simp; omega
  have e4 : (kd == 4) = false := by simp; omega
  have e5 : (kd == 5) = false := by simp; omega
  have e6 : (kd == 6) = false := by simp; omega
  have e7 : (kd == 7) = false := by simp; omega
  have e8 : (kd == 8) = false := by simp; omega
  have HP : Hid (PairsAt w pb pg po ps) := hp
  have HN : Hid (n = ps.length) := hn
  have HPI : Hid (∀ i, i < ps.length → In64 (keyAt ps i) ∧ In64 (valAt ps i)) := hpi
  have n1 : n ≤ 1048576 := hnl
  clear hp hn hpi hnl hkd
  go_enter Tryz.func12, Tryz.ntmps12
  go_wp2_with (first | (go_at_call 7; have q := B0; refine (rPrintOp_any ⟨kd, ky, vl, hh⟩ HIN.out _).mono ?_; rintro e z1 ⟨rfl, hb1⟩; rw [HOL.out]; have B1 : Hid (Below (w.alloc (.cells #[.int .i64 th, .bool true, .int .i64 kd, .int .i64 ky, .int .i64 vl, .int .i64 hh, .bool false, .int .i64 rk, .int .i64 rv, .slice pb n pc] 39)).heap.size (w.alloc (.cells #[.int .i64 th, .bool true, .int .i64 kd, .int .i64 ky, .int .i64 vl, .int .i64 hh, .bool false, .int .i64 rk, .int .i64 rv, .slice pb n pc] 39)) z1) := B0.out.trans (hb1.mono B0.out.size); obtain ⟨c0, c1, c2, c3, c4, c5, c6, c7, c8, c9⟩ := box10 B1.out; clear hb1; clear q B0) | (go_at_call 18; have q := B1; refine (number_any _ HIN.out.1 _).mono ?_; rintro e z2 ⟨rfl, hb2⟩; have B2 : Hid (Below (w.alloc (.cells #[.int .i64 th, .bool true, .int .i64 kd, .int .i64 ky, .int .i64 vl, .int .i64 hh, .bool false, .int .i64 rk, .int .i64 rv, .slice pb n pc] 39)).heap.size (w.alloc (.cells #[.int .i64 th, .bool true, .int .i64 kd, .int .i64 ky, .int .i64 vl, .int .i64 hh, .bool false, .int .i64 rk, .int .i64 rv, .slice pb n pc] 39)) z2) := B1.out.trans (hb2.mono B1.out.size); obtain ⟨c0, c1, c2, c3, c4, c5, c6, c7, c8, c9⟩ := box10 B2.out; clear hb2; clear q B1) | (go_at_call 18; have q := B2; refine (number_any _ HTH.out _).mono ?_; rintro e z3 ⟨rfl, hb3⟩; have B3 : Hid (Below (w.alloc (.cells #[.int .i64 th, .bool true, .int .i64 kd, .int .i64 ky, .int .i64 vl, .int .i64 hh, .bool false, .int .i64 rk, .int .i64 rv, .slice pb n pc] 39)).heap.size (w.alloc (.cells #[.int .i64 th, .bool true, .int .i64 kd, .int .i64 ky, .int .i64 vl, .int .i64 hh, .bool false, .int .i64 rk, .int .i64 rv, .slice pb n pc] 39)) z3) := B2.out.trans (hb3.mono B2.out.size); obtain ⟨c0, c1, c2, c3, c4, c5, c6, c7, c8, c9⟩ := box10 B3.out; clear hb3; clear q B2))
  obtain ⟨S, hS⟩ : ∃ S : List UInt8, S = 116 :: Lib.itoa th ++ 32 :: ([107, 105, 110, 100, 32] ++ Lib.itoa kd) ++ [32, 45, 62, 32, 110, 111] := ⟨_, rfl⟩
  have HS : Hid (S = 116 :: Lib.itoa th ++ 32 :: ([107, 105, 110, 100, 32] ++ Lib.itoa kd) ++ [32, 45, 62, 32, 110, 111]) := hS
  have sl : S.length ≤ 200 := by rw [hS]; simp; omega
  go_loopw [4, 70] (fun vs vi wr => ∃ j : Nat, j ≤ n ∧ vi = .int .i64 j ∧ vs = .string ⟨(S ++ blkL ((ps.take j).map pairT)).toArray⟩ ∧ Below (w.alloc (.cells #[.int .i64 th, .bool true, .int .i64 kd, .int .i64 ky, .int .i64 vl, .int .i64 hh, .bool false, .int .i64 rk, .int .i64 rv, .slice pb n pc] 39)).heap.size (w.alloc (.cells #[.int .i64 th, .bool true, .int .i64 kd, .int .i64 ky, .int .i64 vl, .int .i64 hh, .bool false, .int .i64 rk, .int .i64 rv, .slice pb n pc] 39)) wr) (fun _ vi _ => n - (intOf vi).toNat)
  case atStart => exact ⟨0, Nat.zero_le _, rfl, by simp only [ba_app]; rw [HS.out]; simp [blkL], B3.out⟩
  case round =>
    obtain ⟨j, hj, rfl, rfl, hbr⟩ := hrel
    have BR : Hid (Below (w.alloc (.cells #[.int .i64 th, .bool true, .int .i64 kd, .int .i64 ky, .int .i64 vl, .int .i64 hh, .bool false, .int .i64 rk, .int .i64 rv, .slice pb n pc] 39)).heap.size (w.alloc (.cells #[.int .i64 th, .bool true, .int .i64 kd, .int .i64 ky, .int .i64 vl, .int .i64 hh, .bool false, .int .i64 rk, .int .i64 rv, .slice pb n pc] 39)) wr) := hbr
    have hwz := hbr.size
    have HSX : Hid (116 :: Lib.itoa th ++ 32 :: ([107, 105, 110, 100, 32] ++ Lib.itoa kd) ++ [32, 45, 62, 32, 110, 111] = S) := HS.out.symm
    clear hbr hS HS
    have BW : Hid (Below w.heap.size w wr) := (below_alloc _ _).trans (BR.out.mono (by simp))
    have hLL : (S ++ blkL ((ps.take j).map pairT)).length ≤ 50000000 := by
      have h1 := blkL_len ((ps.take j).map pairT) (fun x hx => by
        obtain ⟨p, hp, rfl⟩ := List.mem_map.1 hx
        obtain ⟨i, hi, rfl⟩ := List.mem_iff_getElem.1 (List.mem_of_mem_take hp)
        have := HPI.out i hi
        simp only [keyAt, valAt, List.getD_eq_getElem?_getD, List.getElem?_eq_getElem hi, Option.getD_some] at this
        exact pairT_len this.1 this.2)
      have := HN.out
      simp at h1 ⊢
      omega
    by_cases hjn : j < n
    · have hjl : j < ps.length := by have := HN.out; omega
      have j0 : (0 : Int) ≤ (j : Int) := Int.natCast_nonneg _
      have j1 : (j : Int) < (n : Int) := by omega
      obtain rfl := HP.out.base (by omega)
      obtain ⟨d0, d1⟩ := (HP.out.below BW.out).cells j hjl
      have HPK : Hid (In64 (keyAt ps j)) := (HPI.out j hjl).1
      have HPV : Hid (In64 (valAt ps j)) := (HPI.out j hjl).2
      have HT : Hid (S ++ blkL ((ps.take (j + 1)).map pairT) = (S ++ blkL ((ps.take j).map pairT)) ++ 32 :: pairT (keyAt ps j, valAt ps j)) := by
        show _ = _
        rw [take_blk hjl, List.append_assoc]
      have lp := pairT_len (p := (keyAt ps j, valAt ps j)) HPK.out HPV.out
      generalize S ++ blkL ((ps.take j).map pairT) = L4 at *
      generalize keyAt ps j = pk at *
      generalize valAt ps j = pv at *
      clear hjn hjl
      go_wp2_with (first | (go_at_call 26; go_loud (refine (rpair_any _ _ HPK.out HPV.out _).mono ?_; rintro e z4 ⟨rfl, hb4⟩; have B4 : Hid (Below _ _ z4) := (BR.out.alloc BR.out.size _).trans (hb4.mono (BR.out.alloc BR.out.size _).size); clear hb4)))
      refine ⟨⟨j + 1, by omega, by go_num, ?_, B4.out⟩, by simp [intOf]; omega⟩
      rw [HT.out]
      simp only [ba_app]
      simp
    · obtain rfl : j = n := by omega
      have HT : Hid (ps.take j = ps) := by show _ = _; rw [HN.out, List.take_length]
      rw [HT.out] at hLL ⊢
      clear hjn
      go_wp2_with fail
      go_ret
      refine ⟨ret_str ?_, BW.out⟩
      rw [← HSX.out]
      simp
end Go.Proofs.YtgiblcieplnncaaGreatDoor
