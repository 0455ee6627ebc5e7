
/- Layer 16: Graft of both, whole. -/

import Derived.Test.YtkioahkfjgbgdaaDoorTGrR

namespace Go.Proofs.YtkioahkfjgbgdaaDoor

open Go.RowKit

attribute [local go_sem ↓] Go.wp_at_zero Go.wp_at_succ

open Classical in
noncomputable def graE (t : NL) (p : Int) (u : NL) : Int := if sameE t u ≠ 0 then sameE t u else if 0 ≤ p ∧ p < t.length then (if 100000 < (graB t p.toNat u).size then 2 else 0) else 1
open Classical in
/-- Graft's answer. -/
noncomputable def graA (t : NL) (p : Int) (u : NL) : NL := if graE t p u = 0 then (graB t p.toNat u).lay 0 else []
theorem sameE_ok {t u : NL} (h1 : formE t = 0) (h2 : formE u = 0) : sameE t u = 0 := by unfold sameE; rw [if_pos h1, h2]
theorem sameE_two {t u : NL} (h : sameE t u = 0) : formE t = 0 ∧ formE u = 0 := by
  unfold sameE at h
  split at h
  · exact ⟨by assumption, h⟩
  · exact absurd h (by assumption)
set_option maxRecDepth 100000 in
set_option maxHeartbeats 1000000 in
theorem Graft_any (bt bu : Option Addr) (b o c b2 o2 c2 : Nat) (t u : NL) (p : Int) (w : World) (ht : NodesAt w bt b o t) (hu : NodesAt w bu b2 o2 u) :
    Calls Tryd.prog 7 #[.slice bt t.length c, .int .i64 p, .slice bu u.length c2] w fun e w' => ∃ v, e = .returned (.tuple #[v, .int .i64 (graE t p u)]) ∧ w'.ownsRow w.heap.size 40 6 v (graA t p u).length (ndCells (graA t p u)) ∧ Below w.heap.size w w' := by
  have HA : Hid (NodesAt _ _ _ _ _) := ht
  have HU : Hid (NodesAt _ _ _ _ _) := hu
  clear ht hu
  by_cases he : sameE t u = 0
  · obtain ⟨he1, he2⟩ := sameE_two he
    obtain ⟨hbt, hf⟩ := formE_ok he1
    obtain ⟨hbu, huf⟩ := formE_ok he2
    have hpos := hf.pos
    have hupos := huf.pos
    obtain rfl : bt = some ⟨b, o, none⟩ := HA.out.base (by omega)
    obtain rfl : bu = some ⟨b2, o2, none⟩ := HU.out.base (by omega)
    have HF : Hid (InForm t) := hf
    have HUF : Hid (InForm u) := huf
    have HE : Hid (sameE t u = 0) := he
    by_cases g1 : 0 ≤ p
    · by_cases g2 : p < t.length
      · obtain ⟨q, rfl⟩ := Int.eq_ofNat_of_zero_le g1
        have hq : q < t.length := by omega
        have d1 : decide ((q : Int) < 0) = false := decide_eq_false (by omega)
        have d2 : decide ((t.length : Int) ≤ (q : Int)) = false := decide_eq_false (by omega)
        have d2n : decide (t.length ≤ q) = false := decide_eq_false (by omega)
        have HS : Hid (0 < (graB t q u).size) := BT.size_pos _
        by_cases g3 : 100000 < (graB t q u).size
        · have FE : Hid (graE t (q : Int) u = 2) := by show graE t _ u = _; unfold graE; rw [if_neg (by simp [he]), if_pos ⟨g1, g2⟩, Int.toNat_natCast, if_pos g3]
          have F : Hid (graA t (q : Int) u = []) := by show graA t _ u = _; unfold graA; rw [FE.out]; rfl
          have d3 : decide ((100000 : Int) < ((graB t q u).size : Int)) = true := decide_eq_true (by omega)
          have d4 : decide (((graB t q u).size : Int) > 100000) = true := decide_eq_true (by omega)
          have d5 : (100000 : Int) < ((graB t q u).size : Int) := by omega
          clear he he1 he2 hf huf g1 g2 g3
          go_enter Tryd.func7, Tryd.ntmps7
          go_wp2_with (first | (go_at_call 25; refine (checkBoth_any _ _ b o c b2 o2 c2 t u _ HA.out HU.out).mono ?_; rintro e w1 ⟨rfl, hb1⟩; rw [HE.out]; have B1 : Hid (Below w.heap.size w w1) := hb1; clear hb1) | (go_at_call 26; refine (grafted_any b o c q b2 o2 c2 t u _ (HA.out.below B1.out) (HU.out.below B1.out) HF.out HUF.out hq hbt hbu).mono ?_; rintro e w2 ⟨v2, rfl, ho2, hb2⟩; obtain ⟨g5, c5, rfl, -, -, -, -, -, -⟩ := owns_some ho2 HS.out; have B2 : Hid (Below w.heap.size w w2) := B1.out.trans (hb2.mono B1.out.size); clear hb2 ho2))
          go_ret2
          refine ⟨_, by rw [FE.out]; rfl, ?_, B2.out⟩
          rw [F.out]
          exact World.ownsRow_nil _ _ _ _
        · have FE : Hid (graE t (q : Int) u = 0) := by show graE t _ u = _; unfold graE; rw [if_neg (by simp [he]), if_pos ⟨g1, g2⟩, Int.toNat_natCast, if_neg g3]
          have F : Hid (graA t (q : Int) u = (graB t q u).lay 0) := by show graA t _ u = _; unfold graA; rw [if_pos FE.out, Int.toNat_natCast]
          have d3 : decide ((100000 : Int) < ((graB t q u).size : Int)) = false := decide_eq_false (by omega)
          have d4 : decide (((graB t q u).size : Int) > 100000) = false := decide_eq_false (by omega)
          have d5 : ((graB t q u).size : Int) ≤ 100000 := by omega
          clear he he1 he2 hf huf g1 g2 g3
          go_enter Tryd.func7, Tryd.ntmps7
          go_wp2_with (first | (go_at_call 25; refine (checkBoth_any _ _ b o c b2 o2 c2 t u _ HA.out HU.out).mono ?_; rintro e w1 ⟨rfl, hb1⟩; rw [HE.out]; have B1 : Hid (Below w.heap.size w w1) := hb1; clear hb1) | (go_at_call 26; refine (grafted_any b o c q b2 o2 c2 t u _ (HA.out.below B1.out) (HU.out.below B1.out) HF.out HUF.out hq hbt hbu).mono ?_; rintro e w2 ⟨v2, rfl, ho2, hb2⟩; obtain ⟨g5, c5, rfl, -, -, -, -, -, -⟩ := owns_some ho2 HS.out; have O2 : Hid (World.ownsRow _ _ _ _ _ _ _) := owns_down ho2 B1.out.size; have B2 : Hid (Below w.heap.size w w2) := B1.out.trans (hb2.mono B1.out.size); clear hb2 ho2))
          go_ret2
          refine ⟨_, by rw [FE.out]; rfl, ?_, B2.out⟩
          rw [F.out, BT.lay_length]
          exact O2.out
      · have FE : Hid (graE t p u = 1) := by show graE t _ u = _; unfold graE; rw [if_neg (by simp [he]), if_neg (fun q => g2 q.2)]
        have F : Hid (graA t p u = []) := by show graA t _ u = _; unfold graA; rw [FE.out]; rfl
        have d1 : decide (p < 0) = false := decide_eq_false (by omega)
        have d2 : decide ((t.length : Int) ≤ p) = true := decide_eq_true (by omega)
        clear he he1 he2 hf huf g1 g2
        go_enter Tryd.func7, Tryd.ntmps7
        go_wp2_with (first | (go_at_call 25; refine (checkBoth_any _ _ b o c b2 o2 c2 t u _ HA.out HU.out).mono ?_; rintro e w1 ⟨rfl, hb1⟩; rw [HE.out]; have B1 : Hid (Below w.heap.size w w1) := hb1; clear hb1))
        go_ret2
        refine ⟨_, by rw [FE.out]; rfl, ?_, B1.out⟩
        rw [F.out]
        exact World.ownsRow_nil _ _ _ _
    · have FE : Hid (graE t p u = 1) := by show graE t _ u = _; unfold graE; rw [if_neg (by simp [he]), if_neg (fun q => g1 q.1)]
      have F : Hid (graA t p u = []) := by show graA t _ u = _; unfold graA; rw [FE.out]; rfl
      have d1 : decide (p < 0) = true := decide_eq_true (by omega)
      clear he he1 he2 hf huf g1
      go_enter Tryd.func7, Tryd.ntmps7
      go_wp2_with (first | (go_at_call 25; refine (checkBoth_any _ _ b o c b2 o2 c2 t u _ HA.out HU.out).mono ?_; rintro e w1 ⟨rfl, hb1⟩; rw [HE.out]; have B1 : Hid (Below w.heap.size w w1) := hb1; clear hb1))
      go_ret2
      refine ⟨_, by rw [FE.out]; rfl, ?_, B1.out⟩
      rw [F.out]
      exact World.ownsRow_nil _ _ _ _
  · have FE : Hid (graE t p u = sameE t u) := by show graE t _ u = _; unfold graE; rw [if_pos he]
    have F : Hid (graA t p u = []) := by show graA t _ u = _; unfold graA; rw [FE.out, if_neg he]
    obtain ⟨e1, e2⟩ := e_ne he
    clear he
    go_enter Tryd.func7, Tryd.ntmps7
    go_wp2_with (first | (go_at_call 25; refine (checkBoth_any _ _ b o c b2 o2 c2 t u _ HA.out HU.out).mono ?_; rintro e w1 ⟨rfl, hb1⟩; have B1 : Hid (Below w.heap.size w w1) := hb1; clear hb1))
    go_ret2
    refine ⟨_, by rw [FE.out]; rfl, ?_, B1.out⟩
    rw [F.out]
    exact World.ownsRow_nil _ _ _ _
set_option maxRecDepth 100000 in
set_option maxHeartbeats 1000000 in
theorem rGraft_any (bt bu : Option Addr) (b o c b2 o2 c2 : Nat) (t u : NL) (p : Int) (w : World) (ht : NodesAt w bt b o t) (hu : NodesAt w bu b2 o2 u) :
    Calls Tryd.prog 16 #[.slice bt t.length c, .int .i64 p, .slice bu u.length c2] w fun e w' => ∃ v, e = .returned (.tuple #[v, .int .i64 (graE t p u)]) ∧ w'.ownsRow w.heap.size 40 6 v (graA t p u).length (ndCells (graA t p u)) ∧ Below w.heap.size w w' := by
  have HA : Hid (NodesAt _ _ _ _ _) := ht
  have HU : Hid (NodesAt _ _ _ _ _) := hu
  clear ht hu
  by_cases he : sameE t u = 0
  · obtain ⟨he1, he2⟩ := sameE_two he
    obtain ⟨hbt, hf⟩ := formE_ok he1
    obtain ⟨hbu, huf⟩ := formE_ok he2
    have hpos := hf.pos
    have hupos := huf.pos
    obtain rfl : bt = some ⟨b, o, none⟩ := HA.out.base (by omega)
    obtain rfl : bu = some ⟨b2, o2, none⟩ := HU.out.base (by omega)
    have HF : Hid (InForm t) := hf
    have HUF : Hid (InForm u) := huf
    have HE : Hid (sameE t u = 0) := he
    have HE1 : Hid (formE t = 0) := he1
    have HE2 : Hid (formE u = 0) := he2
    have HK : Hid True := trivial
    by_cases g1 : 0 ≤ p
    · by_cases g2 : p < t.length
      · obtain ⟨q, rfl⟩ := Int.eq_ofNat_of_zero_le g1
        have hq : q < t.length := by omega
        have d1 : decide ((q : Int) < 0) = false := decide_eq_false (by omega)
        have d2 : decide ((t.length : Int) ≤ (q : Int)) = false := decide_eq_false (by omega)
        have d2n : decide (t.length ≤ q) = false := decide_eq_false (by omega)
        obtain ⟨L, Mq, -, -, hs, hMq, hlb⟩ := graft_ref hf huf hq
        have HMQ : Hid (Tree t q Mq) := hMq
        have hmp := hMq.pos
        have hml : Mq.length ≤ 1000000 := by have := BT.size_pos (graB t q u); omega
        have hsz : (t.length : Int) - (Mq.length : Int) + (u.length : Int) = ((graB t q u).size : Int) := by omega
        have hml2 : (Mq.length : Int) ≤ 200000 := by omega
        have hlt2 : (t.length : Int) ≤ 100000 := by omega
        have hlu2 : (u.length : Int) ≤ 100000 := by omega
        clear hMq
        by_cases g3 : 100000 < (graB t q u).size
        · have FE : Hid (graE t (q : Int) u = 2) := by show graE t _ u = _; unfold graE; rw [if_neg (by simp [he]), if_pos ⟨g1, g2⟩, Int.toNat_natCast, if_pos g3]
          have F : Hid (graA t (q : Int) u = []) := by show graA t _ u = _; unfold graA; rw [FE.out]; rfl
          have d5 : (100000 : Int) < (t.length : Int) - (Mq.length : Int) + (u.length : Int) := by omega
          clear he he1 he2 hf huf g1 g2 g3 hs hlb hsz
          go_enter Tryd.func16, Tryd.ntmps16
          go_wp2_with (first | (go_at_call 30; have hq := HK; refine (rcheck_any _ b o c t _ HA.out).mono ?_; rintro e w0 ⟨rfl, hb0⟩; rw [HE1.out]; have B0 : Hid (Below w.heap.size w w0) := hb0; clear hb0 hq HK) | (go_at_call 30; have hq := B0; refine (rcheck_any _ b2 o2 c2 u _ (HU.out.below B0.out)).mono ?_; rintro e w1 ⟨rfl, hb1⟩; rw [HE2.out]; have B1 : Hid (Below w.heap.size w w1) := B0.out.trans (hb1.mono B0.out.size); clear hb1 hq) | (go_at_call 32; refine (rRows_any _ b o c t q Mq _ (HA.out.below B1.out) HMQ.out (by omega)).mono ?_; rintro e w2 ⟨v2, rfl, ho2, hb2⟩; obtain ⟨g5, c5, rfl, -, -, -, -, -, -⟩ := owns_some ho2 hmp; have B2 : Hid (Below w.heap.size w w2) := B1.out.trans (hb2.mono B1.out.size); clear hb2 ho2))
          go_ret2
          refine ⟨_, by rw [FE.out]; rfl, ?_, B2.out⟩
          rw [F.out]
          exact World.ownsRow_nil _ _ _ _
        · have FE : Hid (graE t (q : Int) u = 0) := by show graE t _ u = _; unfold graE; rw [if_neg (by simp [he]), if_pos ⟨g1, g2⟩, Int.toNat_natCast, if_neg g3]
          have F : Hid (graA t (q : Int) u = (graB t q u).lay 0) := by show graA t _ u = _; unfold graA; rw [if_pos FE.out, Int.toNat_natCast]
          have d5 : (t.length : Int) - (Mq.length : Int) + (u.length : Int) ≤ 100000 := by omega
          clear he he1 he2 hf huf g1 g2 g3 hs hlb hsz
          go_enter Tryd.func16, Tryd.ntmps16
          go_wp2_with (first | (go_at_call 30; have hq := HK; refine (rcheck_any _ b o c t _ HA.out).mono ?_; rintro e w0 ⟨rfl, hb0⟩; rw [HE1.out]; have B0 : Hid (Below w.heap.size w w0) := hb0; clear hb0 hq HK) | (go_at_call 30; have hq := B0; refine (rcheck_any _ b2 o2 c2 u _ (HU.out.below B0.out)).mono ?_; rintro e w1 ⟨rfl, hb1⟩; rw [HE2.out]; have B1 : Hid (Below w.heap.size w w1) := B0.out.trans (hb1.mono B0.out.size); clear hb1 hq) | (go_at_call 32; refine (rRows_any _ b o c t q Mq _ (HA.out.below B1.out) HMQ.out (by omega)).mono ?_; rintro e w2 ⟨v2, rfl, ho2, hb2⟩; obtain ⟨g5, c5, rfl, -, -, -, -, -, -⟩ := owns_some ho2 hmp; have B2 : Hid (Below w.heap.size w w2) := B1.out.trans (hb2.mono B1.out.size); clear hb2 ho2) | (go_at_call 33; refine (rPut_any b o c q b2 o2 c2 t u _ (HA.out.below B2.out) (HU.out.below B2.out) HF.out HUF.out hq hbt hbu).mono ?_; rintro e w3 ⟨v3, rfl, ho3, hb3⟩; have O3 : Hid (World.ownsRow _ _ _ _ _ _ _) := owns_down ho3 B2.out.size; have B3 : Hid (Below w.heap.size w w3) := B2.out.trans (hb3.mono B2.out.size); clear hb3 ho3))
          go_ret2
          refine ⟨_, by rw [FE.out]; rfl, ?_, B3.out⟩
          rw [F.out, BT.lay_length]
          exact O3.out
      · have FE : Hid (graE t p u = 1) := by show graE t _ u = _; unfold graE; rw [if_neg (by simp [he]), if_neg (fun q => g2 q.2)]
        have F : Hid (graA t p u = []) := by show graA t _ u = _; unfold graA; rw [FE.out]; rfl
        have d1 : decide (p < 0) = false := decide_eq_false (by omega)
        have d2 : decide ((t.length : Int) ≤ p) = true := decide_eq_true (by omega)
        clear he he1 he2 hf huf g1 g2
        go_enter Tryd.func16, Tryd.ntmps16
        go_wp2_with (first | (go_at_call 30; have hq := HK; refine (rcheck_any _ b o c t _ HA.out).mono ?_; rintro e w0 ⟨rfl, hb0⟩; rw [HE1.out]; have B0 : Hid (Below w.heap.size w w0) := hb0; clear hb0 hq HK) | (go_at_call 30; have hq := B0; refine (rcheck_any _ b2 o2 c2 u _ (HU.out.below B0.out)).mono ?_; rintro e w1 ⟨rfl, hb1⟩; rw [HE2.out]; have B1 : Hid (Below w.heap.size w w1) := B0.out.trans (hb1.mono B0.out.size); clear hb1 hq))
        go_ret2
        refine ⟨_, by rw [FE.out]; rfl, ?_, B1.out⟩
        rw [F.out]
        exact World.ownsRow_nil _ _ _ _
    · have FE : Hid (graE t p u = 1) := by show graE t _ u = _; unfold graE; rw [if_neg (by simp [he]), if_neg (fun q => g1 q.1)]
      have F : Hid (graA t p u = []) := by show graA t _ u = _; unfold graA; rw [FE.out]; rfl
      have d1 : decide (p < 0) = true := decide_eq_true (by omega)
      clear he he1 he2 hf huf g1
      go_enter Tryd.func16, Tryd.ntmps16
      go_wp2_with (first | (go_at_call 30; have hq := HK; refine (rcheck_any _ b o c t _ HA.out).mono ?_; rintro e w0 ⟨rfl, hb0⟩; rw [HE1.out]; have B0 : Hid (Below w.heap.size w w0) := hb0; clear hb0 hq HK) | (go_at_call 30; have hq := B0; refine (rcheck_any _ b2 o2 c2 u _ (HU.out.below B0.out)).mono ?_; rintro e w1 ⟨rfl, hb1⟩; rw [HE2.out]; have B1 : Hid (Below w.heap.size w w1) := B0.out.trans (hb1.mono B0.out.size); clear hb1 hq))
      go_ret2
      refine ⟨_, by rw [FE.out]; rfl, ?_, B1.out⟩
      rw [F.out]
      exact World.ownsRow_nil _ _ _ _
  · have FE : Hid (graE t p u = sameE t u) := by show graE t _ u = _; unfold graE; rw [if_pos he]
    have F : Hid (graA t p u = []) := by show graA t _ u = _; unfold graA; rw [FE.out, if_neg he]
    by_cases he1 : formE t = 0
    · have he2 : formE u ≠ 0 := fun q => he (sameE_ok he1 q)
      have G : Hid (sameE t u = formE u) := by show sameE t u = _; unfold sameE; rw [if_pos he1]
      have HE1 : Hid (formE t = 0) := he1
      obtain ⟨e1, e2⟩ := e_ne he2
      have HK : Hid True := trivial
      clear he he1 he2
      go_enter Tryd.func16, Tryd.ntmps16
      go_wp2_with (first | (go_at_call 30; have hq := HK; refine (rcheck_any _ b o c t _ HA.out).mono ?_; rintro e w0 ⟨rfl, hb0⟩; rw [HE1.out]; have B0 : Hid (Below w.heap.size w w0) := hb0; clear hb0 hq HK) | (go_at_call 30; have hq := B0; refine (rcheck_any _ b2 o2 c2 u _ (HU.out.below B0.out)).mono ?_; rintro e w1 ⟨rfl, hb1⟩; have B1 : Hid (Below w.heap.size w w1) := B0.out.trans (hb1.mono B0.out.size); clear hb1 hq))
      go_ret2
      refine ⟨_, by rw [FE.out, G.out]; rfl, ?_, B1.out⟩
      rw [F.out]
      exact World.ownsRow_nil _ _ _ _
    · have G : Hid (sameE t u = formE t) := by show sameE t u = _; unfold sameE; rw [if_neg he1]
      obtain ⟨e1, e2⟩ := e_ne he1
      clear he he1
      go_enter Tryd.func16, Tryd.ntmps16
      go_wp2_with (first | (go_at_call 30; refine (rcheck_any _ b o c t _ HA.out).mono ?_; rintro e w0 ⟨rfl, hb0⟩; have B0 : Hid (Below w.heap.size w w0) := hb0; clear hb0))
      go_ret2
      refine ⟨_, by rw [FE.out, G.out]; rfl, ?_, B0.out⟩
      rw [F.out]
      exact World.ownsRow_nil _ _ _ _
end Go.Proofs.YtkioahkfjgbgdaaDoor
