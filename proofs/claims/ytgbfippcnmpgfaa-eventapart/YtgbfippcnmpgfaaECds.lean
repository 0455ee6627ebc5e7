
/- Layer 5: operations as data, in memory; the law's are, the program's countEvents. -/

import Derived.Test.YtgbfippcnmpgfaaESame

namespace Go.Proofs.Ytgbfippcnmpgfaa

open Go.RowKit

attribute [local go_sem ↓] Go.wp_at_zero Go.wp_at_succ

/-- An operation as data: places may be any numbers. -/
structure CD where
  th : Int
  op : OpD
  rt : RetD
  fr : Int
  to : Int
def cd0 : CD := ⟨0, ⟨0, 0, 0, 0⟩, RetD.zero, 0, 0⟩
def cdAt (l : List CD) (i : Nat) : CD := l.getD i cd0
structure CdsAt (w : World) (base : Option Addr) (b o : Nat) (l : List CD) (pb : Nat → Option Addr) (pc pg po : Nat → Nat) : Prop where
  base : l.length ≠ 0 → base = some ⟨b, o, none⟩
  lt : l.length ≠ 0 → b < w.heap.size
  len : l.length ≤ maxLen
  c0 : ∀ i, i < l.length → w.cell? ⟨b, o + i * 11, none⟩ = some (.int .i64 (cdAt l i).th) ∧ w.cell? ⟨b, o + i * 11 + 1, none⟩ = some (.int .i64 (cdAt l i).op.kind) ∧ w.cell? ⟨b, o + i * 11 + 2, none⟩ = some (.int .i64 (cdAt l i).op.key) ∧ w.cell? ⟨b, o + i * 11 + 3, none⟩ = some (.int .i64 (cdAt l i).op.val) ∧ w.cell? ⟨b, o + i * 11 + 4, none⟩ = some (.int .i64 (cdAt l i).op.hi)
  c1 : ∀ i, i < l.length → w.cell? ⟨b, o + i * 11 + 5, none⟩ = some (.bool (cdAt l i).rt.ok) ∧ w.cell? ⟨b, o + i * 11 + 6, none⟩ = some (.int .i64 (cdAt l i).rt.key) ∧ w.cell? ⟨b, o + i * 11 + 7, none⟩ = some (.int .i64 (cdAt l i).rt.val) ∧ w.cell? ⟨b, o + i * 11 + 8, none⟩ = some (.slice (pb i) (cdAt l i).rt.pairs.length (pc i))
  c2 : ∀ i, i < l.length → w.cell? ⟨b, o + i * 11 + 9, none⟩ = some (.int .i64 (cdAt l i).fr) ∧ w.cell? ⟨b, o + i * 11 + 10, none⟩ = some (.int .i64 (cdAt l i).to)
  prs : ∀ i, i < l.length → PairsAt w (pb i) (pg i) (po i) (cdAt l i).rt.pairs ∧ (pb i = none → (cdAt l i).rt.pairs.length = 0 ∧ pc i = 0) ∧ (cdAt l i).rt.pairs.length * 16 ≤ 140737488355328
theorem CdsAt.below {w w' : World} {base : Option Addr} {b o : Nat} {l : List CD} {pb : Nat → Option Addr} {pc pg po : Nat → Nat} (h : CdsAt w base b o l pb pc pg po) (hb : Below w.heap.size w w') : CdsAt w' base b o l pb pc pg po := by
  have hc : ∀ i, i < l.length → ∀ j, w'.cell? ⟨b, j, none⟩ = w.cell? ⟨b, j, none⟩ := fun i hi j => hb.cell (p := ⟨b, j, none⟩) (h.lt (by omega))
  refine ⟨h.base, fun hn => Nat.lt_of_lt_of_le (h.lt hn) hb.size, h.len, fun i hi => ?_, fun i hi => ?_, fun i hi => ?_, fun i hi => ⟨(h.prs i hi).1.below hb, (h.prs i hi).2⟩⟩
  · have := hc i hi; simp only [this]; exact h.c0 i hi
  · have := hc i hi; simp only [this]; exact h.c1 i hi
  · have := hc i hi; simp only [this]; exact h.c2 i hi
theorem opEq_self (a : OpD) : opEq a a = true := opEq_iff.2 rfl

/-- How many events operations have. -/
def cntN (l : List CD) : Nat → Nat
  | 0 => 0
  | j + 1 => cntN l j + 1 + (if (cdAt l j).to = -1 then 0 else 1)
theorem cntN_le (l : List CD) : ∀ j, j ≤ cntN l j ∧ cntN l j ≤ 2 * j
  | 0 => ⟨Nat.le_refl _, Nat.le_refl _⟩
  | j + 1 => by
    obtain ⟨a, b⟩ := cntN_le l j
    unfold cntN
    split <;> omega

set_option maxRecDepth 100000 in
set_option maxHeartbeats 2000000 in
theorem are_same (a1 a2 : Option Addr) (b1 o1 c1 b2 o2 c2 : Nat) (x : List CD) (pb qb : Nat → Option Addr) (pc pg po qc qg qo : Nat → Nat) (w : World) (hx : CdsAt w a1 b1 o1 x pb pc pg po) (hy : CdsAt w a2 b2 o2 x qb qc qg qo) :
    Calls Try.prog 16 #[.slice a1 x.length c1, .slice a2 x.length c2] w fun e w' => e = .returned (.bool true) ∧ Below w.heap.size w w' := by
  have lx := hx.len
  unfold maxLen at lx
  have HX : Hid _ := hx
  have HY : Hid _ := hy
  clear hx hy
  have hop := op_eql
  go_enter Try.func16, Try.ntmps16
  go_wp2_with fail
  go_loopw [5] (fun i wr => ∃ j : Nat, j ≤ x.length ∧ i = .int .i64 j ∧ Below w.heap.size w wr) (fun i _ => x.length - (intOf i).toNat)
  case atStart => exact ⟨0, Nat.zero_le _, rfl, Below.refl _ _⟩
  case round =>
    obtain ⟨j, hj, rfl, hbw⟩ := hrel
    have HW : Hid _ := hbw
    by_cases hlt : j < x.length
    · obtain rfl : a1 = some ⟨b1, o1, none⟩ := HX.out.base (by omega)
      obtain rfl : a2 = some ⟨b2, o2, none⟩ := HY.out.base (by omega)
      have EX := HX.out.below hbw
      have EY := HY.out.below hbw
      have zx : b1 < wr.heap.size := EX.lt (by omega)
      have zy : b2 < wr.heap.size := EY.lt (by omega)
      obtain ⟨d0, d1, d2, d3, d4⟩ := EX.c0 j hlt
      obtain ⟨d5, d6, d7, d8⟩ := EX.c1 j hlt
      obtain ⟨d9, d10⟩ := EX.c2 j hlt
      obtain ⟨e0, e1, e2, e3, e4⟩ := EY.c0 j hlt
      obtain ⟨e5, e6, e7, e8⟩ := EY.c1 j hlt
      obtain ⟨e9, e10⟩ := EY.c2 j hlt
      have y0 := BelowBy.cell zx d0
      have y1 := BelowBy.cell zx d1
      have y2 := BelowBy.cell zx d2
      have y3 := BelowBy.cell zx d3
      have y4 := BelowBy.cell zx d4
      have y5 := BelowBy.cell zx d5
      have y6 := BelowBy.cell zx d6
      have y7 := BelowBy.cell zx d7
      have y8 := BelowBy.cell zx d8
      have y9 := BelowBy.cell zx d9
      have y10 := BelowBy.cell zx d10
      have z0 := BelowBy.cell zy e0
      have z1 := BelowBy.cell zy e1
      have z2 := BelowBy.cell zy e2
      have z3 := BelowBy.cell zy e3
      have z4 := BelowBy.cell zy e4
      have z5 := BelowBy.cell zy e5
      have z6 := BelowBy.cell zy e6
      have z7 := BelowBy.cell zy e7
      have z8 := BelowBy.cell zy e8
      have z9 := BelowBy.cell zy e9
      have z10 := BelowBy.cell zy e10
      have SR : Hid (∀ p : BelowBy wr, Calls Try.prog 35 #[.agg #[.bool (cdAt x j).rt.ok, .int .i64 (cdAt x j).rt.key, .int .i64 (cdAt x j).rt.val, .slice (pb j) (cdAt x j).rt.pairs.length (pc j)], .agg #[.bool (cdAt x j).rt.ok, .int .i64 (cdAt x j).rt.key, .int .i64 (cdAt x j).rt.val, .slice (qb j) (cdAt x j).rt.pairs.length (qc j)]] p.W fun e w' => e = .returned (.bool true) ∧ Below p.W.heap.size p.W w') := by
        intro p
        have := sameRet_any (pb j) (qb j) (pg j) (po j) (pc j) (qg j) (qo j) (qc j) (cdAt x j).rt (cdAt x j).rt _ ((EX.prs j hlt).1.below p.h) ((EY.prs j hlt).1.below p.h)
        rw [retEq_iff.2 rfl] at this
        exact this
      have j0 : (0 : Int) ≤ (j : Int) := Int.natCast_nonneg _
      have j1 : (j : Int) < (x.length : Int) := by omega
      have hoo := opEq_self (cdAt x j).op
      clear EX EY hbw d0 d1 d2 d3 d4 d5 d6 d7 d8 d9 d10 e0 e1 e2 e3 e4 e5 e6 e7 e8 e9 e10
      go_wp2_with fail
      refine wp_region_below (by kernel_rfl) (by kernel_rfl) ?_
      repeat (go_big_quiet_step ((go_at_call 35; exact below_call (SR.out _))))
      refine wpQuiet_nil ?_
      rintro _ ⟨p, rfl⟩
      have PB : Hid (Below wr.heap.size wr p.W) := p.h
      clear y0 y1 y2 y3 y4 y5 y6 y7 y8 y9 y10 z0 z1 z2 z3 z4 z5 z6 z7 z8 z9 z10
      go_wp2_with fail
      exact ⟨⟨j + 1, by omega, by go_num, HW.out.trans (PB.out.mono HW.out.size)⟩, by simp [intOf]; omega⟩
    · clear hbw
      go_wp2_with fail
      go_ret
      exact ⟨rfl, HW.out⟩

set_option maxRecDepth 100000 in
set_option maxHeartbeats 2000000 in
theorem countEvents_any (a1 : Option Addr) (b1 o1 c1 : Nat) (x : List CD) (pb : Nat → Option Addr) (pc pg po : Nat → Nat) (w : World) (hx : CdsAt w a1 b1 o1 x pb pc pg po) (hsm : x.length ≤ 100000) :
    Calls Try.prog 43 #[.slice a1 x.length c1] w fun e w' => e = .returned (.int .i64 (cntN x x.length)) ∧ Below w.heap.size w w' := by
  have HX : Hid _ := hx
  clear hx
  go_enter Try.func43, Try.ntmps43
  go_wp2_with fail
  go_loopw [3, 10] (fun n i wr => ∃ j : Nat, j ≤ x.length ∧ i = .int .i64 j ∧ n = .int .i64 ((x.length + cntN x j - j : Nat) : Int) ∧ Below w.heap.size w wr) (fun n i _ => x.length - (intOf i).toNat)
  case atStart => exact ⟨0, Nat.zero_le _, rfl, by simp [cntN], Below.refl _ _⟩
  case round =>
    obtain ⟨j, hj, rfl, rfl, hbw⟩ := hrel
    have HW : Hid _ := hbw
    have hcn := cntN_le x j
    by_cases hlt : j < x.length
    · obtain rfl : a1 = some ⟨b1, o1, none⟩ := HX.out.base (by omega)
      have EX := HX.out.below hbw
      have zx : b1 < wr.heap.size := EX.lt (by omega)
      obtain ⟨d0, d1, d2, d3, d4⟩ := EX.c0 j hlt
      obtain ⟨d5, d6, d7, d8⟩ := EX.c1 j hlt
      obtain ⟨d9, d10⟩ := EX.c2 j hlt
      have j0 : (0 : Int) ≤ (j : Int) := Int.natCast_nonneg _
      have j1 : (j : Int) < (x.length : Int) := by omega
      have hc2 : cntN x (j + 1) = cntN x j + 1 + (if (cdAt x j).to = -1 then 0 else 1) := rfl
      have HC : Hid _ := hc2
      clear EX hbw hc2
      by_cases ht : (cdAt x j).to = -1
      · have hd : ((cdAt x j).to != -1) = false := by simp [ht]
        have HT : Hid _ := ht
        clear ht
        go_wp2_with fail
        refine ⟨⟨j + 1, by omega, by go_num, ?_, HW.out.alloc HW.out.size _⟩, by simp [intOf]; omega⟩
        rw [HC.out, if_pos HT.out]
        congr 2
        omega
      · have hd : ((cdAt x j).to != -1) = true := by simp [ht]
        have HT : Hid ((cdAt x j).to = -1 → False) := ht
        clear ht
        go_wp2_with fail
        refine ⟨⟨j + 1, by omega, by go_num, ?_, HW.out.alloc HW.out.size _⟩, by simp [intOf]; omega⟩
        rw [HC.out, if_neg HT.out]
        congr 1
        omega
    · obtain rfl : j = x.length := by omega
      clear hbw
      go_wp2_with fail
      go_ret
      refine ⟨?_, HW.out⟩
      rw [show x.length + cntN x x.length - x.length = cntN x x.length by omega]
      rfl
end Go.Proofs.Ytgbfippcnmpgfaa
