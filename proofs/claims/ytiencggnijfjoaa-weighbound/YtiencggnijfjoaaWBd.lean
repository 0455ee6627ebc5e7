
/- Layer 17: the law WeighBound. -/

import Derived.Test.YtiencggnijfjoaaWBdP

import Derived.Test.YtiencggnijfjoaaWCopy

import Derived.Test.YtiencggnijfjoaaWFixed

namespace Go.Proofs.Ytiencggnijfjoaa

open Go.RowKit

attribute [local go_sem ↓] Go.wp_at_zero Go.wp_at_succ

theorem two_step {i : Nat} (h : 1 ≤ i) : 2 ^ i = 2 ^ (i - 1) * 2 := by
  rw [← Nat.pow_succ]; congr 1; omega
set_option maxRecDepth 100000 in
set_option maxHeartbeats 4000000 in
theorem weighBound_any (bT : Option Addr) (b o cT : Nat) (t : NL) (bw : Option Addr) (cw : Nat) (W : List Int) (key nn : Int) (w : World) (h : NodesAt w bT b o t) (hTn : bT = none → t.length = 0 ∧ cT = 0) (hTb : t.length * 48 ≤ 140737488355328) :
    Calls Try.prog 6 #[.agg #[.slice bT t.length cT, .slice bw W.length cw, .int .i64 key, .int .i64 nn]] w fun e w' => e = .returned (.bool true) ∧ Below w.heap.size w w' := by
  have HTN : Hid (bT = none → t.length = 0 ∧ cT = 0) := hTn
  obtain ⟨k, hk⟩ := keyed_of t
  have HK : Hid (Keyed t k) := hk
  generalize hW1 : w.alloc (.cells #[.slice bT t.length cT, .slice bw W.length cw, .int .i64 key, .int .i64 nn] 25) = W1
  have hs1 : W1.heap.size = w.heap.size + 1 := by rw [← hW1]; simp
  have hb1 : Below w.heap.size w W1 := by rw [← hW1]; exact below_alloc _ _
  have hbk : W1.heap[w.heap.size]? = some (.cells #[.slice bT t.length cT, .slice bw W.length cw, .int .i64 key, .int .i64 nn] 25) := by rw [← hW1]; exact heap_alloc_at _ _ _ rfl
  have NT : Hid (∀ z, Below W1.heap.size W1 z → NodesAt z bT b o t) := fun z hz => (h.below hb1).below hz
  have CC : Hid (∀ z, Below W1.heap.size W1 z → z.cell? ⟨w.heap.size, 0, none⟩ = some (.slice bT t.length cT) ∧ z.cell? ⟨w.heap.size, 2, none⟩ = some (.int .i64 key) ∧ z.cell? ⟨w.heap.size, 3, none⟩ = some (.int .i64 nn)) := fun z hz => by
    have e := (hz.block _ (by omega)).trans hbk
    exact ⟨by simp [World.cell?, e], by simp [World.cell?, e], by simp [World.cell?, e]⟩
  have BL : Hid (∀ z, Below W1.heap.size W1 z → Below w.heap.size w z ∧ w.heap.size < z.heap.size) := fun z hz => ⟨hb1.trans (hz.mono hb1.size), by have := hz.size; omega⟩
  clear h hTn hb1 hbk hk
  go_enter Try.func6, Try.ntmps6
  go_wp2_with fail
  clear hW1
  refine (fixed_any _).mono ?_
  rintro e w2 ⟨rfl, hb2⟩
  have H2 : Hid (Below W1.heap.size W1 w2) := hb2
  clear hb2
  obtain ⟨e0, e1, e2⟩ := CC.out _ H2.out
  have lt2 := (BL.out _ H2.out).2
  go_wp2_with fail
  refine (copied_any bT b o cT t _ (NT.out _ H2.out) HTN.out hTb).mono ?_
  rintro e w3 ⟨v3, rfl, ho, hb⟩
  obtain ⟨a3, c3, g3, rfl, -, -, hn⟩ := nodes_of_owns ho
  have N3 : Hid (NodesAt w3 a3 g3 0 t) := hn
  have H3 : Hid (Below W1.heap.size W1 w3) := H2.out.trans (hb.mono H2.out.size)
  clear ho hn hb e0 e1 e2 lt2
  obtain ⟨e0, e1, e2⟩ := CC.out _ H3.out
  have lt3 := (BL.out _ H3.out).2
  by_cases he : keyE t = 0
  · have HE : Hid (keyE t = 0) := he
    cases hs : sndB t k
    · have SN : Hid (sndB t k = false) := hs
      clear he hs
      go_wp2_with fail
      refine (Sound_any a3 g3 0 c3 t k _ N3.out HK.out).mono ?_
      rintro e w4 ⟨rfl, hb⟩
      have H4 : Hid (Below W1.heap.size W1 w4) := H3.out.trans (hb.mono H3.out.size)
      clear hb
      rw [HE.out, SN.out]
      go_wp2_with fail
      go_ret
      exact ⟨rfl, (BL.out _ H4.out).1⟩
    · have SN : Hid (sndB t k = true) := hs
      obtain ⟨f1, f2, f3⟩ := bound_facts he HK.out hs
      have HFE : Hid (formE t = 0) := keyE_form he
      have FD : Hid (deepA t = hgtA t) := by show deepA t = _; unfold deepA; rw [if_pos he]
      have FE : Hid (evB (sumsO k) = true) := f1
      have FV : Hid (vioO k = 0 → _) := f3
      clear he hs f1 f3
      go_wp2_with fail
      refine (Sound_any a3 g3 0 c3 t k _ N3.out HK.out).mono ?_
      rintro e w4 ⟨rfl, hb⟩
      have H4 : Hid (Below W1.heap.size W1 w4) := H3.out.trans (hb.mono H3.out.size)
      clear hb e0 e1 e2 lt3
      rw [HE.out, SN.out]
      obtain ⟨e0, e1, e2⟩ := CC.out _ H4.out
      have lt4 := (BL.out _ H4.out).2
      go_wp2_with fail
      refine (copied_any bT b o cT t _ (NT.out _ H4.out) HTN.out hTb).mono ?_
      rintro e w5 ⟨v5, rfl, ho, hb⟩
      obtain ⟨a5, c5, g5, rfl, -, -, hn⟩ := nodes_of_owns ho
      have N5 : Hid (NodesAt w5 a5 g5 0 t) := hn
      have H5 : Hid (Below W1.heap.size W1 w5) := H4.out.trans (hb.mono H4.out.size)
      clear ho hn hb e0 e1 e2 lt4
      obtain ⟨e0, e1, e2⟩ := CC.out _ H5.out
      have lt5 := (BL.out _ H5.out).2
      go_wp2_with fail
      refine (Violations_any a5 g5 0 c5 t k _ N5.out HK.out).mono ?_
      rintro e w6 ⟨rfl, hb⟩
      have H6 : Hid (Below W1.heap.size W1 w6) := H5.out.trans (hb.mono H5.out.size)
      clear hb e0 e1 e2 lt5
      rw [HE.out]
      generalize hVV : vioO k = V at *
      obtain ⟨e0, e1, e2⟩ := CC.out _ H6.out
      have lt6 := (BL.out _ H6.out).2
      go_wp2_with fail
      refine (copied_any bT b o cT t _ (NT.out _ H6.out) HTN.out hTb).mono ?_
      rintro e w7 ⟨v7, rfl, ho, hb⟩
      obtain ⟨a7, c7, g7, rfl, -, -, hn⟩ := nodes_of_owns ho
      have N7 : Hid (NodesAt w7 a7 g7 0 t) := hn
      have H7 : Hid (Below W1.heap.size W1 w7) := H6.out.trans (hb.mono H6.out.size)
      clear ho hn hb e0 e1 e2 lt6
      obtain ⟨e0, e1, e2⟩ := CC.out _ H7.out
      have lt7 := (BL.out _ H7.out).2
      go_wp2_with fail
      refine (Even_any a7 g7 0 c7 t k _ N7.out HK.out).mono ?_
      rintro e w8 ⟨rfl, hb⟩
      have H8 : Hid (Below W1.heap.size W1 w8) := H7.out.trans (hb.mono H7.out.size)
      clear hb e0 e1 e2 lt7
      rw [HE.out, FE.out]
      rw [if_pos rfl, if_pos rfl]
      by_cases hv : 0 < V
      · have dv : decide (V > 0) = true := decide_eq_true hv
        go_wp2_with fail
        go_ret
        exact ⟨rfl, (BL.out _ H8.out).1⟩
      · have dv : decide (V > 0) = false := decide_eq_false hv
        obtain ⟨q1, q2⟩ := FV.out (by omega)
        have FI : Hid (fitA t = true) := q1
        generalize evS (sumsO k) = s at *
        obtain ⟨e0, e1, e2⟩ := CC.out _ H8.out
        have lt8 := (BL.out _ H8.out).2
        go_wp2_with fail
        refine (copied_any bT b o cT t _ (NT.out _ H8.out) HTN.out hTb).mono ?_
        rintro e w9 ⟨v9, rfl, ho, hb⟩
        obtain ⟨a9, c9, g9, rfl, -, -, hn⟩ := nodes_of_owns ho
        have N9 : Hid (NodesAt w9 a9 g9 0 t) := hn
        have H9 : Hid (Below W1.heap.size W1 w9) := H8.out.trans (hb.mono H8.out.size)
        clear ho hn hb e0 e1 e2 lt8
        obtain ⟨e0, e1, e2⟩ := CC.out _ H9.out
        have lt9 := (BL.out _ H9.out).2
        go_wp2_with fail
        refine (Fits_any a9 g9 0 c9 t _ N9.out).mono ?_
        rintro e w10 ⟨rfl, hb⟩
        have H10 : Hid (Below W1.heap.size W1 w10) := H9.out.trans (hb.mono H9.out.size)
        clear hb e0 e1 e2 lt9
        rw [HE.out, FI.out]
        obtain ⟨e0, e1, e2⟩ := CC.out _ H10.out
        have lt10 := (BL.out _ H10.out).2
        go_wp2_with fail
        refine (copied_any bT b o cT t _ (NT.out _ H10.out) HTN.out hTb).mono ?_
        rintro e w11 ⟨v11, rfl, ho, hb⟩
        obtain ⟨a11, c11, g11, rfl, -, -, hn⟩ := nodes_of_owns ho
        have N11 : Hid (NodesAt w11 a11 g11 0 t) := hn
        have H11 : Hid (Below W1.heap.size W1 w11) := H10.out.trans (hb.mono H10.out.size)
        clear ho hn hb e0 e1 e2 lt10
        obtain ⟨e0, e1, e2⟩ := CC.out _ H11.out
        have lt11 := (BL.out _ H11.out).2
        go_wp2_with fail
        refine (Deep_any a11 g11 0 c11 t _ N11.out).mono ?_
        rintro e w12 ⟨rfl, hb⟩
        have H12 : Hid (Below W1.heap.size W1 w12) := H11.out.trans (hb.mono H11.out.size)
        clear hb e0 e1 e2 lt11
        rw [HE.out, FD.out]
        obtain ⟨e0, e1, e2⟩ := CC.out _ H12.out
        have lt12 := (BL.out _ H12.out).2
        go_wp2_with fail
        refine (vLeaves_any bT b o cT t _ (NT.out _ H12.out) HFE.out).mono ?_
        rintro e w13 ⟨v13, rfl, ho, hb⟩
        obtain ⟨a13, c13, rfl⟩ := own_slice ho
        have H13 : Hid (Below W1.heap.size W1 w13) := H12.out.trans (hb.mono H12.out.size)
        have kvl : (kvL t (theL t 0)).length ≤ 100000 := by
          obtain ⟨hbig, hf⟩ := formE_ok HFE.out
          obtain ⟨-, -, hlen⟩ := theL_form hf
          have := kv_len t (theL t 0)
          omega
        clear ho hb e0 e1 e2 lt12
        generalize kvL t (theL t 0) = KV at *
        generalize hgtA t = d at *
        rcases q2 with ⟨x1, x2, x3⟩ | ⟨hh, x1, x2, x6, x3, x4, x5⟩
        · subst x1
          subst x2
          subst x3
          go_wp2_with fail
          go_ret
          exact ⟨rfl, (BL.out _ H13.out).1⟩
        · subst x1
          have HX3 : Hid (2 ^ (hh - 1) ≤ KV.length) := x3
          have dn : ((KV.length : Int) == 0) = false := by rw [beq_eq_false_iff_ne]; omega
          clear x3
          go_wp2_with fail
          go_loopw [12, 13] (fun ls i wr => ∃ j : Nat, 1 ≤ j ∧ j ≤ hh ∧ i = .int .i64 j ∧ ls = .int .i64 ((2 ^ (j - 1) : Nat) : Int) ∧ Below W1.heap.size W1 wr) (fun _ i _ => hh - (intOf i).toNat)
          case atStart => exact ⟨1, Nat.le_refl _, x2, rfl, rfl, H13.out⟩
          case round =>
            obtain ⟨j, hj1, hj2, rfl, rfl, hbz⟩ := hrel
            have HZ : Hid (Below W1.heap.size W1 wr) := hbz
            have hle : 2 ^ (j - 1) ≤ KV.length := Nat.le_trans (Nat.pow_le_pow_right (by omega) (by omega)) HX3.out
            clear hbz
            by_cases hlt : j < hh
            · have d1 : decide ((j : Int) < (hh : Int)) = true := decide_eq_true (by omega)
              have HS : Hid (2 ^ (j + 1 - 1) = 2 ^ (j - 1) * 2) := two_step (i := j) hj1
              generalize 2 ^ (j - 1) = P at *
              have d2 : decide ((P : Int) > (KV.length : Int)) = false := decide_eq_false (by omega)
              have d3 : decide (KV.length < P) = false := decide_eq_false (by omega)
              have e1 : IntKind.i64.wrap ((P : Int) * 2) = (P : Int) * 2 := wrap_ok _ (by omega) (by omega)
              go_wp2_with fail
              exact ⟨⟨j + 1, by omega, by omega, by go_num, by rw [HS.out]; rfl, HZ.out⟩, by simp [intOf]; omega⟩
            · obtain rfl : j = hh := by omega
              generalize 2 ^ (j - 1) = P at *
              have d1 : decide ((1 : Int) ≤ (j : Int)) = true := decide_eq_true (by omega)
              have d2 : decide ((P : Int) ≤ (KV.length : Int)) = true := decide_eq_true (by omega)
              have d3 : decide (d ≤ 2 * (j : Int)) = true := decide_eq_true (by omega)
              have d4 : decide (P ≤ KV.length) = true := decide_eq_true (by omega)
              have d5 : decide (1 ≤ j) = true := decide_eq_true (by omega)
              go_wp2_with fail
              go_ret
              exact ⟨rfl, (BL.out _ HZ.out).1⟩
  · have d : (keyE t != 0) = true := by simp [he]
    have SN : Hid (sndB t k = false) := by show sndB t k = false; unfold sndB; rw [if_pos he]
    clear he
    go_wp2_with fail
    refine (Sound_any a3 g3 0 c3 t k _ N3.out HK.out).mono ?_
    rintro e w4 ⟨rfl, hb⟩
    have H4 : Hid (Below W1.heap.size W1 w4) := H3.out.trans (hb.mono H3.out.size)
    clear hb
    rw [SN.out]
    go_wp2_with fail
    go_ret
    exact ⟨rfl, (BL.out _ H4.out).1⟩
end Go.Proofs.Ytiencggnijfjoaa
