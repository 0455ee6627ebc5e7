
/- Layer 7: the program's refusal, doRegister, doCounter. -/

import Derived.Test.YtcphajjonecmbaaDoorYRun1

import Derived.Test.YtcphajjonecmbaaDoorMRun

namespace Go.Proofs.YtcphajjonecmbaaDoor

open Go.RowKit Go.Deep

attribute [local go_sem ↓] Go.wp_at_zero Go.wp_at_succ

theorem ksN_iff {t : Int} {ops : List OpD} : ksN t ops = true ↔ ∀ i, i < ops.length → kOk t (opAt ops i).kind = true := by
  unfold ksN
  rw [List.all_eq_true]
  constructor
  · intro h i hi
    refine h _ ?_
    simp only [opAt, List.getD_eq_getElem?_getD, List.getElem?_eq_getElem hi]
    exact List.getElem_mem hi
  · intro h o ho
    obtain ⟨i, hi, rfl⟩ := List.getElem_of_mem ho
    have := h i hi
    simpa [opAt, List.getD_eq_getElem?_getD, List.getElem?_eq_getElem hi] using this
theorem ksN_not {t : Int} {ops : List OpD} {i : Nat} (hi : i < ops.length) (h : kOk t (opAt ops i).kind = false) : ksN t ops = false := by
  cases q : ksN t ops
  · rfl
  · rw [ksN_iff.1 q i hi] at h; cases h
set_option maxRecDepth 100000 in
set_option maxHeartbeats 1000000 in
theorem srefusal_any (t : Int) (x : SX) (s : SD) (ob : Option Addr) (bo oo co : Nat) (ops : List OpD) (w : World) (h : StAt w x s) (hk : KdAt w) (hop : OpsAt w ob bo oo ops) :
    Calls Tryd.prog 57 #[.int .i64 t, x.v s, .slice ob ops.length co] w fun e w' => e = .returned (.int .i64 (rnErr t s ops)) ∧ Below w.heap.size w w' := by
  have HOP : Hid (OpsAt w ob bo oo ops) := hop
  have HK : Hid (KdAt w) := hk
  have lO := hop.len
  unfold maxLen at lO
  have B0 : Hid (Below w.heap.size w (w.alloc (.cells #[.slice x.va s.vals.length x.vc, .slice x.pa s.prs.length x.pc] 31))) := below_alloc _ _
  have c0 := cell_new w #[.slice x.va s.vals.length x.vc, .slice x.pa s.prs.length x.pc] 31 0
  have c1 := cell_new w #[.slice x.va s.vals.length x.vc, .slice x.pa s.prs.length x.pc] 31 1
  have HS : Hid (StAt (w.alloc (.cells #[.slice x.va s.vals.length x.vc, .slice x.pa s.prs.length x.pc] 31)) x s) := h.below (below_alloc _ _)
  have CK : Hid (∀ W, StAt W x s → Calls Tryd.prog 12 #[.int .i64 t, .agg #[.slice x.va s.vals.length x.vc, .slice x.pa s.prs.length x.pc]] W fun e w' => e = .returned (.int .i64 (sErr t s)) ∧ Below W.heap.size W w') := fun W hW => scheck_any t x s W hW
  have RE : Hid (sErr t s = 0 → rnErr t s ops = if ksN t ops then 0 else 5) := fun q => by unfold rnErr; rw [if_pos q]
  have RN : Hid (sErr t s ≠ 0 → rnErr t s ops = sErr t s) := fun q => by unfold rnErr; rw [if_neg q]
  have T5 : Hid (sErr t s = 0 → 1 ≤ t ∧ t ≤ 5) := fun q => (sErr_zero.1 q).1
  obtain ⟨E, hE⟩ : ∃ E, E = sErr t s := ⟨_, rfl⟩
  obtain ⟨R, hR⟩ : ∃ R, R = rnErr t s ops := ⟨_, rfl⟩
  simp only [← hE] at CK RE RN T5
  simp only [← hR] at RE RN
  rw [← hR]
  clear h hk hop hE hR
  unfold SX.v
  by_cases h0 : E = 0
  · subst h0
    have hRE := RE.out rfl
    obtain ⟨t1, t5⟩ := T5.out rfl
    have HRE : Hid (R = if ksN t ops then 0 else 5) := hRE
    clear hRE
    have HK1 : Hid (∀ k W, KdAt W → Calls Tryd.prog 91 #[.int .i64 t, .int .i64 k] W fun e w' => e = .returned (.bool (kOk t k)) ∧ W = w') := fun k W hW => hasKind_any t k W hW t1 t5
    clear RE RN T5 t1 t5
    go_enter Tryd.func57, Tryd.ntmps57
    go_wp2_with (first | (go_at_call 12; refine (CK.out _ HS.out).mono ?_; rintro e w1 ⟨rfl, hb1⟩; have B1 : Hid (Below w.heap.size w w1) := B0.out.trans (hb1.mono B0.out.size); clear hb1))
    go_loopw [18] (fun i wr => ∃ j : Nat, j ≤ ops.length ∧ i = .int .i64 j ∧ (∀ k, k < j → kOk t (opAt ops k).kind = true) ∧ Below w.heap.size w wr) (fun i _ => ops.length - (intOf i).toNat)
    case atStart => exact ⟨0, Nat.zero_le _, rfl, fun k q => by omega, B1.out⟩
    case round =>
      obtain ⟨j, hj, rfl, hall, hb⟩ := hrel
      rename World => wr
      have HB : Hid (Below w.heap.size w wr) := hb
      have HA : Hid (∀ k, k < j → kOk t (opAt ops k).kind = true) := hall
      clear hb hall
      by_cases hlt : j < ops.length
      · obtain rfl := HOP.out.base (by omega)
        obtain ⟨d0, d1, d2, d3⟩ := (HOP.out.below HB.out).cells j hlt
        have hbz : bo < wr.heap.size := Nat.lt_of_lt_of_le (HOP.out.lt (by omega)) HB.out.size
        have j0 : (0 : Int) ≤ (j : Int) := Int.natCast_nonneg _
        have j1 : (j : Int) < (ops.length : Int) := by omega
        have BA : Hid (Below w.heap.size w (wr.alloc (.cells #[.int .i64 (opAt ops j).kind, .int .i64 (opAt ops j).key, .int .i64 (opAt ops j).val, .int .i64 (opAt ops j).hi] 43))) := HB.out.alloc HB.out.size _
        have KA : Hid (KdAt (wr.alloc (.cells #[.int .i64 (opAt ops j).kind, .int .i64 (opAt ops j).key, .int .i64 (opAt ops j).val, .int .i64 (opAt ops j).hi] 43))) := HK.out.below BA.out
        have NK : Hid (kOk t (opAt ops j).kind = true → ∀ k, k < j + 1 → kOk t (opAt ops k).kind = true) := fun q k hk => by
          by_cases e : k = j
          · subst e; exact q
          · exact HA.out k (by omega)
        have NN : Hid (kOk t (opAt ops j).kind = false → ksN t ops = false) := fun q => ksN_not hlt q
        have K1 : Hid (∀ W, KdAt W → Calls Tryd.prog 91 #[.int .i64 t, .int .i64 (opAt ops j).kind] W fun e w' => e = .returned (.bool (kOk t (opAt ops j).kind)) ∧ W = w') := HK1.out _
        obtain ⟨F, hF⟩ : ∃ F, F = kOk t (opAt ops j).kind := ⟨_, rfl⟩
        simp only [← hF] at NK NN K1
        generalize (opAt ops j).kind = q1 at *
        generalize (opAt ops j).key = q2 at *
        generalize (opAt ops j).val = q3 at *
        generalize (opAt ops j).hi = q4 at *
        clear hF
        cases F
        · have hn : Hid (R = 5) := by
            show R = 5
            rw [HRE.out, NN.out rfl]
            rfl
          clear NN NK
          go_wp2_with (first | (go_at_call 91; refine (K1.out _ KA.out).mono ?_; rintro e w2 ⟨rfl, rfl⟩))
          go_ret
          exact ⟨by rw [hn.out]; rfl, BA.out⟩
        · go_wp2_with (first | (go_at_call 91; refine (K1.out _ KA.out).mono ?_; rintro e w2 ⟨rfl, rfl⟩))
          exact ⟨⟨j + 1, by omega, by go_num, NK.out (by simp), BA.out⟩, by simp [intOf]; omega⟩
      · have hn : Hid (R = 0) := by
          show R = 0
          rw [HRE.out, ksN_iff.2 (fun i hi => HA.out i (by omega))]
          rfl
        obtain rfl : j = ops.length := by omega
        clear hlt
        go_wp2_with fail
        go_ret
        exact ⟨by rw [hn.out]; rfl, HB.out⟩
  · have hRE := RN.out h0
    subst hRE
    have q1 : (R != 0) = true := by simp [h0]
    clear RE RN T5 h0
    go_enter Tryd.func57, Tryd.ntmps57
    go_wp2_with (first | (go_at_call 12; refine (CK.out _ HS.out).mono ?_; rintro e w1 ⟨rfl, hb1⟩; have B1 : Hid (Below w.heap.size w w1) := B0.out.trans (hb1.mono B0.out.size); clear hb1))
    go_ret
    exact ⟨rfl, B1.out⟩
end Go.Proofs.YtcphajjonecmbaaDoor
