
/- slices.symMergeCmpFunc: one in front, one behind. -/

import Derived.Test.YtljidfaeljpnpaaSPIns

namespace Go.Proofs.Ytljidfaeljpnpaa

open Go.RowKit

attribute [local go_sem ↓] Go.wp_at_zero Go.wp_at_succ

theorem half_factsP {i j n : Nat} (h : i < j) (hj : j ≤ n) (hn : n ≤ 1000000) : ∃ h : Nat, wrap64 (IntKind.u64.wrap (wrap64 ((i : Int) + (j : Int))) / 2) = (h : Int) ∧ ((i : Int) + (j : Int)) / 2 = (h : Int) ∧ (0 : Int) ≤ (h : Int) ∧ (h : Int) < (n : Int) ∧ i ≤ h ∧ h < j := by
  refine ⟨(i + j) / 2, ?_, by omega, by omega, by omega, by omega, by omega⟩
  have e : IntKind.u64.wrap (wrap64 ((i : Int) + (j : Int))) = (i : Int) + (j : Int) := by
    simp only [IntKind.wrap, IntKind.bits, IntKind.signed, wrap64]; simp; omega
  rw [e]; unfold wrap64; omega
/-- What symMerge does with a range of at most so many. -/
def SymP (len : Nat) : Prop := ∀ (g n cap a m b : Nat) (d : Nat → PrX) (w : World), b - a ≤ len → RowP w g n d → g < w.heap.size → a < m → m < b → b ≤ n → n ≤ 1000000 → SortedOn keyP PrX.pos a m d → SortedOn keyP PrX.pos m b d → Apart PrX.pos a m b d →
  Calls Try.prog 101 #[.slice (some ⟨g, 0, none⟩) n cap, .int .i64 a, .int .i64 m, .int .i64 b, .func (.func 70) #[] #[]] w fun e w' => e = .returned (.tuple #[]) ∧ ∃ d', RowP w' g n d' ∧ w.grownBy w' (some g) ∧ Swaps a b d d' ∧ SortedOn keyP PrX.pos a b d'

set_option maxRecDepth 100000 in
set_option maxHeartbeats 4000000 in
theorem symFirstP (g n cap a m b : Nat) (d : Nat → PrX) (w : World) (hr : RowP w g n d) (hg : g < w.heap.size) (ham : a < m) (hmb : m < b) (hb : b ≤ n) (hn : n ≤ 1000000) (hL : SortedOn keyP PrX.pos a m d) (hR : SortedOn keyP PrX.pos m b d) (hA : Apart PrX.pos a m b d) (h1m : m = a + 1) :
    Calls Try.prog 101 #[.slice (some ⟨g, 0, none⟩) n cap, .int .i64 a, .int .i64 m, .int .i64 b, .func (.func 70) #[] #[]] w fun e w' => e = .returned (.tuple #[]) ∧ ∃ d', RowP w' g n d' ∧ w.grownBy w' (some g) ∧ Swaps a b d d' ∧ SortedOn keyP PrX.pos a b d' := by
  have HR0 : Hid (RowP _ _ _ _) := hr
  have HL : Hid _ := hL
  have HRR : Hid _ := hR
  have HA : Hid _ := hA
  clear hr hL hR hA
  have t1 : ((m : Int) - (a : Int) == 1) = true := by rw [beq_iff_eq]; omega
  have a0 : (0 : Int) ≤ (a : Int) := Int.natCast_nonneg _
  have HJ : Hid (b ≤ n) := hb
  have H1M : Hid _ := h1m
  clear h1m
  have a1 : (a : Int) < (n : Int) := by omega
  go_enter Try.func101, Try.ntmps101
  go_wp2_with fail
  go_loopw [10, 11] (fun iv jv wr => ∃ i j : Nat, m ≤ i ∧ i ≤ j ∧ j ≤ b ∧ iv = .int .i64 i ∧ jv = .int .i64 j ∧ RowP wr g n d ∧ w.grownBy wr (some g) ∧ (∀ x, m ≤ x → x < i → keyP (d x) < keyP (d a)) ∧ (∀ x, j ≤ x → x < b → keyP (d a) ≤ keyP (d x))) (fun iv jv _ => (intOf jv).toNat - (intOf iv).toNat)
  case atStart => exact ⟨m, b, Nat.le_refl _, by omega, Nat.le_refl _, rfl, rfl, HR0.out, grown_reflM _ _, fun x h1 h2 => by omega, fun x h1 h2 => by omega⟩
  case round =>
    obtain ⟨i, j, hmi, hij, hjb, rfl, rfl, hrow, hgr, hlow, hhigh⟩ := hrel
    have HR : Hid (RowP _ _ _ _) := hrow
    have HG : Hid _ := hgr
    have HLO : Hid _ := hlow
    have HHI : Hid _ := hhigh
    have zg := hgr.size
    have hgw : g < wr.heap.size := by omega
    clear hrow hgr hlow hhigh
    by_cases hlt : i < j
    · have hltz : (i : Int) < (j : Int) := by omega
      obtain ⟨h, q1, q2, h0, h1, hlo, hhi⟩ := half_factsP (i := i) (j := j) (n := n) hlt (Nat.le_trans hjb HJ.out) hn
      obtain ⟨v, hv⟩ : ∃ v, cmpS (keyP (d h)) (keyP (d a)) = v := ⟨_, rfl⟩
      have HV : Hid _ := hv
      by_cases hk : keyP (d h) < keyP (d a)
      · have hv0 : v < 0 := by rw [← hv]; exact cmpS_neg.2 hk
        have NX : Hid (∀ x, m ≤ x → x < h + 1 → keyP (d x) < keyP (d a)) := by
          intro x hx hxh
          have := key_le HRR.out hx (show x ≤ h by omega) (by omega)
          omega
        clear hv hk
        have p0 : wr.cell? ⟨g, h * 2, none⟩ = some (.int .i64 (d h).k) := (HR.out.cell (i := h) (by omega) (c := 0) (by omega)).1
        have p1 : wr.cell? ⟨g, h * 2 + 1, none⟩ = some (.int .i64 (d h).v) := (HR.out.cell (i := h) (by omega) (c := 1) (by omega)).1
        have q0 : wr.cell? ⟨g, a * 2, none⟩ = some (.int .i64 (d a).k) := (HR.out.cell (i := a) (by omega) (c := 0) (by omega)).1
        have q1 : wr.cell? ⟨g, a * 2 + 1, none⟩ = some (.int .i64 (d a).v) := (HR.out.cell (i := a) (by omega) (c := 1) (by omega)).1
        have y0 := BelowByM.cell hgw p0
        have z0 := BelowByM.cell hgw q0
        have y1 := BelowByM.cell hgw p1
        have z1 := BelowByM.cell hgw q1
        have SE : Hid (∀ p : BelowByM wr, Calls Try.prog 70 #[.agg #[.int .i64 (d h).k, .int .i64 (d h).v], .agg #[.int .i64 (d a).k, .int .i64 (d a).v]] p.W fun e w' => e = .returned (.int .i64 v) ∧ Below p.W.heap.size p.W w') := fun p => by rw [← HV.out]; exact closP_any (d h) (d a) p.W
        clear p0 q0 p1 q1
        go_wp2_with fail
        refine wp_region_belowM (by kernel_rfl) (by kernel_rfl) ?_
        repeat (go_big_quiet_step ((go_at_call 70; exact below_callM (SE.out _))))
        refine wpQuiet_nil ?_
        rintro _ ⟨p, rfl⟩
        have PB : Hid (Below wr.heap.size wr p.W) := p.h
        have HRp : Hid (RowP p.W g n d) := HR.out.below hgw p.h
        have zp := p.h.size
        clear SE y0 z0 y1 z1
        generalize p.W = wp at *
        clear p
        go_wp2_with fail
        exact ⟨⟨h + 1, j, by omega, by omega, hjb, by go_num, rfl, HRp.out, grown_trP HG.out (grown_of_belowP _ PB.out), NX.out, HHI.out⟩, by simp [intOf] <;> omega⟩
      · have hv0 : 0 ≤ v := by rw [← hv]; have := mt cmpS_neg.1 hk; omega
        have hv1 : ¬ v < 0 := by omega
        have hv2 : decide (v < 0) = false := by rw [decide_eq_false_iff_not]; omega
        have NX : Hid (∀ x, h ≤ x → x < b → keyP (d a) ≤ keyP (d x)) := by
          intro x hx hxb
          have := key_le HRR.out (show m ≤ h by omega) hx hxb
          omega
        clear hv hk
        have p0 : wr.cell? ⟨g, h * 2, none⟩ = some (.int .i64 (d h).k) := (HR.out.cell (i := h) (by omega) (c := 0) (by omega)).1
        have p1 : wr.cell? ⟨g, h * 2 + 1, none⟩ = some (.int .i64 (d h).v) := (HR.out.cell (i := h) (by omega) (c := 1) (by omega)).1
        have q0 : wr.cell? ⟨g, a * 2, none⟩ = some (.int .i64 (d a).k) := (HR.out.cell (i := a) (by omega) (c := 0) (by omega)).1
        have q1 : wr.cell? ⟨g, a * 2 + 1, none⟩ = some (.int .i64 (d a).v) := (HR.out.cell (i := a) (by omega) (c := 1) (by omega)).1
        have y0 := BelowByM.cell hgw p0
        have z0 := BelowByM.cell hgw q0
        have y1 := BelowByM.cell hgw p1
        have z1 := BelowByM.cell hgw q1
        have SE : Hid (∀ p : BelowByM wr, Calls Try.prog 70 #[.agg #[.int .i64 (d h).k, .int .i64 (d h).v], .agg #[.int .i64 (d a).k, .int .i64 (d a).v]] p.W fun e w' => e = .returned (.int .i64 v) ∧ Below p.W.heap.size p.W w') := fun p => by rw [← HV.out]; exact closP_any (d h) (d a) p.W
        clear p0 q0 p1 q1
        go_wp2_with fail
        refine wp_region_belowM (by kernel_rfl) (by kernel_rfl) ?_
        repeat (go_big_quiet_step ((go_at_call 70; exact below_callM (SE.out _))))
        refine wpQuiet_nil ?_
        rintro _ ⟨p, rfl⟩
        have PB : Hid (Below wr.heap.size wr p.W) := p.h
        have HRp : Hid (RowP p.W g n d) := HR.out.below hgw p.h
        have zp := p.h.size
        clear SE y0 z0 y1 z1
        generalize p.W = wp at *
        clear p
        go_wp2_with fail
        exact ⟨⟨i, h, hmi, by omega, by omega, rfl, rfl, HRp.out, grown_trP HG.out (grown_of_belowP _ PB.out), HLO.out, NX.out⟩, by simp [intOf] <;> omega⟩
    · obtain rfl : i = j := by omega
      have hltz : ¬ (i : Int) < (i : Int) := by omega
      have FIN : Hid (SortedOn keyP PrX.pos a b (rlF d a (i - 1))) := by
        have h1m := H1M.out
        subst h1m
        exact merge_first HRR.out HA.out hmi hjb HLO.out (fun x q1 q2 => by have := HHI.out x q1 q2; omega)
      generalize wr = W1 at *
      have HR1 : Hid (RowP _ _ _ _) := HR.out
      have HG1 : Hid _ := HG.out
      clear HR HG HLO HHI
      go_wp2_with fail
      go_loopw [13] (fun kv wr => ∃ k : Nat, a ≤ k ∧ k ≤ i - 1 ∧ kv = .int .i64 k ∧ RowP wr g n (rlF d a k) ∧ w.grownBy wr (some g) ∧ Swaps a b d (rlF d a k)) (fun kv _ => i - (intOf kv).toNat)
      case atStart => exact ⟨a, Nat.le_refl _, by omega, rfl, by rw [rlF_start]; exact HR1.out, HG1.out, by rw [rlF_start]; exact Swaps.refl _⟩
      case round =>
        obtain ⟨k, hak, hki, rfl, hrow, hgr, hsw⟩ := hrel
        have HG : Hid _ := hgr
        have HS : Hid _ := hsw
        have zg2 := hgr.size
        by_cases hlt : k < i - 1
        · have HST : Hid _ := rlF_step d a k hak
          generalize rlF d a k = dk at *
          have HR : Hid (RowP _ _ _ _) := hrow
          have hgw2 : g < wr.heap.size := by omega
          clear hrow hgr hsw
          have k0 : (0 : Int) ≤ (k : Int) := Int.natCast_nonneg _
          have k1 : (k : Int) < (n : Int) := by omega
          have k2 : (0 : Int) ≤ (k : Int) + 1 := by omega
          have k3 : (k : Int) + 1 < (n : Int) := by omega
          have k4 : ((k : Int) + 1).toNat = k + 1 := by omega
          have k5 : IntKind.i64.wrap ((k : Int) + 1) = (k : Int) + 1 := by rw [IntKind.wrap_i64] <;> omega
          have k6 : (k : Int) < (i : Int) - 1 := by omega
          have p0 : wr.cell? ⟨g, k * 2, none⟩ = some (.int .i64 (dk k).k) := (HR.out.cell (i := k) (by omega) (c := 0) (by omega)).1
          have p1 : wr.cell? ⟨g, k * 2 + 1, none⟩ = some (.int .i64 (dk k).v) := (HR.out.cell (i := k) (by omega) (c := 1) (by omega)).1
          have q0 : wr.cell? ⟨g, (k + 1) * 2, none⟩ = some (.int .i64 (dk (k + 1)).k) := (HR.out.cell (i := k + 1) (by omega) (c := 0) (by omega)).1
          have q1 : wr.cell? ⟨g, (k + 1) * 2 + 1, none⟩ = some (.int .i64 (dk (k + 1)).v) := (HR.out.cell (i := k + 1) (by omega) (c := 1) (by omega)).1
          have r0 : wr.frozen? ⟨g, k * 2, none⟩ = false := (HR.out.cell (i := k) (by omega) (c := 0) (by omega)).2
          have r1 : wr.frozen? ⟨g, k * 2 + 1, none⟩ = false := (HR.out.cell (i := k) (by omega) (c := 1) (by omega)).2
          have s0 : wr.frozen? ⟨g, (k + 1) * 2, none⟩ = false := (HR.out.cell (i := k + 1) (by omega) (c := 0) (by omega)).2
          have s1 : wr.frozen? ⟨g, (k + 1) * 2 + 1, none⟩ = false := (HR.out.cell (i := k + 1) (by omega) (c := 1) (by omega)).2
          go_wp2_with fail
          go_region
          obtain ⟨W2, hW2⟩ : ∃ W2, W2 = (setManyM g (setManyM g wr (k * 2) (encP (dk (k + 1)))) ((k + 1) * 2) (encP (dk k))).drew := ⟨_, rfl⟩
          have HW2 : Hid _ := hW2
          simp only [setManyM, encP] at hW2
          rw [← hW2]
          clear hW2 p0 q0 r0 s0 p1 q1 r1 s1
          obtain ⟨u1, u2, u3⟩ := swappedP HR.out HG.out HW2.out
          have HR2 : Hid (RowP _ _ _ _) := u1
          have HG2 : Hid _ := u2
          clear u1 u2 HW2
          go_wp2_with fail
          refine ⟨⟨k + 1, by omega, by omega, by go_num, by rw [← HST.out]; exact HR2.out, HG2.out, ?_⟩, by simp [intOf] <;> omega⟩
          rw [← HST.out]
          exact HS.out.step _ _ (by omega) (by omega)
        · obtain rfl : k = i - 1 := by omega
          have HR : Hid (RowP _ _ _ _) := hrow
          have k6 : ¬ ((i - 1 : Nat) : Int) < (i : Int) - 1 := by omega
          clear hrow hgr hsw
          go_wp2_with fail
          (try simp only [Exit.inBlock, Exit.then])
          refine bodyPost_ret (results_none rfl _ _ _) rfl ?_
          exact ⟨rfl, _, HR.out, HG.out, HS.out, FIN.out⟩

set_option maxRecDepth 100000 in
set_option maxHeartbeats 4000000 in
theorem symLastP (g n cap a m b : Nat) (d : Nat → PrX) (w : World) (hr : RowP w g n d) (hg : g < w.heap.size) (ham : a < m) (hmb : m < b) (hb : b ≤ n) (hn : n ≤ 1000000) (hL : SortedOn keyP PrX.pos a m d) (hR : SortedOn keyP PrX.pos m b d) (hA : Apart PrX.pos a m b d) (h1m : m ≠ a + 1) (h2m : b = m + 1) :
    Calls Try.prog 101 #[.slice (some ⟨g, 0, none⟩) n cap, .int .i64 a, .int .i64 m, .int .i64 b, .func (.func 70) #[] #[]] w fun e w' => e = .returned (.tuple #[]) ∧ ∃ d', RowP w' g n d' ∧ w.grownBy w' (some g) ∧ Swaps a b d d' ∧ SortedOn keyP PrX.pos a b d' := by
  have HR0 : Hid (RowP _ _ _ _) := hr
  have HL : Hid _ := hL
  have HRR : Hid _ := hR
  have HA : Hid _ := hA
  clear hr hL hR hA
  have t1 : ((m : Int) - (a : Int) == 1) = false := by rw [beq_eq_false_iff_ne]; omega
  have t2 : ((b : Int) - (m : Int) == 1) = true := by rw [beq_iff_eq]; omega
  have a0 : (0 : Int) ≤ (m : Int) := Int.natCast_nonneg _
  have H2M : Hid _ := h2m
  clear h2m h1m
  have HJ : Hid (m ≤ n) := Nat.le_trans (Nat.le_of_lt hmb) hb
  have a1 : (m : Int) < (n : Int) := by omega
  go_enter Try.func101, Try.ntmps101
  go_wp2_with fail
  go_loopw [14, 15] (fun iv jv wr => ∃ i j : Nat, a ≤ i ∧ i ≤ j ∧ j ≤ m ∧ iv = .int .i64 i ∧ jv = .int .i64 j ∧ RowP wr g n d ∧ w.grownBy wr (some g) ∧ (∀ x, a ≤ x → x < i → keyP (d x) ≤ keyP (d m)) ∧ (∀ x, j ≤ x → x < m → keyP (d m) < keyP (d x))) (fun iv jv _ => (intOf jv).toNat - (intOf iv).toNat)
  case atStart => exact ⟨a, m, Nat.le_refl _, by omega, Nat.le_refl _, rfl, rfl, HR0.out, grown_reflM _ _, fun x h1 h2 => by omega, fun x h1 h2 => by omega⟩
  case round =>
    obtain ⟨i, j, hmi, hij, hjb, rfl, rfl, hrow, hgr, hlow, hhigh⟩ := hrel
    have HR : Hid (RowP _ _ _ _) := hrow
    have HG : Hid _ := hgr
    have HLO : Hid _ := hlow
    have HHI : Hid _ := hhigh
    have zg := hgr.size
    have hgw : g < wr.heap.size := by omega
    clear hrow hgr hlow hhigh
    by_cases hlt : i < j
    · have hltz : (i : Int) < (j : Int) := by omega
      obtain ⟨h, q1, q2, h0, h1, hlo, hhi⟩ := half_factsP (i := i) (j := j) (n := n) hlt (Nat.le_trans hjb HJ.out) hn
      obtain ⟨v, hv⟩ : ∃ v, cmpS (keyP (d m)) (keyP (d h)) = v := ⟨_, rfl⟩
      have HV : Hid _ := hv
      by_cases hk : keyP (d m) < keyP (d h)
      · have hv0 : v < 0 := by rw [← hv]; exact cmpS_neg.2 hk
        have NX : Hid (∀ x, h ≤ x → x < m → keyP (d m) < keyP (d x)) := by
          intro x hx hxm
          have := key_le HL.out (show a ≤ h by omega) hx hxm
          omega
        clear hv hk
        have p0 : wr.cell? ⟨g, m * 2, none⟩ = some (.int .i64 (d m).k) := (HR.out.cell (i := m) (by omega) (c := 0) (by omega)).1
        have p1 : wr.cell? ⟨g, m * 2 + 1, none⟩ = some (.int .i64 (d m).v) := (HR.out.cell (i := m) (by omega) (c := 1) (by omega)).1
        have q0 : wr.cell? ⟨g, h * 2, none⟩ = some (.int .i64 (d h).k) := (HR.out.cell (i := h) (by omega) (c := 0) (by omega)).1
        have q1 : wr.cell? ⟨g, h * 2 + 1, none⟩ = some (.int .i64 (d h).v) := (HR.out.cell (i := h) (by omega) (c := 1) (by omega)).1
        have y0 := BelowByM.cell hgw p0
        have z0 := BelowByM.cell hgw q0
        have y1 := BelowByM.cell hgw p1
        have z1 := BelowByM.cell hgw q1
        have SE : Hid (∀ p : BelowByM wr, Calls Try.prog 70 #[.agg #[.int .i64 (d m).k, .int .i64 (d m).v], .agg #[.int .i64 (d h).k, .int .i64 (d h).v]] p.W fun e w' => e = .returned (.int .i64 v) ∧ Below p.W.heap.size p.W w') := fun p => by rw [← HV.out]; exact closP_any (d m) (d h) p.W
        clear p0 q0 p1 q1
        go_wp2_with fail
        refine wp_region_belowM (by kernel_rfl) (by kernel_rfl) ?_
        repeat (go_big_quiet_step ((go_at_call 70; exact below_callM (SE.out _))))
        refine wpQuiet_nil ?_
        rintro _ ⟨p, rfl⟩
        have PB : Hid (Below wr.heap.size wr p.W) := p.h
        have HRp : Hid (RowP p.W g n d) := HR.out.below hgw p.h
        have zp := p.h.size
        clear SE y0 z0 y1 z1
        generalize p.W = wp at *
        clear p
        go_wp2_with fail
        exact ⟨⟨i, h, hmi, by omega, by omega, rfl, rfl, HRp.out, grown_trP HG.out (grown_of_belowP _ PB.out), HLO.out, NX.out⟩, by simp [intOf] <;> omega⟩
      · have hv0 : 0 ≤ v := by rw [← hv]; have := mt cmpS_neg.1 hk; omega
        have hv1 : ¬ v < 0 := by omega
        have hv2 : decide (v < 0) = false := by rw [decide_eq_false_iff_not]; omega
        have NX : Hid (∀ x, a ≤ x → x < h + 1 → keyP (d x) ≤ keyP (d m)) := by
          intro x hx hxh
          have := key_le HL.out hx (show x ≤ h by omega) (by omega)
          omega
        clear hv hk
        have p0 : wr.cell? ⟨g, m * 2, none⟩ = some (.int .i64 (d m).k) := (HR.out.cell (i := m) (by omega) (c := 0) (by omega)).1
        have p1 : wr.cell? ⟨g, m * 2 + 1, none⟩ = some (.int .i64 (d m).v) := (HR.out.cell (i := m) (by omega) (c := 1) (by omega)).1
        have q0 : wr.cell? ⟨g, h * 2, none⟩ = some (.int .i64 (d h).k) := (HR.out.cell (i := h) (by omega) (c := 0) (by omega)).1
        have q1 : wr.cell? ⟨g, h * 2 + 1, none⟩ = some (.int .i64 (d h).v) := (HR.out.cell (i := h) (by omega) (c := 1) (by omega)).1
        have y0 := BelowByM.cell hgw p0
        have z0 := BelowByM.cell hgw q0
        have y1 := BelowByM.cell hgw p1
        have z1 := BelowByM.cell hgw q1
        have SE : Hid (∀ p : BelowByM wr, Calls Try.prog 70 #[.agg #[.int .i64 (d m).k, .int .i64 (d m).v], .agg #[.int .i64 (d h).k, .int .i64 (d h).v]] p.W fun e w' => e = .returned (.int .i64 v) ∧ Below p.W.heap.size p.W w') := fun p => by rw [← HV.out]; exact closP_any (d m) (d h) p.W
        clear p0 q0 p1 q1
        go_wp2_with fail
        refine wp_region_belowM (by kernel_rfl) (by kernel_rfl) ?_
        repeat (go_big_quiet_step ((go_at_call 70; exact below_callM (SE.out _))))
        refine wpQuiet_nil ?_
        rintro _ ⟨p, rfl⟩
        have PB : Hid (Below wr.heap.size wr p.W) := p.h
        have HRp : Hid (RowP p.W g n d) := HR.out.below hgw p.h
        have zp := p.h.size
        clear SE y0 z0 y1 z1
        generalize p.W = wp at *
        clear p
        go_wp2_with fail
        exact ⟨⟨h + 1, j, by omega, by omega, hjb, by go_num, rfl, HRp.out, grown_trP HG.out (grown_of_belowP _ PB.out), NX.out, HHI.out⟩, by simp [intOf] <;> omega⟩
    · obtain rfl : i = j := by omega
      have hltz : ¬ (i : Int) < (i : Int) := by omega
      have FIN : Hid (SortedOn keyP PrX.pos a b (rrF d m i)) := by
        have h2m := H2M.out
        subst h2m
        exact merge_last HL.out HA.out hmi hjb (fun x q1 q2 => by have := HLO.out x q1 q2; omega) HHI.out
      generalize wr = W1 at *
      have HR1 : Hid (RowP _ _ _ _) := HR.out
      have HG1 : Hid _ := HG.out
      clear HR HG HLO HHI
      go_wp2_with fail
      go_loopw [17] (fun kv wr => ∃ k : Nat, i ≤ k ∧ k ≤ m ∧ kv = .int .i64 k ∧ RowP wr g n (rrF d m k) ∧ w.grownBy wr (some g) ∧ Swaps a b d (rrF d m k)) (fun kv _ => (intOf kv).toNat)
      case atStart => exact ⟨m, by omega, Nat.le_refl _, rfl, by rw [rrF_start]; exact HR1.out, HG1.out, by rw [rrF_start]; exact Swaps.refl _⟩
      case round =>
        obtain ⟨k, hik, hkm, rfl, hrow, hgr, hsw⟩ := hrel
        have HG : Hid _ := hgr
        have HS : Hid _ := hsw
        have zg2 := hgr.size
        by_cases hlt : i < k
        · obtain ⟨kp, rfl⟩ : ∃ kp, k = kp + 1 := ⟨k - 1, by omega⟩
          have HST : Hid _ := rrF_step d m kp hkm
          generalize rrF d m (kp + 1) = dk at *
          have HR : Hid (RowP _ _ _ _) := hrow
          have hgw2 : g < wr.heap.size := by omega
          clear hrow hgr hsw
          have k0 : (0 : Int) ≤ (kp : Int) := Int.natCast_nonneg _
          have k1 : (kp : Int) < (n : Int) := by omega
          have k2 : (0 : Int) ≤ (kp : Int) + 1 := by omega
          have k3 : (kp : Int) + 1 < (n : Int) := by omega
          have k4 : ((kp : Int) + 1).toNat = kp + 1 := by omega
          have k5 : IntKind.i64.wrap (kp : Int) = (kp : Int) := by rw [IntKind.wrap_i64] <;> omega
          have k7 : IntKind.i64.wrap ((kp : Int) + 1 - 1) = (kp : Int) := by rw [IntKind.wrap_i64] <;> omega
          have k6 : (i : Int) < (kp : Int) + 1 := by omega
          have p0 : wr.cell? ⟨g, (kp + 1) * 2, none⟩ = some (.int .i64 (dk (kp + 1)).k) := (HR.out.cell (i := kp + 1) (by omega) (c := 0) (by omega)).1
          have p1 : wr.cell? ⟨g, (kp + 1) * 2 + 1, none⟩ = some (.int .i64 (dk (kp + 1)).v) := (HR.out.cell (i := kp + 1) (by omega) (c := 1) (by omega)).1
          have q0 : wr.cell? ⟨g, kp * 2, none⟩ = some (.int .i64 (dk kp).k) := (HR.out.cell (i := kp) (by omega) (c := 0) (by omega)).1
          have q1 : wr.cell? ⟨g, kp * 2 + 1, none⟩ = some (.int .i64 (dk kp).v) := (HR.out.cell (i := kp) (by omega) (c := 1) (by omega)).1
          have r0 : wr.frozen? ⟨g, (kp + 1) * 2, none⟩ = false := (HR.out.cell (i := kp + 1) (by omega) (c := 0) (by omega)).2
          have r1 : wr.frozen? ⟨g, (kp + 1) * 2 + 1, none⟩ = false := (HR.out.cell (i := kp + 1) (by omega) (c := 1) (by omega)).2
          have s0 : wr.frozen? ⟨g, kp * 2, none⟩ = false := (HR.out.cell (i := kp) (by omega) (c := 0) (by omega)).2
          have s1 : wr.frozen? ⟨g, kp * 2 + 1, none⟩ = false := (HR.out.cell (i := kp) (by omega) (c := 1) (by omega)).2
          go_wp2_with fail
          go_region
          obtain ⟨W2, hW2⟩ : ∃ W2, W2 = (setManyM g (setManyM g wr ((kp + 1) * 2) (encP (dk kp))) (kp * 2) (encP (dk (kp + 1)))).drew := ⟨_, rfl⟩
          have HW2 : Hid _ := hW2
          simp only [setManyM, encP] at hW2
          rw [← hW2]
          clear hW2 p0 q0 r0 s0 p1 q1 r1 s1
          obtain ⟨u1, u2, u3⟩ := swappedP HR.out HG.out HW2.out
          have HR2 : Hid (RowP _ _ _ _) := u1
          have HG2 : Hid _ := u2
          clear u1 u2 HW2
          go_wp2_with fail
          refine ⟨⟨kp, by omega, by omega, by first | rfl | go_num | (congr 1; omega), by rw [← HST.out]; exact HR2.out, HG2.out, ?_⟩, by simp [intOf] <;> omega⟩
          rw [← HST.out]
          exact HS.out.step _ _ (by omega) (by omega)
        · obtain rfl : k = i := by omega
          have HR : Hid (RowP _ _ _ _) := hrow
          have k6 : ¬ (k : Int) < (k : Int) := by omega
          clear hrow hgr hsw
          go_wp2_with fail
          (try simp only [Exit.inBlock, Exit.then])
          refine bodyPost_ret (results_none rfl _ _ _) rfl ?_
          exact ⟨rfl, _, HR.out, HG.out, HS.out, FIN.out⟩
end Go.Proofs.Ytljidfaeljpnpaa
