/- slices.symMergeCmpFunc: one in front, one behind. -/
import Derived.Test.YtniognoapcaliaaSEIns
namespace Go.Proofs.Ytniognoapcaliaa
open Go.RowKit
attribute [local go_sem ↓] Go.wp_at_zero Go.wp_at_succ

theorem half_factsE {i j n : Nat} (h : i < j) (hj : j ≤ n) (hn : n ≤ 1000000) : ∃ h : Nat, wrap64 (IntKind.u64.wrap (wrap64 ((i : Int) + (j : Int))) / 2) = (h : Int) ∧ ((i : Int) + (j : Int)) / 2 = (h : Int) ∧ (0 : Int) ≤ (h : Int) ∧ (h : Int) < (n : Int) ∧ i ≤ h ∧ h < j := by
  refine ⟨(i + j) / 2, ?_, by omega, by omega, by omega, by omega, by omega⟩
  have e : IntKind.u64.wrap (wrap64 ((i : Int) + (j : Int))) = (i : Int) + (j : Int) := by
    simp only [IntKind.wrap, IntKind.bits, IntKind.signed, wrap64]; simp; omega
  rw [e]; unfold wrap64; omega
/-- What symMerge does with a range of at most so many. -/
def SymE (len : Nat) : Prop := ∀ (g n cap a m b : Nat) (d : Nat → EvX) (w : World), b - a ≤ len → RowE w g n d → g < w.heap.size → a < m → m < b → b ≤ n → n ≤ 1000000 → SortedOn keyE EvX.pos a m d → SortedOn keyE EvX.pos m b d → Apart EvX.pos a m b d →
  Calls Try.prog 130 #[.slice (some ⟨g, 0, none⟩) n cap, .int .i64 a, .int .i64 m, .int .i64 b, .func (.func 94) #[] #[]] w fun e w' => e = .returned (.tuple #[]) ∧ ∃ d', RowE w' g n d' ∧ w.grownBy w' (some g) ∧ Swaps a b d d' ∧ SortedOn keyE EvX.pos a b d'

set_option maxRecDepth 100000 in
set_option maxHeartbeats 4000000 in
theorem symFirstE (g n cap a m b : Nat) (d : Nat → EvX) (w : World) (hr : RowE w g n d) (hg : g < w.heap.size) (ham : a < m) (hmb : m < b) (hb : b ≤ n) (hn : n ≤ 1000000) (hL : SortedOn keyE EvX.pos a m d) (hR : SortedOn keyE EvX.pos m b d) (hA : Apart EvX.pos a m b d) (h1m : m = a + 1) :
    Calls Try.prog 130 #[.slice (some ⟨g, 0, none⟩) n cap, .int .i64 a, .int .i64 m, .int .i64 b, .func (.func 94) #[] #[]] w fun e w' => e = .returned (.tuple #[]) ∧ ∃ d', RowE w' g n d' ∧ w.grownBy w' (some g) ∧ Swaps a b d d' ∧ SortedOn keyE EvX.pos a b d' := by
  have HR0 : Hid (RowE _ _ _ _) := hr
  have HL : Hid _ := hL
  have HRR : Hid _ := hR
  have HA : Hid _ := hA
  clear hr hL hR hA
  have t1 : ((m : Int) - (a : Int) == 1) = true := by rw [beq_iff_eq]; omega
  have a0 : (0 : Int) ≤ (a : Int) := Int.natCast_nonneg _
  have HJ : Hid (b ≤ n) := hb
  have H1M : Hid _ := h1m
  clear h1m
  have a1 : (a : Int) < (n : Int) := by omega
  go_enter Try.func130, Try.ntmps130
  go_wp2_with fail
  go_loopw [10, 11] (fun iv jv wr => ∃ i j : Nat, m ≤ i ∧ i ≤ j ∧ j ≤ b ∧ iv = .int .i64 i ∧ jv = .int .i64 j ∧ RowE wr g n d ∧ w.grownBy wr (some g) ∧ (∀ x, m ≤ x → x < i → keyE (d x) < keyE (d a)) ∧ (∀ x, j ≤ x → x < b → keyE (d a) ≤ keyE (d x))) (fun iv jv _ => (intOf jv).toNat - (intOf iv).toNat)
  case atStart => exact ⟨m, b, Nat.le_refl _, by omega, Nat.le_refl _, rfl, rfl, HR0.out, grown_refl _ _, fun x h1 h2 => by omega, fun x h1 h2 => by omega⟩
  case round =>
    obtain ⟨i, j, hmi, hij, hjb, rfl, rfl, hrow, hgr, hlow, hhigh⟩ := hrel
    have HR : Hid (RowE _ _ _ _) := hrow
    have HG : Hid _ := hgr
    have HLO : Hid _ := hlow
    have HHI : Hid _ := hhigh
    have zg := hgr.size
    have hgw : g < wr.heap.size := by omega
    clear hrow hgr hlow hhigh
    by_cases hlt : i < j
    · have hltz : (i : Int) < (j : Int) := by omega
      obtain ⟨h, q1, q2, h0, h1, hlo, hhi⟩ := half_factsE (i := i) (j := j) (n := n) hlt (Nat.le_trans hjb HJ.out) hn
      obtain ⟨v, hv⟩ : ∃ v, cmpS (keyE (d h)) (keyE (d a)) = v := ⟨_, rfl⟩
      have HV : Hid _ := hv
      by_cases hk : keyE (d h) < keyE (d a)
      · have hv0 : v < 0 := by rw [← hv]; exact cmpS_neg.2 hk
        have NX : Hid (∀ x, m ≤ x → x < h + 1 → keyE (d x) < keyE (d a)) := by
          intro x hx hxh
          have := key_le HRR.out hx (show x ≤ h by omega) (by omega)
          omega
        clear hv hk
        have p0 : wr.cell? ⟨g, h * 10, none⟩ = some (.int .i64 (d h).e.th) := (HR.out.cell (i := h) (by omega) (c := 0) (by omega)).1
        have p1 : wr.cell? ⟨g, h * 10 + 1, none⟩ = some (.bool (d h).e.ret) := (HR.out.cell (i := h) (by omega) (c := 1) (by omega)).1
        have p2 : wr.cell? ⟨g, h * 10 + 2, none⟩ = some (.int .i64 (d h).e.op.kind) := (HR.out.cell (i := h) (by omega) (c := 2) (by omega)).1
        have p3 : wr.cell? ⟨g, h * 10 + 3, none⟩ = some (.int .i64 (d h).e.op.key) := (HR.out.cell (i := h) (by omega) (c := 3) (by omega)).1
        have p4 : wr.cell? ⟨g, h * 10 + 4, none⟩ = some (.int .i64 (d h).e.op.val) := (HR.out.cell (i := h) (by omega) (c := 4) (by omega)).1
        have p5 : wr.cell? ⟨g, h * 10 + 5, none⟩ = some (.int .i64 (d h).e.op.hi) := (HR.out.cell (i := h) (by omega) (c := 5) (by omega)).1
        have p6 : wr.cell? ⟨g, h * 10 + 6, none⟩ = some (.bool (d h).e.rt.ok) := (HR.out.cell (i := h) (by omega) (c := 6) (by omega)).1
        have p7 : wr.cell? ⟨g, h * 10 + 7, none⟩ = some (.int .i64 (d h).e.rt.key) := (HR.out.cell (i := h) (by omega) (c := 7) (by omega)).1
        have p8 : wr.cell? ⟨g, h * 10 + 8, none⟩ = some (.int .i64 (d h).e.rt.val) := (HR.out.cell (i := h) (by omega) (c := 8) (by omega)).1
        have p9 : wr.cell? ⟨g, h * 10 + 9, none⟩ = some (.slice (d h).a (d h).e.rt.pairs.length (d h).c) := (HR.out.cell (i := h) (by omega) (c := 9) (by omega)).1
        have q0 : wr.cell? ⟨g, a * 10, none⟩ = some (.int .i64 (d a).e.th) := (HR.out.cell (i := a) (by omega) (c := 0) (by omega)).1
        have q1 : wr.cell? ⟨g, a * 10 + 1, none⟩ = some (.bool (d a).e.ret) := (HR.out.cell (i := a) (by omega) (c := 1) (by omega)).1
        have q2 : wr.cell? ⟨g, a * 10 + 2, none⟩ = some (.int .i64 (d a).e.op.kind) := (HR.out.cell (i := a) (by omega) (c := 2) (by omega)).1
        have q3 : wr.cell? ⟨g, a * 10 + 3, none⟩ = some (.int .i64 (d a).e.op.key) := (HR.out.cell (i := a) (by omega) (c := 3) (by omega)).1
        have q4 : wr.cell? ⟨g, a * 10 + 4, none⟩ = some (.int .i64 (d a).e.op.val) := (HR.out.cell (i := a) (by omega) (c := 4) (by omega)).1
        have q5 : wr.cell? ⟨g, a * 10 + 5, none⟩ = some (.int .i64 (d a).e.op.hi) := (HR.out.cell (i := a) (by omega) (c := 5) (by omega)).1
        have q6 : wr.cell? ⟨g, a * 10 + 6, none⟩ = some (.bool (d a).e.rt.ok) := (HR.out.cell (i := a) (by omega) (c := 6) (by omega)).1
        have q7 : wr.cell? ⟨g, a * 10 + 7, none⟩ = some (.int .i64 (d a).e.rt.key) := (HR.out.cell (i := a) (by omega) (c := 7) (by omega)).1
        have q8 : wr.cell? ⟨g, a * 10 + 8, none⟩ = some (.int .i64 (d a).e.rt.val) := (HR.out.cell (i := a) (by omega) (c := 8) (by omega)).1
        have q9 : wr.cell? ⟨g, a * 10 + 9, none⟩ = some (.slice (d a).a (d a).e.rt.pairs.length (d a).c) := (HR.out.cell (i := a) (by omega) (c := 9) (by omega)).1
        have y0 := BelowBy.cell hgw p0
        have z0 := BelowBy.cell hgw q0
        have y1 := BelowBy.cell hgw p1
        have z1 := BelowBy.cell hgw q1
        have y2 := BelowBy.cell hgw p2
        have z2 := BelowBy.cell hgw q2
        have y3 := BelowBy.cell hgw p3
        have z3 := BelowBy.cell hgw q3
        have y4 := BelowBy.cell hgw p4
        have z4 := BelowBy.cell hgw q4
        have y5 := BelowBy.cell hgw p5
        have z5 := BelowBy.cell hgw q5
        have y6 := BelowBy.cell hgw p6
        have z6 := BelowBy.cell hgw q6
        have y7 := BelowBy.cell hgw p7
        have z7 := BelowBy.cell hgw q7
        have y8 := BelowBy.cell hgw p8
        have z8 := BelowBy.cell hgw q8
        have y9 := BelowBy.cell hgw p9
        have z9 := BelowBy.cell hgw q9
        have SE : Hid (∀ p : BelowBy wr, Calls Try.prog 94 #[.agg #[.int .i64 (d h).e.th, .bool (d h).e.ret, .int .i64 (d h).e.op.kind, .int .i64 (d h).e.op.key, .int .i64 (d h).e.op.val, .int .i64 (d h).e.op.hi, .bool (d h).e.rt.ok, .int .i64 (d h).e.rt.key, .int .i64 (d h).e.rt.val, .slice (d h).a (d h).e.rt.pairs.length (d h).c], .agg #[.int .i64 (d a).e.th, .bool (d a).e.ret, .int .i64 (d a).e.op.kind, .int .i64 (d a).e.op.key, .int .i64 (d a).e.op.val, .int .i64 (d a).e.op.hi, .bool (d a).e.rt.ok, .int .i64 (d a).e.rt.key, .int .i64 (d a).e.rt.val, .slice (d a).a (d a).e.rt.pairs.length (d a).c]] p.W fun e w' => e = .returned (.int .i64 v) ∧ Below p.W.heap.size p.W w') := fun p => by rw [← HV.out]; exact closE_any (d h) (d a) p.W
        clear p0 q0 p1 q1 p2 q2 p3 q3 p4 q4 p5 q5 p6 q6 p7 q7 p8 q8 p9 q9
        go_wp2_with fail
        refine wp_region_below (by kernel_rfl) (by kernel_rfl) ?_
        repeat (go_big_quiet_step ((go_at_call 94; exact below_call (SE.out _))))
        refine wpQuiet_nil ?_
        rintro _ ⟨p, rfl⟩
        have PB : Hid (Below wr.heap.size wr p.W) := p.h
        have HRp : Hid (RowE p.W g n d) := HR.out.below hgw p.h
        have zp := p.h.size
        clear SE y0 z0 y1 z1 y2 z2 y3 z3 y4 z4 y5 z5 y6 z6 y7 z7 y8 z8 y9 z9
        generalize p.W = wp at *
        clear p
        go_wp2_with fail
        exact ⟨⟨h + 1, j, by omega, by omega, hjb, by go_num, rfl, HRp.out, grown_trE HG.out (grown_of_belowE _ PB.out), NX.out, HHI.out⟩, by simp [intOf] <;> omega⟩
      · have hv0 : 0 ≤ v := by rw [← hv]; have := mt cmpS_neg.1 hk; omega
        have hv1 : ¬ v < 0 := by omega
        have hv2 : decide (v < 0) = false := by rw [decide_eq_false_iff_not]; omega
        have NX : Hid (∀ x, h ≤ x → x < b → keyE (d a) ≤ keyE (d x)) := by
          intro x hx hxb
          have := key_le HRR.out (show m ≤ h by omega) hx hxb
          omega
        clear hv hk
        have p0 : wr.cell? ⟨g, h * 10, none⟩ = some (.int .i64 (d h).e.th) := (HR.out.cell (i := h) (by omega) (c := 0) (by omega)).1
        have p1 : wr.cell? ⟨g, h * 10 + 1, none⟩ = some (.bool (d h).e.ret) := (HR.out.cell (i := h) (by omega) (c := 1) (by omega)).1
        have p2 : wr.cell? ⟨g, h * 10 + 2, none⟩ = some (.int .i64 (d h).e.op.kind) := (HR.out.cell (i := h) (by omega) (c := 2) (by omega)).1
        have p3 : wr.cell? ⟨g, h * 10 + 3, none⟩ = some (.int .i64 (d h).e.op.key) := (HR.out.cell (i := h) (by omega) (c := 3) (by omega)).1
        have p4 : wr.cell? ⟨g, h * 10 + 4, none⟩ = some (.int .i64 (d h).e.op.val) := (HR.out.cell (i := h) (by omega) (c := 4) (by omega)).1
        have p5 : wr.cell? ⟨g, h * 10 + 5, none⟩ = some (.int .i64 (d h).e.op.hi) := (HR.out.cell (i := h) (by omega) (c := 5) (by omega)).1
        have p6 : wr.cell? ⟨g, h * 10 + 6, none⟩ = some (.bool (d h).e.rt.ok) := (HR.out.cell (i := h) (by omega) (c := 6) (by omega)).1
        have p7 : wr.cell? ⟨g, h * 10 + 7, none⟩ = some (.int .i64 (d h).e.rt.key) := (HR.out.cell (i := h) (by omega) (c := 7) (by omega)).1
        have p8 : wr.cell? ⟨g, h * 10 + 8, none⟩ = some (.int .i64 (d h).e.rt.val) := (HR.out.cell (i := h) (by omega) (c := 8) (by omega)).1
        have p9 : wr.cell? ⟨g, h * 10 + 9, none⟩ = some (.slice (d h).a (d h).e.rt.pairs.length (d h).c) := (HR.out.cell (i := h) (by omega) (c := 9) (by omega)).1
        have q0 : wr.cell? ⟨g, a * 10, none⟩ = some (.int .i64 (d a).e.th) := (HR.out.cell (i := a) (by omega) (c := 0) (by omega)).1
        have q1 : wr.cell? ⟨g, a * 10 + 1, none⟩ = some (.bool (d a).e.ret) := (HR.out.cell (i := a) (by omega) (c := 1) (by omega)).1
        have q2 : wr.cell? ⟨g, a * 10 + 2, none⟩ = some (.int .i64 (d a).e.op.kind) := (HR.out.cell (i := a) (by omega) (c := 2) (by omega)).1
        have q3 : wr.cell? ⟨g, a * 10 + 3, none⟩ = some (.int .i64 (d a).e.op.key) := (HR.out.cell (i := a) (by omega) (c := 3) (by omega)).1
        have q4 : wr.cell? ⟨g, a * 10 + 4, none⟩ = some (.int .i64 (d a).e.op.val) := (HR.out.cell (i := a) (by omega) (c := 4) (by omega)).1
        have q5 : wr.cell? ⟨g, a * 10 + 5, none⟩ = some (.int .i64 (d a).e.op.hi) := (HR.out.cell (i := a) (by omega) (c := 5) (by omega)).1
        have q6 : wr.cell? ⟨g, a * 10 + 6, none⟩ = some (.bool (d a).e.rt.ok) := (HR.out.cell (i := a) (by omega) (c := 6) (by omega)).1
        have q7 : wr.cell? ⟨g, a * 10 + 7, none⟩ = some (.int .i64 (d a).e.rt.key) := (HR.out.cell (i := a) (by omega) (c := 7) (by omega)).1
        have q8 : wr.cell? ⟨g, a * 10 + 8, none⟩ = some (.int .i64 (d a).e.rt.val) := (HR.out.cell (i := a) (by omega) (c := 8) (by omega)).1
        have q9 : wr.cell? ⟨g, a * 10 + 9, none⟩ = some (.slice (d a).a (d a).e.rt.pairs.length (d a).c) := (HR.out.cell (i := a) (by omega) (c := 9) (by omega)).1
        have y0 := BelowBy.cell hgw p0
        have z0 := BelowBy.cell hgw q0
        have y1 := BelowBy.cell hgw p1
        have z1 := BelowBy.cell hgw q1
        have y2 := BelowBy.cell hgw p2
        have z2 := BelowBy.cell hgw q2
        have y3 := BelowBy.cell hgw p3
        have z3 := BelowBy.cell hgw q3
        have y4 := BelowBy.cell hgw p4
        have z4 := BelowBy.cell hgw q4
        have y5 := BelowBy.cell hgw p5
        have z5 := BelowBy.cell hgw q5
        have y6 := BelowBy.cell hgw p6
        have z6 := BelowBy.cell hgw q6
        have y7 := BelowBy.cell hgw p7
        have z7 := BelowBy.cell hgw q7
        have y8 := BelowBy.cell hgw p8
        have z8 := BelowBy.cell hgw q8
        have y9 := BelowBy.cell hgw p9
        have z9 := BelowBy.cell hgw q9
        have SE : Hid (∀ p : BelowBy wr, Calls Try.prog 94 #[.agg #[.int .i64 (d h).e.th, .bool (d h).e.ret, .int .i64 (d h).e.op.kind, .int .i64 (d h).e.op.key, .int .i64 (d h).e.op.val, .int .i64 (d h).e.op.hi, .bool (d h).e.rt.ok, .int .i64 (d h).e.rt.key, .int .i64 (d h).e.rt.val, .slice (d h).a (d h).e.rt.pairs.length (d h).c], .agg #[.int .i64 (d a).e.th, .bool (d a).e.ret, .int .i64 (d a).e.op.kind, .int .i64 (d a).e.op.key, .int .i64 (d a).e.op.val, .int .i64 (d a).e.op.hi, .bool (d a).e.rt.ok, .int .i64 (d a).e.rt.key, .int .i64 (d a).e.rt.val, .slice (d a).a (d a).e.rt.pairs.length (d a).c]] p.W fun e w' => e = .returned (.int .i64 v) ∧ Below p.W.heap.size p.W w') := fun p => by rw [← HV.out]; exact closE_any (d h) (d a) p.W
        clear p0 q0 p1 q1 p2 q2 p3 q3 p4 q4 p5 q5 p6 q6 p7 q7 p8 q8 p9 q9
        go_wp2_with fail
        refine wp_region_below (by kernel_rfl) (by kernel_rfl) ?_
        repeat (go_big_quiet_step ((go_at_call 94; exact below_call (SE.out _))))
        refine wpQuiet_nil ?_
        rintro _ ⟨p, rfl⟩
        have PB : Hid (Below wr.heap.size wr p.W) := p.h
        have HRp : Hid (RowE p.W g n d) := HR.out.below hgw p.h
        have zp := p.h.size
        clear SE y0 z0 y1 z1 y2 z2 y3 z3 y4 z4 y5 z5 y6 z6 y7 z7 y8 z8 y9 z9
        generalize p.W = wp at *
        clear p
        go_wp2_with fail
        exact ⟨⟨i, h, hmi, by omega, by omega, rfl, rfl, HRp.out, grown_trE HG.out (grown_of_belowE _ PB.out), HLO.out, NX.out⟩, by simp [intOf] <;> omega⟩
    · obtain rfl : i = j := by omega
      have hltz : ¬ (i : Int) < (i : Int) := by omega
      have FIN : Hid (SortedOn keyE EvX.pos a b (rlF d a (i - 1))) := by
        have h1m := H1M.out
        subst h1m
        exact merge_first HRR.out HA.out hmi hjb HLO.out (fun x q1 q2 => by have := HHI.out x q1 q2; omega)
      generalize wr = W1 at *
      have HR1 : Hid (RowE _ _ _ _) := HR.out
      have HG1 : Hid _ := HG.out
      clear HR HG HLO HHI
      go_wp2_with fail
      go_loopw [13] (fun kv wr => ∃ k : Nat, a ≤ k ∧ k ≤ i - 1 ∧ kv = .int .i64 k ∧ RowE wr g n (rlF d a k) ∧ w.grownBy wr (some g) ∧ Swaps a b d (rlF d a k)) (fun kv _ => i - (intOf kv).toNat)
      case atStart => exact ⟨a, Nat.le_refl _, by omega, rfl, by rw [rlF_start]; exact HR1.out, HG1.out, by rw [rlF_start]; exact Swaps.refl _⟩
      case round =>
        obtain ⟨k, hak, hki, rfl, hrow, hgr, hsw⟩ := hrel
        have HG : Hid _ := hgr
        have HS : Hid _ := hsw
        have zg2 := hgr.size
        by_cases hlt : k < i - 1
        · have HST : Hid _ := rlF_step d a k hak
          generalize rlF d a k = dk at *
          have HR : Hid (RowE _ _ _ _) := hrow
          have hgw2 : g < wr.heap.size := by omega
          clear hrow hgr hsw
          have k0 : (0 : Int) ≤ (k : Int) := Int.natCast_nonneg _
          have k1 : (k : Int) < (n : Int) := by omega
          have k2 : (0 : Int) ≤ (k : Int) + 1 := by omega
          have k3 : (k : Int) + 1 < (n : Int) := by omega
          have k4 : ((k : Int) + 1).toNat = k + 1 := by omega
          have k5 : IntKind.i64.wrap ((k : Int) + 1) = (k : Int) + 1 := by rw [IntKind.wrap_i64] <;> omega
          have k6 : (k : Int) < (i : Int) - 1 := by omega
          have p0 : wr.cell? ⟨g, k * 10, none⟩ = some (.int .i64 (dk k).e.th) := (HR.out.cell (i := k) (by omega) (c := 0) (by omega)).1
          have p1 : wr.cell? ⟨g, k * 10 + 1, none⟩ = some (.bool (dk k).e.ret) := (HR.out.cell (i := k) (by omega) (c := 1) (by omega)).1
          have p2 : wr.cell? ⟨g, k * 10 + 2, none⟩ = some (.int .i64 (dk k).e.op.kind) := (HR.out.cell (i := k) (by omega) (c := 2) (by omega)).1
          have p3 : wr.cell? ⟨g, k * 10 + 3, none⟩ = some (.int .i64 (dk k).e.op.key) := (HR.out.cell (i := k) (by omega) (c := 3) (by omega)).1
          have p4 : wr.cell? ⟨g, k * 10 + 4, none⟩ = some (.int .i64 (dk k).e.op.val) := (HR.out.cell (i := k) (by omega) (c := 4) (by omega)).1
          have p5 : wr.cell? ⟨g, k * 10 + 5, none⟩ = some (.int .i64 (dk k).e.op.hi) := (HR.out.cell (i := k) (by omega) (c := 5) (by omega)).1
          have p6 : wr.cell? ⟨g, k * 10 + 6, none⟩ = some (.bool (dk k).e.rt.ok) := (HR.out.cell (i := k) (by omega) (c := 6) (by omega)).1
          have p7 : wr.cell? ⟨g, k * 10 + 7, none⟩ = some (.int .i64 (dk k).e.rt.key) := (HR.out.cell (i := k) (by omega) (c := 7) (by omega)).1
          have p8 : wr.cell? ⟨g, k * 10 + 8, none⟩ = some (.int .i64 (dk k).e.rt.val) := (HR.out.cell (i := k) (by omega) (c := 8) (by omega)).1
          have p9 : wr.cell? ⟨g, k * 10 + 9, none⟩ = some (.slice (dk k).a (dk k).e.rt.pairs.length (dk k).c) := (HR.out.cell (i := k) (by omega) (c := 9) (by omega)).1
          have q0 : wr.cell? ⟨g, (k + 1) * 10, none⟩ = some (.int .i64 (dk (k + 1)).e.th) := (HR.out.cell (i := k + 1) (by omega) (c := 0) (by omega)).1
          have q1 : wr.cell? ⟨g, (k + 1) * 10 + 1, none⟩ = some (.bool (dk (k + 1)).e.ret) := (HR.out.cell (i := k + 1) (by omega) (c := 1) (by omega)).1
          have q2 : wr.cell? ⟨g, (k + 1) * 10 + 2, none⟩ = some (.int .i64 (dk (k + 1)).e.op.kind) := (HR.out.cell (i := k + 1) (by omega) (c := 2) (by omega)).1
          have q3 : wr.cell? ⟨g, (k + 1) * 10 + 3, none⟩ = some (.int .i64 (dk (k + 1)).e.op.key) := (HR.out.cell (i := k + 1) (by omega) (c := 3) (by omega)).1
          have q4 : wr.cell? ⟨g, (k + 1) * 10 + 4, none⟩ = some (.int .i64 (dk (k + 1)).e.op.val) := (HR.out.cell (i := k + 1) (by omega) (c := 4) (by omega)).1
          have q5 : wr.cell? ⟨g, (k + 1) * 10 + 5, none⟩ = some (.int .i64 (dk (k + 1)).e.op.hi) := (HR.out.cell (i := k + 1) (by omega) (c := 5) (by omega)).1
          have q6 : wr.cell? ⟨g, (k + 1) * 10 + 6, none⟩ = some (.bool (dk (k + 1)).e.rt.ok) := (HR.out.cell (i := k + 1) (by omega) (c := 6) (by omega)).1
          have q7 : wr.cell? ⟨g, (k + 1) * 10 + 7, none⟩ = some (.int .i64 (dk (k + 1)).e.rt.key) := (HR.out.cell (i := k + 1) (by omega) (c := 7) (by omega)).1
          have q8 : wr.cell? ⟨g, (k + 1) * 10 + 8, none⟩ = some (.int .i64 (dk (k + 1)).e.rt.val) := (HR.out.cell (i := k + 1) (by omega) (c := 8) (by omega)).1
          have q9 : wr.cell? ⟨g, (k + 1) * 10 + 9, none⟩ = some (.slice (dk (k + 1)).a (dk (k + 1)).e.rt.pairs.length (dk (k + 1)).c) := (HR.out.cell (i := k + 1) (by omega) (c := 9) (by omega)).1
          have r0 : wr.frozen? ⟨g, k * 10, none⟩ = false := (HR.out.cell (i := k) (by omega) (c := 0) (by omega)).2
          have r1 : wr.frozen? ⟨g, k * 10 + 1, none⟩ = false := (HR.out.cell (i := k) (by omega) (c := 1) (by omega)).2
          have r2 : wr.frozen? ⟨g, k * 10 + 2, none⟩ = false := (HR.out.cell (i := k) (by omega) (c := 2) (by omega)).2
          have r3 : wr.frozen? ⟨g, k * 10 + 3, none⟩ = false := (HR.out.cell (i := k) (by omega) (c := 3) (by omega)).2
          have r4 : wr.frozen? ⟨g, k * 10 + 4, none⟩ = false := (HR.out.cell (i := k) (by omega) (c := 4) (by omega)).2
          have r5 : wr.frozen? ⟨g, k * 10 + 5, none⟩ = false := (HR.out.cell (i := k) (by omega) (c := 5) (by omega)).2
          have r6 : wr.frozen? ⟨g, k * 10 + 6, none⟩ = false := (HR.out.cell (i := k) (by omega) (c := 6) (by omega)).2
          have r7 : wr.frozen? ⟨g, k * 10 + 7, none⟩ = false := (HR.out.cell (i := k) (by omega) (c := 7) (by omega)).2
          have r8 : wr.frozen? ⟨g, k * 10 + 8, none⟩ = false := (HR.out.cell (i := k) (by omega) (c := 8) (by omega)).2
          have r9 : wr.frozen? ⟨g, k * 10 + 9, none⟩ = false := (HR.out.cell (i := k) (by omega) (c := 9) (by omega)).2
          have s0 : wr.frozen? ⟨g, (k + 1) * 10, none⟩ = false := (HR.out.cell (i := k + 1) (by omega) (c := 0) (by omega)).2
          have s1 : wr.frozen? ⟨g, (k + 1) * 10 + 1, none⟩ = false := (HR.out.cell (i := k + 1) (by omega) (c := 1) (by omega)).2
          have s2 : wr.frozen? ⟨g, (k + 1) * 10 + 2, none⟩ = false := (HR.out.cell (i := k + 1) (by omega) (c := 2) (by omega)).2
          have s3 : wr.frozen? ⟨g, (k + 1) * 10 + 3, none⟩ = false := (HR.out.cell (i := k + 1) (by omega) (c := 3) (by omega)).2
          have s4 : wr.frozen? ⟨g, (k + 1) * 10 + 4, none⟩ = false := (HR.out.cell (i := k + 1) (by omega) (c := 4) (by omega)).2
          have s5 : wr.frozen? ⟨g, (k + 1) * 10 + 5, none⟩ = false := (HR.out.cell (i := k + 1) (by omega) (c := 5) (by omega)).2
          have s6 : wr.frozen? ⟨g, (k + 1) * 10 + 6, none⟩ = false := (HR.out.cell (i := k + 1) (by omega) (c := 6) (by omega)).2
          have s7 : wr.frozen? ⟨g, (k + 1) * 10 + 7, none⟩ = false := (HR.out.cell (i := k + 1) (by omega) (c := 7) (by omega)).2
          have s8 : wr.frozen? ⟨g, (k + 1) * 10 + 8, none⟩ = false := (HR.out.cell (i := k + 1) (by omega) (c := 8) (by omega)).2
          have s9 : wr.frozen? ⟨g, (k + 1) * 10 + 9, none⟩ = false := (HR.out.cell (i := k + 1) (by omega) (c := 9) (by omega)).2
          go_wp2_with fail
          go_region
          obtain ⟨W2, hW2⟩ : ∃ W2, W2 = (setMany g (setMany g wr (k * 10) (encE (dk (k + 1)))) ((k + 1) * 10) (encE (dk k))).drew := ⟨_, rfl⟩
          have HW2 : Hid _ := hW2
          simp only [setMany, encE, Nat.add_assoc, Nat.reduceAdd] at hW2
          rw [← hW2]
          clear hW2 p0 q0 r0 s0 p1 q1 r1 s1 p2 q2 r2 s2 p3 q3 r3 s3 p4 q4 r4 s4 p5 q5 r5 s5 p6 q6 r6 s6 p7 q7 r7 s7 p8 q8 r8 s8 p9 q9 r9 s9
          obtain ⟨u1, u2, u3⟩ := swappedE HR.out HG.out HW2.out
          have HR2 : Hid (RowE _ _ _ _) := u1
          have HG2 : Hid _ := u2
          clear u1 u2 HW2
          go_wp2_with fail
          refine ⟨⟨k + 1, by omega, by omega, by go_num, by rw [← HST.out]; exact HR2.out, HG2.out, ?_⟩, by simp [intOf] <;> omega⟩
          rw [← HST.out]
          exact HS.out.step _ _ (by omega) (by omega)
        · obtain rfl : k = i - 1 := by omega
          have HR : Hid (RowE _ _ _ _) := hrow
          have k6 : ¬ ((i - 1 : Nat) : Int) < (i : Int) - 1 := by omega
          clear hrow hgr hsw
          go_wp2_with fail
          (try simp only [Exit.inBlock, Exit.then])
          refine bodyPost_ret (results_none rfl _ _ _) rfl ?_
          exact ⟨rfl, _, HR.out, HG.out, HS.out, FIN.out⟩

set_option maxRecDepth 100000 in
set_option maxHeartbeats 4000000 in
theorem symLastE (g n cap a m b : Nat) (d : Nat → EvX) (w : World) (hr : RowE w g n d) (hg : g < w.heap.size) (ham : a < m) (hmb : m < b) (hb : b ≤ n) (hn : n ≤ 1000000) (hL : SortedOn keyE EvX.pos a m d) (hR : SortedOn keyE EvX.pos m b d) (hA : Apart EvX.pos a m b d) (h1m : m ≠ a + 1) (h2m : b = m + 1) :
    Calls Try.prog 130 #[.slice (some ⟨g, 0, none⟩) n cap, .int .i64 a, .int .i64 m, .int .i64 b, .func (.func 94) #[] #[]] w fun e w' => e = .returned (.tuple #[]) ∧ ∃ d', RowE w' g n d' ∧ w.grownBy w' (some g) ∧ Swaps a b d d' ∧ SortedOn keyE EvX.pos a b d' := by
  have HR0 : Hid (RowE _ _ _ _) := hr
  have HL : Hid _ := hL
  have HRR : Hid _ := hR
  have HA : Hid _ := hA
  clear hr hL hR hA
  have t1 : ((m : Int) - (a : Int) == 1) = false := by rw [beq_eq_false_iff_ne]; omega
  have t2 : ((b : Int) - (m : Int) == 1) = true := by rw [beq_iff_eq]; omega
  have a0 : (0 : Int) ≤ (m : Int) := Int.natCast_nonneg _
  have H2M : Hid _ := h2m
  clear h2m h1m
  have HJ : Hid (m ≤ n) := Nat.le_trans (Nat.le_of_lt hmb) hb
  have a1 : (m : Int) < (n : Int) := by omega
  go_enter Try.func130, Try.ntmps130
  go_wp2_with fail
  go_loopw [14, 15] (fun iv jv wr => ∃ i j : Nat, a ≤ i ∧ i ≤ j ∧ j ≤ m ∧ iv = .int .i64 i ∧ jv = .int .i64 j ∧ RowE wr g n d ∧ w.grownBy wr (some g) ∧ (∀ x, a ≤ x → x < i → keyE (d x) ≤ keyE (d m)) ∧ (∀ x, j ≤ x → x < m → keyE (d m) < keyE (d x))) (fun iv jv _ => (intOf jv).toNat - (intOf iv).toNat)
  case atStart => exact ⟨a, m, Nat.le_refl _, by omega, Nat.le_refl _, rfl, rfl, HR0.out, grown_refl _ _, fun x h1 h2 => by omega, fun x h1 h2 => by omega⟩
  case round =>
    obtain ⟨i, j, hmi, hij, hjb, rfl, rfl, hrow, hgr, hlow, hhigh⟩ := hrel
    have HR : Hid (RowE _ _ _ _) := hrow
    have HG : Hid _ := hgr
    have HLO : Hid _ := hlow
    have HHI : Hid _ := hhigh
    have zg := hgr.size
    have hgw : g < wr.heap.size := by omega
    clear hrow hgr hlow hhigh
    by_cases hlt : i < j
    · have hltz : (i : Int) < (j : Int) := by omega
      obtain ⟨h, q1, q2, h0, h1, hlo, hhi⟩ := half_factsE (i := i) (j := j) (n := n) hlt (Nat.le_trans hjb HJ.out) hn
      obtain ⟨v, hv⟩ : ∃ v, cmpS (keyE (d m)) (keyE (d h)) = v := ⟨_, rfl⟩
      have HV : Hid _ := hv
      by_cases hk : keyE (d m) < keyE (d h)
      · have hv0 : v < 0 := by rw [← hv]; exact cmpS_neg.2 hk
        have NX : Hid (∀ x, h ≤ x → x < m → keyE (d m) < keyE (d x)) := by
          intro x hx hxm
          have := key_le HL.out (show a ≤ h by omega) hx hxm
          omega
        clear hv hk
        have p0 : wr.cell? ⟨g, m * 10, none⟩ = some (.int .i64 (d m).e.th) := (HR.out.cell (i := m) (by omega) (c := 0) (by omega)).1
        have p1 : wr.cell? ⟨g, m * 10 + 1, none⟩ = some (.bool (d m).e.ret) := (HR.out.cell (i := m) (by omega) (c := 1) (by omega)).1
        have p2 : wr.cell? ⟨g, m * 10 + 2, none⟩ = some (.int .i64 (d m).e.op.kind) := (HR.out.cell (i := m) (by omega) (c := 2) (by omega)).1
        have p3 : wr.cell? ⟨g, m * 10 + 3, none⟩ = some (.int .i64 (d m).e.op.key) := (HR.out.cell (i := m) (by omega) (c := 3) (by omega)).1
        have p4 : wr.cell? ⟨g, m * 10 + 4, none⟩ = some (.int .i64 (d m).e.op.val) := (HR.out.cell (i := m) (by omega) (c := 4) (by omega)).1
        have p5 : wr.cell? ⟨g, m * 10 + 5, none⟩ = some (.int .i64 (d m).e.op.hi) := (HR.out.cell (i := m) (by omega) (c := 5) (by omega)).1
        have p6 : wr.cell? ⟨g, m * 10 + 6, none⟩ = some (.bool (d m).e.rt.ok) := (HR.out.cell (i := m) (by omega) (c := 6) (by omega)).1
        have p7 : wr.cell? ⟨g, m * 10 + 7, none⟩ = some (.int .i64 (d m).e.rt.key) := (HR.out.cell (i := m) (by omega) (c := 7) (by omega)).1
        have p8 : wr.cell? ⟨g, m * 10 + 8, none⟩ = some (.int .i64 (d m).e.rt.val) := (HR.out.cell (i := m) (by omega) (c := 8) (by omega)).1
        have p9 : wr.cell? ⟨g, m * 10 + 9, none⟩ = some (.slice (d m).a (d m).e.rt.pairs.length (d m).c) := (HR.out.cell (i := m) (by omega) (c := 9) (by omega)).1
        have q0 : wr.cell? ⟨g, h * 10, none⟩ = some (.int .i64 (d h).e.th) := (HR.out.cell (i := h) (by omega) (c := 0) (by omega)).1
        have q1 : wr.cell? ⟨g, h * 10 + 1, none⟩ = some (.bool (d h).e.ret) := (HR.out.cell (i := h) (by omega) (c := 1) (by omega)).1
        have q2 : wr.cell? ⟨g, h * 10 + 2, none⟩ = some (.int .i64 (d h).e.op.kind) := (HR.out.cell (i := h) (by omega) (c := 2) (by omega)).1
        have q3 : wr.cell? ⟨g, h * 10 + 3, none⟩ = some (.int .i64 (d h).e.op.key) := (HR.out.cell (i := h) (by omega) (c := 3) (by omega)).1
        have q4 : wr.cell? ⟨g, h * 10 + 4, none⟩ = some (.int .i64 (d h).e.op.val) := (HR.out.cell (i := h) (by omega) (c := 4) (by omega)).1
        have q5 : wr.cell? ⟨g, h * 10 + 5, none⟩ = some (.int .i64 (d h).e.op.hi) := (HR.out.cell (i := h) (by omega) (c := 5) (by omega)).1
        have q6 : wr.cell? ⟨g, h * 10 + 6, none⟩ = some (.bool (d h).e.rt.ok) := (HR.out.cell (i := h) (by omega) (c := 6) (by omega)).1
        have q7 : wr.cell? ⟨g, h * 10 + 7, none⟩ = some (.int .i64 (d h).e.rt.key) := (HR.out.cell (i := h) (by omega) (c := 7) (by omega)).1
        have q8 : wr.cell? ⟨g, h * 10 + 8, none⟩ = some (.int .i64 (d h).e.rt.val) := (HR.out.cell (i := h) (by omega) (c := 8) (by omega)).1
        have q9 : wr.cell? ⟨g, h * 10 + 9, none⟩ = some (.slice (d h).a (d h).e.rt.pairs.length (d h).c) := (HR.out.cell (i := h) (by omega) (c := 9) (by omega)).1
        have y0 := BelowBy.cell hgw p0
        have z0 := BelowBy.cell hgw q0
        have y1 := BelowBy.cell hgw p1
        have z1 := BelowBy.cell hgw q1
        have y2 := BelowBy.cell hgw p2
        have z2 := BelowBy.cell hgw q2
        have y3 := BelowBy.cell hgw p3
        have z3 := BelowBy.cell hgw q3
        have y4 := BelowBy.cell hgw p4
        have z4 := BelowBy.cell hgw q4
        have y5 := BelowBy.cell hgw p5
        have z5 := BelowBy.cell hgw q5
        have y6 := BelowBy.cell hgw p6
        have z6 := BelowBy.cell hgw q6
        have y7 := BelowBy.cell hgw p7
        have z7 := BelowBy.cell hgw q7
        have y8 := BelowBy.cell hgw p8
        have z8 := BelowBy.cell hgw q8
        have y9 := BelowBy.cell hgw p9
        have z9 := BelowBy.cell hgw q9
        have SE : Hid (∀ p : BelowBy wr, Calls Try.prog 94 #[.agg #[.int .i64 (d m).e.th, .bool (d m).e.ret, .int .i64 (d m).e.op.kind, .int .i64 (d m).e.op.key, .int .i64 (d m).e.op.val, .int .i64 (d m).e.op.hi, .bool (d m).e.rt.ok, .int .i64 (d m).e.rt.key, .int .i64 (d m).e.rt.val, .slice (d m).a (d m).e.rt.pairs.length (d m).c], .agg #[.int .i64 (d h).e.th, .bool (d h).e.ret, .int .i64 (d h).e.op.kind, .int .i64 (d h).e.op.key, .int .i64 (d h).e.op.val, .int .i64 (d h).e.op.hi, .bool (d h).e.rt.ok, .int .i64 (d h).e.rt.key, .int .i64 (d h).e.rt.val, .slice (d h).a (d h).e.rt.pairs.length (d h).c]] p.W fun e w' => e = .returned (.int .i64 v) ∧ Below p.W.heap.size p.W w') := fun p => by rw [← HV.out]; exact closE_any (d m) (d h) p.W
        clear p0 q0 p1 q1 p2 q2 p3 q3 p4 q4 p5 q5 p6 q6 p7 q7 p8 q8 p9 q9
        go_wp2_with fail
        refine wp_region_below (by kernel_rfl) (by kernel_rfl) ?_
        repeat (go_big_quiet_step ((go_at_call 94; exact below_call (SE.out _))))
        refine wpQuiet_nil ?_
        rintro _ ⟨p, rfl⟩
        have PB : Hid (Below wr.heap.size wr p.W) := p.h
        have HRp : Hid (RowE p.W g n d) := HR.out.below hgw p.h
        have zp := p.h.size
        clear SE y0 z0 y1 z1 y2 z2 y3 z3 y4 z4 y5 z5 y6 z6 y7 z7 y8 z8 y9 z9
        generalize p.W = wp at *
        clear p
        go_wp2_with fail
        exact ⟨⟨i, h, hmi, by omega, by omega, rfl, rfl, HRp.out, grown_trE HG.out (grown_of_belowE _ PB.out), HLO.out, NX.out⟩, by simp [intOf] <;> omega⟩
      · have hv0 : 0 ≤ v := by rw [← hv]; have := mt cmpS_neg.1 hk; omega
        have hv1 : ¬ v < 0 := by omega
        have hv2 : decide (v < 0) = false := by rw [decide_eq_false_iff_not]; omega
        have NX : Hid (∀ x, a ≤ x → x < h + 1 → keyE (d x) ≤ keyE (d m)) := by
          intro x hx hxh
          have := key_le HL.out hx (show x ≤ h by omega) (by omega)
          omega
        clear hv hk
        have p0 : wr.cell? ⟨g, m * 10, none⟩ = some (.int .i64 (d m).e.th) := (HR.out.cell (i := m) (by omega) (c := 0) (by omega)).1
        have p1 : wr.cell? ⟨g, m * 10 + 1, none⟩ = some (.bool (d m).e.ret) := (HR.out.cell (i := m) (by omega) (c := 1) (by omega)).1
        have p2 : wr.cell? ⟨g, m * 10 + 2, none⟩ = some (.int .i64 (d m).e.op.kind) := (HR.out.cell (i := m) (by omega) (c := 2) (by omega)).1
        have p3 : wr.cell? ⟨g, m * 10 + 3, none⟩ = some (.int .i64 (d m).e.op.key) := (HR.out.cell (i := m) (by omega) (c := 3) (by omega)).1
        have p4 : wr.cell? ⟨g, m * 10 + 4, none⟩ = some (.int .i64 (d m).e.op.val) := (HR.out.cell (i := m) (by omega) (c := 4) (by omega)).1
        have p5 : wr.cell? ⟨g, m * 10 + 5, none⟩ = some (.int .i64 (d m).e.op.hi) := (HR.out.cell (i := m) (by omega) (c := 5) (by omega)).1
        have p6 : wr.cell? ⟨g, m * 10 + 6, none⟩ = some (.bool (d m).e.rt.ok) := (HR.out.cell (i := m) (by omega) (c := 6) (by omega)).1
        have p7 : wr.cell? ⟨g, m * 10 + 7, none⟩ = some (.int .i64 (d m).e.rt.key) := (HR.out.cell (i := m) (by omega) (c := 7) (by omega)).1
        have p8 : wr.cell? ⟨g, m * 10 + 8, none⟩ = some (.int .i64 (d m).e.rt.val) := (HR.out.cell (i := m) (by omega) (c := 8) (by omega)).1
        have p9 : wr.cell? ⟨g, m * 10 + 9, none⟩ = some (.slice (d m).a (d m).e.rt.pairs.length (d m).c) := (HR.out.cell (i := m) (by omega) (c := 9) (by omega)).1
        have q0 : wr.cell? ⟨g, h * 10, none⟩ = some (.int .i64 (d h).e.th) := (HR.out.cell (i := h) (by omega) (c := 0) (by omega)).1
        have q1 : wr.cell? ⟨g, h * 10 + 1, none⟩ = some (.bool (d h).e.ret) := (HR.out.cell (i := h) (by omega) (c := 1) (by omega)).1
        have q2 : wr.cell? ⟨g, h * 10 + 2, none⟩ = some (.int .i64 (d h).e.op.kind) := (HR.out.cell (i := h) (by omega) (c := 2) (by omega)).1
        have q3 : wr.cell? ⟨g, h * 10 + 3, none⟩ = some (.int .i64 (d h).e.op.key) := (HR.out.cell (i := h) (by omega) (c := 3) (by omega)).1
        have q4 : wr.cell? ⟨g, h * 10 + 4, none⟩ = some (.int .i64 (d h).e.op.val) := (HR.out.cell (i := h) (by omega) (c := 4) (by omega)).1
        have q5 : wr.cell? ⟨g, h * 10 + 5, none⟩ = some (.int .i64 (d h).e.op.hi) := (HR.out.cell (i := h) (by omega) (c := 5) (by omega)).1
        have q6 : wr.cell? ⟨g, h * 10 + 6, none⟩ = some (.bool (d h).e.rt.ok) := (HR.out.cell (i := h) (by omega) (c := 6) (by omega)).1
        have q7 : wr.cell? ⟨g, h * 10 + 7, none⟩ = some (.int .i64 (d h).e.rt.key) := (HR.out.cell (i := h) (by omega) (c := 7) (by omega)).1
        have q8 : wr.cell? ⟨g, h * 10 + 8, none⟩ = some (.int .i64 (d h).e.rt.val) := (HR.out.cell (i := h) (by omega) (c := 8) (by omega)).1
        have q9 : wr.cell? ⟨g, h * 10 + 9, none⟩ = some (.slice (d h).a (d h).e.rt.pairs.length (d h).c) := (HR.out.cell (i := h) (by omega) (c := 9) (by omega)).1
        have y0 := BelowBy.cell hgw p0
        have z0 := BelowBy.cell hgw q0
        have y1 := BelowBy.cell hgw p1
        have z1 := BelowBy.cell hgw q1
        have y2 := BelowBy.cell hgw p2
        have z2 := BelowBy.cell hgw q2
        have y3 := BelowBy.cell hgw p3
        have z3 := BelowBy.cell hgw q3
        have y4 := BelowBy.cell hgw p4
        have z4 := BelowBy.cell hgw q4
        have y5 := BelowBy.cell hgw p5
        have z5 := BelowBy.cell hgw q5
        have y6 := BelowBy.cell hgw p6
        have z6 := BelowBy.cell hgw q6
        have y7 := BelowBy.cell hgw p7
        have z7 := BelowBy.cell hgw q7
        have y8 := BelowBy.cell hgw p8
        have z8 := BelowBy.cell hgw q8
        have y9 := BelowBy.cell hgw p9
        have z9 := BelowBy.cell hgw q9
        have SE : Hid (∀ p : BelowBy wr, Calls Try.prog 94 #[.agg #[.int .i64 (d m).e.th, .bool (d m).e.ret, .int .i64 (d m).e.op.kind, .int .i64 (d m).e.op.key, .int .i64 (d m).e.op.val, .int .i64 (d m).e.op.hi, .bool (d m).e.rt.ok, .int .i64 (d m).e.rt.key, .int .i64 (d m).e.rt.val, .slice (d m).a (d m).e.rt.pairs.length (d m).c], .agg #[.int .i64 (d h).e.th, .bool (d h).e.ret, .int .i64 (d h).e.op.kind, .int .i64 (d h).e.op.key, .int .i64 (d h).e.op.val, .int .i64 (d h).e.op.hi, .bool (d h).e.rt.ok, .int .i64 (d h).e.rt.key, .int .i64 (d h).e.rt.val, .slice (d h).a (d h).e.rt.pairs.length (d h).c]] p.W fun e w' => e = .returned (.int .i64 v) ∧ Below p.W.heap.size p.W w') := fun p => by rw [← HV.out]; exact closE_any (d m) (d h) p.W
        clear p0 q0 p1 q1 p2 q2 p3 q3 p4 q4 p5 q5 p6 q6 p7 q7 p8 q8 p9 q9
        go_wp2_with fail
        refine wp_region_below (by kernel_rfl) (by kernel_rfl) ?_
        repeat (go_big_quiet_step ((go_at_call 94; exact below_call (SE.out _))))
        refine wpQuiet_nil ?_
        rintro _ ⟨p, rfl⟩
        have PB : Hid (Below wr.heap.size wr p.W) := p.h
        have HRp : Hid (RowE p.W g n d) := HR.out.below hgw p.h
        have zp := p.h.size
        clear SE y0 z0 y1 z1 y2 z2 y3 z3 y4 z4 y5 z5 y6 z6 y7 z7 y8 z8 y9 z9
        generalize p.W = wp at *
        clear p
        go_wp2_with fail
        exact ⟨⟨h + 1, j, by omega, by omega, hjb, by go_num, rfl, HRp.out, grown_trE HG.out (grown_of_belowE _ PB.out), NX.out, HHI.out⟩, by simp [intOf] <;> omega⟩
    · obtain rfl : i = j := by omega
      have hltz : ¬ (i : Int) < (i : Int) := by omega
      have FIN : Hid (SortedOn keyE EvX.pos a b (rrF d m i)) := by
        have h2m := H2M.out
        subst h2m
        exact merge_last HL.out HA.out hmi hjb (fun x q1 q2 => by have := HLO.out x q1 q2; omega) HHI.out
      generalize wr = W1 at *
      have HR1 : Hid (RowE _ _ _ _) := HR.out
      have HG1 : Hid _ := HG.out
      clear HR HG HLO HHI
      go_wp2_with fail
      go_loopw [17] (fun kv wr => ∃ k : Nat, i ≤ k ∧ k ≤ m ∧ kv = .int .i64 k ∧ RowE wr g n (rrF d m k) ∧ w.grownBy wr (some g) ∧ Swaps a b d (rrF d m k)) (fun kv _ => (intOf kv).toNat)
      case atStart => exact ⟨m, by omega, Nat.le_refl _, rfl, by rw [rrF_start]; exact HR1.out, HG1.out, by rw [rrF_start]; exact Swaps.refl _⟩
      case round =>
        obtain ⟨k, hik, hkm, rfl, hrow, hgr, hsw⟩ := hrel
        have HG : Hid _ := hgr
        have HS : Hid _ := hsw
        have zg2 := hgr.size
        by_cases hlt : i < k
        · obtain ⟨kp, rfl⟩ : ∃ kp, k = kp + 1 := ⟨k - 1, by omega⟩
          have HST : Hid _ := rrF_step d m kp hkm
          generalize rrF d m (kp + 1) = dk at *
          have HR : Hid (RowE _ _ _ _) := hrow
          have hgw2 : g < wr.heap.size := by omega
          clear hrow hgr hsw
          have k0 : (0 : Int) ≤ (kp : Int) := Int.natCast_nonneg _
          have k1 : (kp : Int) < (n : Int) := by omega
          have k2 : (0 : Int) ≤ (kp : Int) + 1 := by omega
          have k3 : (kp : Int) + 1 < (n : Int) := by omega
          have k4 : ((kp : Int) + 1).toNat = kp + 1 := by omega
          have k5 : IntKind.i64.wrap (kp : Int) = (kp : Int) := by rw [IntKind.wrap_i64] <;> omega
          have k7 : IntKind.i64.wrap ((kp : Int) + 1 - 1) = (kp : Int) := by rw [IntKind.wrap_i64] <;> omega
          have k6 : (i : Int) < (kp : Int) + 1 := by omega
          have p0 : wr.cell? ⟨g, (kp + 1) * 10, none⟩ = some (.int .i64 (dk (kp + 1)).e.th) := (HR.out.cell (i := kp + 1) (by omega) (c := 0) (by omega)).1
          have p1 : wr.cell? ⟨g, (kp + 1) * 10 + 1, none⟩ = some (.bool (dk (kp + 1)).e.ret) := (HR.out.cell (i := kp + 1) (by omega) (c := 1) (by omega)).1
          have p2 : wr.cell? ⟨g, (kp + 1) * 10 + 2, none⟩ = some (.int .i64 (dk (kp + 1)).e.op.kind) := (HR.out.cell (i := kp + 1) (by omega) (c := 2) (by omega)).1
          have p3 : wr.cell? ⟨g, (kp + 1) * 10 + 3, none⟩ = some (.int .i64 (dk (kp + 1)).e.op.key) := (HR.out.cell (i := kp + 1) (by omega) (c := 3) (by omega)).1
          have p4 : wr.cell? ⟨g, (kp + 1) * 10 + 4, none⟩ = some (.int .i64 (dk (kp + 1)).e.op.val) := (HR.out.cell (i := kp + 1) (by omega) (c := 4) (by omega)).1
          have p5 : wr.cell? ⟨g, (kp + 1) * 10 + 5, none⟩ = some (.int .i64 (dk (kp + 1)).e.op.hi) := (HR.out.cell (i := kp + 1) (by omega) (c := 5) (by omega)).1
          have p6 : wr.cell? ⟨g, (kp + 1) * 10 + 6, none⟩ = some (.bool (dk (kp + 1)).e.rt.ok) := (HR.out.cell (i := kp + 1) (by omega) (c := 6) (by omega)).1
          have p7 : wr.cell? ⟨g, (kp + 1) * 10 + 7, none⟩ = some (.int .i64 (dk (kp + 1)).e.rt.key) := (HR.out.cell (i := kp + 1) (by omega) (c := 7) (by omega)).1
          have p8 : wr.cell? ⟨g, (kp + 1) * 10 + 8, none⟩ = some (.int .i64 (dk (kp + 1)).e.rt.val) := (HR.out.cell (i := kp + 1) (by omega) (c := 8) (by omega)).1
          have p9 : wr.cell? ⟨g, (kp + 1) * 10 + 9, none⟩ = some (.slice (dk (kp + 1)).a (dk (kp + 1)).e.rt.pairs.length (dk (kp + 1)).c) := (HR.out.cell (i := kp + 1) (by omega) (c := 9) (by omega)).1
          have q0 : wr.cell? ⟨g, kp * 10, none⟩ = some (.int .i64 (dk kp).e.th) := (HR.out.cell (i := kp) (by omega) (c := 0) (by omega)).1
          have q1 : wr.cell? ⟨g, kp * 10 + 1, none⟩ = some (.bool (dk kp).e.ret) := (HR.out.cell (i := kp) (by omega) (c := 1) (by omega)).1
          have q2 : wr.cell? ⟨g, kp * 10 + 2, none⟩ = some (.int .i64 (dk kp).e.op.kind) := (HR.out.cell (i := kp) (by omega) (c := 2) (by omega)).1
          have q3 : wr.cell? ⟨g, kp * 10 + 3, none⟩ = some (.int .i64 (dk kp).e.op.key) := (HR.out.cell (i := kp) (by omega) (c := 3) (by omega)).1
          have q4 : wr.cell? ⟨g, kp * 10 + 4, none⟩ = some (.int .i64 (dk kp).e.op.val) := (HR.out.cell (i := kp) (by omega) (c := 4) (by omega)).1
          have q5 : wr.cell? ⟨g, kp * 10 + 5, none⟩ = some (.int .i64 (dk kp).e.op.hi) := (HR.out.cell (i := kp) (by omega) (c := 5) (by omega)).1
          have q6 : wr.cell? ⟨g, kp * 10 + 6, none⟩ = some (.bool (dk kp).e.rt.ok) := (HR.out.cell (i := kp) (by omega) (c := 6) (by omega)).1
          have q7 : wr.cell? ⟨g, kp * 10 + 7, none⟩ = some (.int .i64 (dk kp).e.rt.key) := (HR.out.cell (i := kp) (by omega) (c := 7) (by omega)).1
          have q8 : wr.cell? ⟨g, kp * 10 + 8, none⟩ = some (.int .i64 (dk kp).e.rt.val) := (HR.out.cell (i := kp) (by omega) (c := 8) (by omega)).1
          have q9 : wr.cell? ⟨g, kp * 10 + 9, none⟩ = some (.slice (dk kp).a (dk kp).e.rt.pairs.length (dk kp).c) := (HR.out.cell (i := kp) (by omega) (c := 9) (by omega)).1
          have r0 : wr.frozen? ⟨g, (kp + 1) * 10, none⟩ = false := (HR.out.cell (i := kp + 1) (by omega) (c := 0) (by omega)).2
          have r1 : wr.frozen? ⟨g, (kp + 1) * 10 + 1, none⟩ = false := (HR.out.cell (i := kp + 1) (by omega) (c := 1) (by omega)).2
          have r2 : wr.frozen? ⟨g, (kp + 1) * 10 + 2, none⟩ = false := (HR.out.cell (i := kp + 1) (by omega) (c := 2) (by omega)).2
          have r3 : wr.frozen? ⟨g, (kp + 1) * 10 + 3, none⟩ = false := (HR.out.cell (i := kp + 1) (by omega) (c := 3) (by omega)).2
          have r4 : wr.frozen? ⟨g, (kp + 1) * 10 + 4, none⟩ = false := (HR.out.cell (i := kp + 1) (by omega) (c := 4) (by omega)).2
          have r5 : wr.frozen? ⟨g, (kp + 1) * 10 + 5, none⟩ = false := (HR.out.cell (i := kp + 1) (by omega) (c := 5) (by omega)).2
          have r6 : wr.frozen? ⟨g, (kp + 1) * 10 + 6, none⟩ = false := (HR.out.cell (i := kp + 1) (by omega) (c := 6) (by omega)).2
          have r7 : wr.frozen? ⟨g, (kp + 1) * 10 + 7, none⟩ = false := (HR.out.cell (i := kp + 1) (by omega) (c := 7) (by omega)).2
          have r8 : wr.frozen? ⟨g, (kp + 1) * 10 + 8, none⟩ = false := (HR.out.cell (i := kp + 1) (by omega) (c := 8) (by omega)).2
          have r9 : wr.frozen? ⟨g, (kp + 1) * 10 + 9, none⟩ = false := (HR.out.cell (i := kp + 1) (by omega) (c := 9) (by omega)).2
          have s0 : wr.frozen? ⟨g, kp * 10, none⟩ = false := (HR.out.cell (i := kp) (by omega) (c := 0) (by omega)).2
          have s1 : wr.frozen? ⟨g, kp * 10 + 1, none⟩ = false := (HR.out.cell (i := kp) (by omega) (c := 1) (by omega)).2
          have s2 : wr.frozen? ⟨g, kp * 10 + 2, none⟩ = false := (HR.out.cell (i := kp) (by omega) (c := 2) (by omega)).2
          have s3 : wr.frozen? ⟨g, kp * 10 + 3, none⟩ = false := (HR.out.cell (i := kp) (by omega) (c := 3) (by omega)).2
          have s4 : wr.frozen? ⟨g, kp * 10 + 4, none⟩ = false := (HR.out.cell (i := kp) (by omega) (c := 4) (by omega)).2
          have s5 : wr.frozen? ⟨g, kp * 10 + 5, none⟩ = false := (HR.out.cell (i := kp) (by omega) (c := 5) (by omega)).2
          have s6 : wr.frozen? ⟨g, kp * 10 + 6, none⟩ = false := (HR.out.cell (i := kp) (by omega) (c := 6) (by omega)).2
          have s7 : wr.frozen? ⟨g, kp * 10 + 7, none⟩ = false := (HR.out.cell (i := kp) (by omega) (c := 7) (by omega)).2
          have s8 : wr.frozen? ⟨g, kp * 10 + 8, none⟩ = false := (HR.out.cell (i := kp) (by omega) (c := 8) (by omega)).2
          have s9 : wr.frozen? ⟨g, kp * 10 + 9, none⟩ = false := (HR.out.cell (i := kp) (by omega) (c := 9) (by omega)).2
          go_wp2_with fail
          go_region
          obtain ⟨W2, hW2⟩ : ∃ W2, W2 = (setMany g (setMany g wr ((kp + 1) * 10) (encE (dk kp))) (kp * 10) (encE (dk (kp + 1)))).drew := ⟨_, rfl⟩
          have HW2 : Hid _ := hW2
          simp only [setMany, encE, Nat.add_assoc, Nat.reduceAdd] at hW2
          rw [← hW2]
          clear hW2 p0 q0 r0 s0 p1 q1 r1 s1 p2 q2 r2 s2 p3 q3 r3 s3 p4 q4 r4 s4 p5 q5 r5 s5 p6 q6 r6 s6 p7 q7 r7 s7 p8 q8 r8 s8 p9 q9 r9 s9
          obtain ⟨u1, u2, u3⟩ := swappedE HR.out HG.out HW2.out
          have HR2 : Hid (RowE _ _ _ _) := u1
          have HG2 : Hid _ := u2
          clear u1 u2 HW2
          go_wp2_with fail
          refine ⟨⟨kp, by omega, by omega, by first | rfl | go_num | (congr 1; omega), by rw [← HST.out]; exact HR2.out, HG2.out, ?_⟩, by simp [intOf] <;> omega⟩
          rw [← HST.out]
          exact HS.out.step _ _ (by omega) (by omega)
        · obtain rfl : k = i := by omega
          have HR : Hid (RowE _ _ _ _) := hrow
          have k6 : ¬ (k : Int) < (k : Int) := by omega
          clear hrow hgr hsw
          go_wp2_with fail
          (try simp only [Exit.inBlock, Exit.then])
          refine bodyPost_ret (results_none rfl _ _ _) rfl ?_
          exact ⟨rfl, _, HR.out, HG.out, HS.out, FIN.out⟩
end Go.Proofs.Ytniognoapcaliaa
