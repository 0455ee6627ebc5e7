/- Layer 7: the law SearchDoes. -/
import Derived.Test.YtcphajjonecmbaaDoorYLw1
import Derived.Deep.RegionHeld3
import Derived.Deep.CutRange



namespace Go.Proofs.YtcphajjonecmbaaDoor

open Go.RowKit Go.Deep

attribute [local go_sem ↓] Go.wp_at_zero Go.wp_at_succ

set_option maxRecDepth 100000 in
set_option maxHeartbeats 4000000 in
theorem searchDoes_any (t : Int) (x : SX) (s : SD) (ob : Option Addr) (bo oo oc : Nat) (ops : List OpD) (w : World) (h : StAt w x s) (hkd : KdAt w) (hop : OpsAt w ob bo oo ops) (hv : s.vals.length ≤ 100000000) (hp : s.prs.length ≤ 100000000) (ho : ops.length ≤ 100000000) :
    Calls Tryd.prog 3 #[.int .i64 t, x.v s, .slice ob ops.length oc] w fun e w' => e = .returned (.bool true) ∧ Below w.heap.size w w' := by
  have lO := hop.len
  unfold maxLen at lO
  have HOP : Hid (OpsAt w ob bo oo ops) := hop
  have HA : Hid (StAt w x s) := h
  have HKD : Hid (KdAt w) := hkd
  obtain ⟨W0, hW0⟩ : ∃ W0, W0 = w.alloc (.cells #[.slice x.va s.vals.length x.vc, .slice x.pa s.prs.length x.pc] 25) := ⟨_, rfl⟩
  have B0 : Hid (Below w.heap.size w W0) := by show Below _ _ _; rw [hW0]; exact below_alloc _ _
  have z0 : W0.heap.size = w.heap.size + 1 := by rw [hW0]; simp
  have R0 : Hid (W0.heap[w.heap.size]? = some (.cells #[.slice x.va s.vals.length x.vc, .slice x.pa s.prs.length x.pc] 25)) := by
    show W0.heap[w.heap.size]? = _
    rw [hW0]; exact heap_alloc_at _ _ _ rfl
  have AW : Hid (∀ p : BelowBy W0, Calls Tryd.prog 10 #[] p.W fun e w' => e = .returned (.bool true) ∧ Below p.W.heap.size p.W w') := fun p => awake_any p.W ((hkd.below B0.out).below p.h)
  have TO : Hid (∀ W, Calls Tryd.prog 13 #[.agg #[.slice x.va s.vals.length x.vc, .slice x.pa s.prs.length x.pc]] W fun e w' => e = .returned (.agg #[.slice x.va s.vals.length x.vc, .slice x.pa s.prs.length x.pc]) ∧ Below W.heap.size W w') := fun W => to_any x s W
  have PC : Hid (∀ p : BelowBy W0, Calls Tryd.prog 12 #[.int .i64 t, .agg #[.slice x.va s.vals.length x.vc, .slice x.pa s.prs.length x.pc]] p.W fun e w' => e = .returned (.int .i64 (sErr t s)) ∧ Below p.W.heap.size p.W w') := fun p => scheck_any t x s p.W ((h.below B0.out).below p.h)
  have RC : Hid (∀ p : BelowBy W0, Calls Tryd.prog 14 #[.int .i64 t, .agg #[.slice x.va s.vals.length x.vc, .slice x.pa s.prs.length x.pc]] p.W fun e w' => e = .returned (.int .i64 (sErr t s)) ∧ Below p.W.heap.size p.W w') := fun p => rcheck7_any t x s p.W ((h.below B0.out).below p.h)
  have PL : Hid (∀ (a : Int) (W : World), Calls Tryd.prog 11 #[.int .i64 a, .int .i64 a] W fun e w' => e = .returned (.bool true) ∧ Below W.heap.size W w') := plain7_any
  have RR : Hid (∀ W, Below w.heap.size w W → Calls Tryd.prog 15 #[.int .i64 t, .agg #[.slice x.va s.vals.length x.vc, .slice x.pa s.prs.length x.pc], .slice ob ops.length oc] W (RRunP t s ops W)) := fun W hW => rRun7_any t x s ob bo oo oc ops W (h.below hW) (hop.below hW) hv hp ho
  have PR : Hid (∀ W, Below w.heap.size w W → Calls Tryd.prog 16 #[.int .i64 t, .agg #[.slice x.va s.vals.length x.vc, .slice x.pa s.prs.length x.pc], .slice ob ops.length oc] W (RunsP t s ops W)) := fun W hW => Run_any t x s ob bo oo oc ops W (h.below hW) (hkd.below hW) (hop.below hW) (by omega) (by omega) (by omega)
  have hNz : w.heap.size < W0.heap.size := by omega
  obtain ⟨⟨a0, _⟩, ⟨a1, _⟩⟩ := cells2 R0.out
  have y0 := BelowBy.cell hNz a0
  have y1 := BelowBy.cell hNz a1
  generalize sErr t s = E at *
  unfold SX.v
  clear h hkd hop
  go_enter Tryd.func3, Tryd.ntmps3
  go_upto_region 1 with fail
  rw [← hW0]
  clear hW0
  refine wp_region_below (by kernel_rfl) (by kernel_rfl) ?_
  repeat (go_big_quiet_step (first | (go_at_call 10; exact below_call (AW.out _)) | (go_at_call 13; exact below_call (TO.out _)) | (go_at_call 12; exact below_call (PC.out _)) | (go_at_call 14; exact below_call (RC.out _)) | (go_at_call 11; exact below_call (PL.out _ _))))
  refine wpQuiet_nil ?_
  rintro _ ⟨p, rfl⟩
  obtain ⟨W1, hW1⟩ : ∃ W1, W1 = p.W := ⟨_, rfl⟩
  have B1 : Hid (Below W0.heap.size W0 W1) := by show Below _ _ _; rw [hW1]; exact p.h
  rw [← hW1]
  have z1 : W0.heap.size ≤ W1.heap.size := B1.out.size
  have BW1 : Hid (Below w.heap.size w W1) := B0.out.trans (B1.out.mono B0.out.size)
  obtain ⟨⟨c0, _⟩, ⟨c1, _⟩⟩ := cells2 ((B1.out.block _ hNz).trans R0.out)
  clear hW1 y0 y1 a0 a1 AW PC RC
  obtain ⟨S, hS⟩ : ∃ S, S = sRunD t s ops := ⟨_, rfl⟩
  obtain ⟨rs, hrs⟩ : ∃ rs, rs = sRetsD t s ops := ⟨_, rfl⟩
  obtain ⟨E2, hE2⟩ : ∃ E2, E2 = rnErr t s ops := ⟨_, rfl⟩
  unfold RRunP at RR
  unfold RunsP at PR
  simp only [← hS, ← hrs, ← hE2, SX.v] at RR PR
  clear hS hrs hE2
  go_upto_region 5 with (first | (go_at_call 15; refine (RR.out _ BW1.out).mono ?_; rintro e w2 ⟨xr, ra, rg, rk, rfl, hb2, hs2, hr2, -⟩; have B2 : Hid (Below W1.heap.size W1 w2) := hb2; have S2 : Hid (StAt w2 xr S) := hs2; have RT2 : Hid (RetsAtM w2 ra rg 0 rs) := hr2; have z2 := hb2.size; have n2 : w.heap.size < w2.heap.size := (by omega); have BC : Hid (Below w.heap.size w (w2.alloc (.cells #[.slice xr.va S.vals.length xr.vc, .slice xr.pa S.prs.length xr.pc] 25))) := (BW1.out.trans (hb2.mono BW1.out.size)).alloc (Nat.le_trans BW1.out.size hb2.size) _; obtain ⟨⟨d0, _⟩, ⟨d1, _⟩⟩ := cells2 ((hb2.block _ (by omega)).trans ((B1.out.block _ hNz).trans R0.out)); clear hb2 hs2 hr2) | (go_at_call 13; refine (TO.out _).mono ?_; rintro e w3 ⟨rfl, hb3⟩; have B3 : Hid (Below (w2.alloc (.cells #[.slice xr.va S.vals.length xr.vc, .slice xr.pa S.prs.length xr.pc] 25)).heap.size (w2.alloc (.cells #[.slice xr.va S.vals.length xr.vc, .slice xr.pa S.prs.length xr.pc] 25)) w3) := hb3; have BW3 : Hid (Below w.heap.size w w3) := BC.out.trans (hb3.mono BC.out.size); clear hb3) | (go_at_call 16; refine (PR.out _ BW3.out).mono ?_; rintro e w4 ⟨xp, qa, qg, qk, rfl, hb4, hs4, hr4, -⟩; have B4 : Hid (Below w3.heap.size w3 w4) := hb4; have S4 : Hid (StNew w4 w3.heap.size xp S) := hs4; have RT4 : Hid (RetsAtM w4 qa qg 0 rs) := hr4; clear hb4 hs4 hr4))
  obtain ⟨W5, hW5⟩ : ∃ W5, W5 = w4.alloc (.cells #[.slice xp.va S.vals.length xp.vc, .slice xp.pa S.prs.length xp.pc] 31) := ⟨_, rfl⟩
  have b45 : Below w4.heap.size w4 W5 := by rw [hW5]; exact below_alloc _ _
  have z5 : W5.heap.size = w4.heap.size + 1 := by rw [hW5]; simp
  have z4 := B4.out.size
  have z3 := B3.out.size
  rw [World.size_alloc] at z3
  have BW5 : Hid (Below w.heap.size w W5) := (BW3.out.trans (B4.out.mono BW3.out.size)).trans (b45.mono (Nat.le_trans BW3.out.size z4))
  have U7 : Hid (W5.heap[w2.heap.size]? = some (.cells #[.slice xr.va S.vals.length xr.vc, .slice xr.pa S.prs.length xr.pc] 25)) := (b45.block _ (by omega)).trans ((B4.out.block _ (by omega)).trans ((B3.out.block _ (by simp)).trans (heap_alloc_at _ _ _ rfl)))
  have U10 : Hid (W5.heap[w4.heap.size]? = some (.cells #[.slice xp.va S.vals.length xp.vc, .slice xp.pa S.prs.length xp.pc] 31)) := by show W5.heap[_]? = _; rw [hW5]; exact heap_alloc_at _ _ _ rfl
  have b25 : Below w2.heap.size w2 W5 := (((below_alloc _ _).trans (B3.out.mono (by simp))).trans (B4.out.mono (by omega))).trans (b45.mono (by omega))
  have UN : Hid (W5.heap[w.heap.size]? = some (.cells #[.slice x.va s.vals.length x.vc, .slice x.pa s.prs.length x.pc] 25)) := (b25.block _ n2).trans ((B2.out.block _ (by omega)).trans ((B1.out.block _ hNz).trans R0.out))
  have SS : Hid (∀ p : BelowBy W5, Calls Tryd.prog 17 #[.agg #[.slice xp.va S.vals.length xp.vc, .slice xp.pa S.prs.length xp.pc], .agg #[.slice xr.va S.vals.length xr.vc, .slice xr.pa S.prs.length xr.pc]] p.W fun e w' => e = .returned (.bool true) ∧ Below p.W.heap.size p.W w') := fun p => by
    have := rSameS_any xp xr S S p.W ((S4.out.at_.below b45).below p.h) ((S2.out.below b25).below p.h)
    rw [sdEq_refl] at this
    exact this
  have SR : Hid (∀ p : BelowBy W5, Calls Tryd.prog 19 #[.slice qa rs.length qk, .slice ra rs.length rk] p.W fun e w' => e = .returned (.bool true) ∧ Below p.W.heap.size p.W w') := fun p => rSameR7_any qa ra qg 0 qk rg 0 rk rs p.W ((RT4.out.below b45).below p.h) ((RT2.out.below b25).below p.h)
  have FR : Hid (∀ W, Calls Tryd.prog 18 #[.agg #[.slice xp.va S.vals.length xp.vc, .slice xp.pa S.prs.length xp.pc]] W fun e w' => e = .returned (.agg #[.slice xp.va S.vals.length xp.vc, .slice xp.pa S.prs.length xp.pc]) ∧ Below W.heap.size W w') := fun W => from_any xp S W
  obtain ⟨⟨u0, _⟩, ⟨u1, _⟩⟩ := cells2 U7.out
  obtain ⟨⟨u2, _⟩, ⟨u3, _⟩⟩ := cells2 U10.out
  have y0 := BelowBy.cell (show w2.heap.size < W5.heap.size by omega) u0
  have y1 := BelowBy.cell (show w2.heap.size < W5.heap.size by omega) u1
  have y2 := BelowBy.cell (show w4.heap.size < W5.heap.size by omega) u2
  have y3 := BelowBy.cell (show w4.heap.size < W5.heap.size by omega) u3
  rw [← hW5]
  have n5 : w.heap.size < W5.heap.size := by omega
  clear hW5 b45 b25 d0 d1 c0 c1 u0 u1 u2 u3 z5 z4 z3 n2 z2 z1
  refine wp_region_below (by kernel_rfl) (by kernel_rfl) ?_
  repeat (go_big_quiet_step (first | (go_at_call 11; exact below_call (PL.out _ _)) | (go_at_call 18; exact below_call (FR.out _)) | (go_at_call 17; exact below_call (SS.out _)) | (go_at_call 19; exact below_call (SR.out _))))
  refine wpQuiet_nil ?_
  rintro _ ⟨p5, rfl⟩
  obtain ⟨W6, hW6⟩ : ∃ W6, W6 = p5.W := ⟨_, rfl⟩
  have B6 : Hid (Below W5.heap.size W5 W6) := by show Below _ _ _; rw [hW6]; exact p5.h
  rw [← hW6]
  have z6 : W5.heap.size ≤ W6.heap.size := B6.out.size
  have BW6 : Hid (Below w.heap.size w W6) := BW5.out.trans (B6.out.mono BW5.out.size)
  have UN6 : Hid (W6.heap[w.heap.size]? = some (.cells #[.slice x.va s.vals.length x.vc, .slice x.pa s.prs.length x.pc] 25)) := (B6.out.block _ n5).trans UN.out
  clear hW6 y0 y1 y2 y3
  go_wp2_with fail
  have DR : Hid (∀ (o : OpD) W, Below w.heap.size w W → Calls Tryd.prog 20 #[.int .i64 t, .agg #[.slice x.va s.vals.length x.vc, .slice x.pa s.prs.length x.pc], .agg #[.int .i64 o.kind, .int .i64 o.key, .int .i64 o.val, .int .i64 o.hi]] W (RDoP t s o W)) := fun o W hW => rDo7_any t x s o W (HA.out.below hW) hv hp
  have DP : Hid (∀ (o : OpD) W, Below w.heap.size w W → Calls Tryd.prog 21 #[.int .i64 t, .agg #[.slice x.va s.vals.length x.vc, .slice x.pa s.prs.length x.pc], .agg #[.int .i64 o.kind, .int .i64 o.key, .int .i64 o.val, .int .i64 o.hi]] W (DosP t s o W)) := fun o W hW => Do_any t x s o W (HA.out.below hW) (HKD.out.below hW) (by omega) (by omega)
  clear RR PR U7 U10 SS SR FR RT2 RT4 S2 S4 B3 B4 BC BW3 BW1 B2
  go_loopw [70] (fun i wr => ∃ j : Nat, j ≤ ops.length ∧ i = .int .i64 j ∧ Below w.heap.size w wr ∧ w.heap.size < wr.heap.size ∧ wr.heap[w.heap.size]? = some (.cells #[.slice x.va s.vals.length x.vc, .slice x.pa s.prs.length x.pc] 25)) (fun i _ => ops.length - (intOf i).toNat)
  case atStart => exact ⟨0, Nat.zero_le _, rfl, BW6.out, by omega, UN6.out⟩
  case round =>
    obtain ⟨j, hj, rfl, hbw, hnw, hun⟩ := hrel
    rename World => wr
    have BR : Hid (Below w.heap.size w wr) := hbw
    have HUN : Hid (wr.heap[w.heap.size]? = some (.cells #[.slice x.va s.vals.length x.vc, .slice x.pa s.prs.length x.pc] 25)) := hun
    by_cases hlt : j < ops.length
    · obtain rfl : ob = some ⟨bo, oo, none⟩ := HOP.out.base (by omega)
      obtain ⟨c0, c1, c2, c3⟩ := (HOP.out.below hbw).cells j hlt
      have hbz : bo < wr.heap.size := Nat.lt_of_lt_of_le (HOP.out.lt (by omega)) hbw.size
      obtain ⟨⟨d0, _⟩, ⟨d1, _⟩⟩ := cells2 hun
      have j0 : (0 : Int) ≤ (j : Int) := Int.natCast_nonneg _
      have j1 : (j : Int) < (ops.length : Int) := by omega
      generalize opAt ops j = o at c0 c1 c2 c3
      obtain ⟨S, hS⟩ : ∃ S, S = sRunD t s [o] := ⟨_, rfl⟩
      obtain ⟨r, hr⟩ : ∃ r, r = sDoR t s o := ⟨_, rfl⟩
      obtain ⟨E3, hE3⟩ : ∃ E3, E3 = rnErr t s [o] := ⟨_, rfl⟩
      have DRo := DR.out o
      have DPo := DP.out o
      unfold RDoP at DRo
      unfold DosP at DPo
      simp only [← hS, ← hr, ← hE3, SX.v] at DRo DPo
      have DR1 : Hid _ := DRo
      have DP1 : Hid _ := DPo
      have BA : Hid (Below w.heap.size w (wr.alloc (.cells #[.int .i64 o.kind, .int .i64 o.key, .int .i64 o.val, .int .i64 o.hi] 43))) := hbw.alloc hbw.size _
      clear hbw hun hS hr hE3 DRo DPo DR DP
      go_upto_region 11 with (first | (go_at_call 20; refine (DR1.out _ BA.out).mono ?_; rintro e w2 ⟨xr, ra, rg, rp, rk, rfl, hb2, hs2, hp2⟩; have B2 : Hid (Below (wr.alloc (.cells #[.int .i64 o.kind, .int .i64 o.key, .int .i64 o.val, .int .i64 o.hi] 43)).heap.size (wr.alloc (.cells #[.int .i64 o.kind, .int .i64 o.key, .int .i64 o.val, .int .i64 o.hi] 43)) w2) := hb2; have S2 : Hid (StAt w2 xr S) := hs2; have P2 : Hid (PairsAt w2 ra rg rp r.pairs) := hp2; clear hb2 hs2 hp2))
      obtain ⟨W7, hW7⟩ : ∃ W7, W7 = (w2.alloc (.cells #[.slice xr.va S.vals.length xr.vc, .slice xr.pa S.prs.length xr.pc] 25)).alloc (.cells #[.bool r.ok, .int .i64 r.key, .int .i64 r.val, .slice ra r.pairs.length rk] 45) := ⟨_, rfl⟩
      rw [← hW7]
      have z7 : W7.heap.size = w2.heap.size + 2 := by rw [hW7]; simp
      have z2 := B2.out.size
      rw [World.size_alloc] at z2
      have b27 : Below w2.heap.size w2 W7 := by rw [hW7]; exact two_blocks _ _ _ _ _
      have BW7 : Hid (Below w.heap.size w W7) := (BA.out.trans (B2.out.mono BA.out.size)).trans (b27.mono (by have := BR.out.size; omega))
      have U15 : Hid (W7.heap[w2.heap.size]? = some (.cells #[.slice xr.va S.vals.length xr.vc, .slice xr.pa S.prs.length xr.pc] 25)) := by
        show W7.heap[_]? = _
        rw [hW7]; exact (heap_alloc_old _ _ (by simp)).trans (heap_alloc_at _ _ _ rfl)
      have U16 : Hid (W7.heap[w2.heap.size + 1]? = some (.cells #[.bool r.ok, .int .i64 r.key, .int .i64 r.val, .slice ra r.pairs.length rk] 45)) := by
        show W7.heap[_]? = _
        rw [hW7]; exact heap_alloc_at _ _ _ (by simp)
      have UO : Hid (W7.heap[wr.heap.size]? = some (.cells #[.int .i64 o.kind, .int .i64 o.key, .int .i64 o.val, .int .i64 o.hi] 43)) := (b27.block _ (by omega)).trans ((B2.out.block _ (by simp)).trans (heap_alloc_at _ _ _ rfl))
      have UN7 : Hid (W7.heap[w.heap.size]? = some (.cells #[.slice x.va s.vals.length x.vc, .slice x.pa s.prs.length x.pc] 25)) := (b27.block _ (by omega)).trans ((B2.out.block _ (by simp; omega)).trans ((heap_alloc_old _ _ hnw).trans HUN.out))
      have S7 : Hid (StAt W7 xr S) := S2.out.below b27
      have P7 : Hid (PairsAt W7 ra rg rp r.pairs) := P2.out.below b27
      have n7 : w.heap.size < W7.heap.size := by omega
      have m7 : wr.heap.size < W7.heap.size := by omega
      have KS : Hid (∀ w', Below W7.heap.size W7 w' → (w'.cell? ⟨w.heap.size, 0, none⟩ = some (.slice x.va s.vals.length x.vc) ∧ w'.cell? ⟨w.heap.size, 1, none⟩ = some (.slice x.pa s.prs.length x.pc) ∧ w'.cell? ⟨wr.heap.size, 0, none⟩ = some (.int .i64 o.kind) ∧ w'.cell? ⟨wr.heap.size, 1, none⟩ = some (.int .i64 o.key) ∧ w'.cell? ⟨wr.heap.size, 2, none⟩ = some (.int .i64 o.val) ∧ w'.cell? ⟨wr.heap.size, 3, none⟩ = some (.int .i64 o.hi))) := fun w' hb => by
        obtain ⟨⟨e0, _⟩, ⟨e1, _⟩⟩ := cells2 ((hb.block _ n7).trans UN7.out)
        obtain ⟨⟨e2, _⟩, ⟨e3, _⟩, ⟨e4, _⟩, ⟨e5, _⟩⟩ := cells4 ((hb.block _ m7).trans UO.out)
        exact ⟨e0, e1, e2, e3, e4, e5⟩
      clear hW7 b27 c0 c1 c2 c3 d0 d1 z2 z7 S2 P2 B2
      go_cut [18, 19, 20] from 82 to 90 (fun v18 v19 v20 wx => v20 = .int .i64 E3 ∧ BoxB W7 31 S r v18 v19 wx)
      case first =>
        go_region_held3 (fun w' => w'.cell? ⟨w.heap.size, 0, none⟩ = some (.slice x.va s.vals.length x.vc) ∧ w'.cell? ⟨w.heap.size, 1, none⟩ = some (.slice x.pa s.prs.length x.pc) ∧ w'.cell? ⟨wr.heap.size, 0, none⟩ = some (.int .i64 o.kind) ∧ w'.cell? ⟨wr.heap.size, 1, none⟩ = some (.int .i64 o.key) ∧ w'.cell? ⟨wr.heap.size, 2, none⟩ = some (.int .i64 o.val) ∧ w'.cell? ⟨wr.heap.size, 3, none⟩ = some (.int .i64 o.hi))
          (first | (refine KS.out _ ?_; (repeat' (first | with_reducible exact Below.refl _ _ | with_reducible exact Q2.out | with_reducible exact B1.out | with_reducible refine Below.drew ?_ | with_reducible refine Below.alloc ?_ ?_ _ | with_reducible refine Below.setCell ?_ ?_ _)) <;> (first | (simp; done) | (simp; omega) | (show _ ≤ _; omega))) | fail)
          (first | (go_at_call 13; refine (TO.out _).mono ?_; rintro e z1 ⟨rfl, hb1⟩; (first | ((with_reducible have K := kb0 (wr := W7) hb1); have B1 : Hid (Below W7.heap.size W7 z1) := K.1) | ((with_reducible have K := kbA (wr := W7) hb1); have B1 : Hid (Below W7.heap.size W7 z1) := K.1; have F0 : Hid _ := K.2.2.1; have l0 := K.2.2.2; have ne01 : W7.heap.size ≠ z1.heap.size := (by omega); have ne10 : z1.heap.size ≠ W7.heap.size := (by omega)) | ((with_reducible have K := kbAB (wr := W7) hb1); have B1 : Hid (Below W7.heap.size W7 z1) := K.1; have F0 : Hid _ := K.2.2.1; have F1 : Hid _ := K.2.2.2.1; have l0 := K.2.2.2.2.1; have l1 := K.2.2.2.2.2)); have hz1 : W7.heap.size ≤ z1.heap.size := B1.out.size; have X1 : Hid (Below w.heap.size w z1) := BW7.out.trans (B1.out.mono BW7.out.size); clear K hb1) | (go_at_call 21; refine (DP1.out _ (by (repeat' (first | with_reducible exact X1.out | with_reducible refine Below.alloc ?_ ?_ _)) <;> (first | (have := X1.out.size; simp; done) | (have := X1.out.size; simp; omega) | (have := X1.out.size; omega)))).mono ?_; rintro e z2 ⟨xq, pa, pg, pc, rfl, hb2, hs2, ⟨po, hp2⟩, hlo2, -⟩; (first | ((with_reducible have K := kc0 (wr := z1) hb2); have Q1 : Hid (Below z1.heap.size z1 z2) := K; have HS2 : Hid (StNew z2 z1.heap.size xq S) := hs2; have HP2 : Hid (PairsAt z2 pa pg po r.pairs ∧ (r.pairs.length ≠ 0 → z1.heap.size ≤ pg)) := ⟨hp2, hlo2⟩) | ((with_reducible have K := kcA (wr := z1) hb2); have Q1 : Hid (Below z1.heap.size z1 z2) := K.1; have HS2 : Hid (StNew z2 (z1.heap.size + 1) xq S) := hs2.down (Nat.le_of_eq K.2.1.symm); have HP2 : Hid (PairsAt z2 pa pg po r.pairs ∧ (r.pairs.length ≠ 0 → z1.heap.size + 1 ≤ pg)) := ⟨hp2, fun q => by have := hlo2 q; omega⟩; have G0 : Hid _ := K.2.2.1; have m0 := K.2.2.2; (first | obtain ⟨⟨_, _⟩, ⟨_, _⟩, ⟨_, _⟩, ⟨_, _⟩⟩ := cells4 G0.out | obtain ⟨⟨_, _⟩, ⟨_, _⟩⟩ := cells2 G0.out)) | ((with_reducible have K := kcAB (wr := z1) hb2); have Q1 : Hid (Below z1.heap.size z1 z2) := K.1; have HS2 : Hid (StNew z2 (z1.heap.size + 1 + 1) xq S) := hs2.down (Nat.le_of_eq K.2.1.symm); have HP2 : Hid (PairsAt z2 pa pg po r.pairs ∧ (r.pairs.length ≠ 0 → z1.heap.size + 1 + 1 ≤ pg)) := ⟨hp2, fun q => by have := hlo2 q; omega⟩; have G0 : Hid _ := K.2.2.1; have G1 : Hid _ := K.2.2.2.1; have m0 := K.2.2.2.2.1; have m1 := K.2.2.2.2.2; (first | obtain ⟨⟨_, _⟩, ⟨_, _⟩, ⟨_, _⟩, ⟨_, _⟩⟩ := cells4 G0.out | obtain ⟨⟨_, _⟩, ⟨_, _⟩⟩ := cells2 G0.out); (first | obtain ⟨⟨_, _⟩, ⟨_, _⟩, ⟨_, _⟩, ⟨_, _⟩⟩ := cells4 G1.out | obtain ⟨⟨_, _⟩, ⟨_, _⟩⟩ := cells2 G1.out))); have hz2 : z1.heap.size ≤ z2.heap.size := Q1.out.size; have Q2 : Hid (Below W7.heap.size W7 z2) := B1.out.trans (Q1.out.mono hz1); (try (have H0 : Hid _ := (Q1.out.block _ l0).trans F0.out; have k0 : W7.heap.size < z2.heap.size := (by omega); first | obtain ⟨⟨_, _⟩, ⟨_, _⟩, ⟨_, _⟩, ⟨_, _⟩⟩ := cells4 H0.out | obtain ⟨⟨_, _⟩, ⟨_, _⟩⟩ := cells2 H0.out)); (try (have H1 : Hid _ := (Q1.out.block _ l1).trans F1.out; have k1 : W7.heap.size + 1 < z2.heap.size := (by omega); first | obtain ⟨⟨_, _⟩, ⟨_, _⟩, ⟨_, _⟩, ⟨_, _⟩⟩ := cells4 H1.out | obtain ⟨⟨_, _⟩, ⟨_, _⟩⟩ := cells2 H1.out)); clear K hb2 hs2 hp2 hlo2))
        all_goals go_wp2_with fail
        all_goals go_meet
        all_goals refine ⟨rfl, ?_⟩
        all_goals first | with_reducible exact boxB_1 Q2.out HS2.out HP2.out | with_reducible exact boxB_2 Q2.out HS2.out HP2.out | ((with_reducible refine boxB_3 Q2.out HS2.out HP2.out ?_ ?_ ?_ ?_) <;> first | omega | exact G0.out | exact H0.out) | ((with_reducible refine boxB_5 Q2.out HS2.out HP2.out ?_ ?_ ?_ ?_) <;> first | omega | exact G0.out | exact H0.out) | ((with_reducible refine boxB_4 Q2.out HS2.out HP2.out ?_ ?_ ?_ ?_ ?_ ?_ ?_) <;> first | omega | exact G0.out | exact G1.out | exact H0.out | exact H1.out)
      case rest =>
        obtain ⟨rfl, xq, pa, pc, b18, b19, rfl, rfl, hbq, h18, h19, hsq, gq, pq, hpq⟩ := hcut
        have BQ : Hid (Below W7.heap.size W7 wc) := hbq
        have zq := hbq.size
        have V15 := (hbq.block (w2.heap.size) (Array.getElem?_eq_some_iff.1 U15.out).1).trans U15.out
        have V16 := (hbq.block (w2.heap.size + 1) (Array.getElem?_eq_some_iff.1 U16.out).1).trans U16.out
        have SS : Hid (∀ p : BelowBy wc, Calls Tryd.prog 17 #[.agg #[.slice xq.va S.vals.length xq.vc, .slice xq.pa S.prs.length xq.pc], .agg #[.slice xr.va S.vals.length xr.vc, .slice xr.pa S.prs.length xr.pc]] p.W fun e w' => e = .returned (.bool true) ∧ Below p.W.heap.size p.W w') := fun p => by
          have := rSameS_any xq xr S S p.W (hsq.below p.h) ((S7.out.below hbq).below p.h)
          rw [sdEq_refl] at this
          exact this
        have SR : Hid (∀ p : BelowBy wc, Calls Tryd.prog 22 #[.agg #[.bool r.ok, .int .i64 r.key, .int .i64 r.val, .slice pa r.pairs.length pc], .agg #[.bool r.ok, .int .i64 r.key, .int .i64 r.val, .slice ra r.pairs.length rk]] p.W fun e w' => e = .returned (.bool true) ∧ Below p.W.heap.size p.W w') := fun p => by
          have := sameRet_anyM pa ra gq pq pc rg rp rk r r p.W (hpq.below p.h) ((P7.out.below hbq).below p.h)
          rw [retEq_reflM7] at this
          exact this
        have FR : Hid (∀ W, Calls Tryd.prog 18 #[.agg #[.slice xq.va S.vals.length xq.vc, .slice xq.pa S.prs.length xq.pc]] W fun e w' => e = .returned (.agg #[.slice xq.va S.vals.length xq.vc, .slice xq.pa S.prs.length xq.pc]) ∧ Below W.heap.size W w') := fun W => from_any xq S W
        obtain ⟨⟨u0, _⟩, ⟨u1, _⟩⟩ := cells2 V15
        obtain ⟨⟨u2, _⟩, ⟨u3, _⟩, ⟨u4, _⟩, ⟨u5, _⟩⟩ := cells4 V16
        obtain ⟨⟨u6, _⟩, ⟨u7, _⟩⟩ := cells2 h18
        obtain ⟨⟨u8, _⟩, ⟨u9, _⟩, ⟨v0, _⟩, ⟨v1, _⟩⟩ := cells4 h19
        have l15 := (Array.getElem?_eq_some_iff.1 V15).1
        have l16 := (Array.getElem?_eq_some_iff.1 V16).1
        have l18 := (Array.getElem?_eq_some_iff.1 h18).1
        have l19 := (Array.getElem?_eq_some_iff.1 h19).1
        have y0 := BelowBy.cell l15 u0
        have y1 := BelowBy.cell l15 u1
        have y2 := BelowBy.cell l16 u2
        have y3 := BelowBy.cell l16 u3
        have y4 := BelowBy.cell l16 u4
        have y5 := BelowBy.cell l16 u5
        have y6 := BelowBy.cell l18 u6
        have y7 := BelowBy.cell l18 u7
        have y8 := BelowBy.cell l19 u8
        have y9 := BelowBy.cell l19 u9
        have t0 := BelowBy.cell l19 v0
        have t1 := BelowBy.cell l19 v1
        clear u0 u1 u2 u3 u4 u5 u6 u7 u8 u9 v0 v1 hbq V15 V16 h18 h19 hsq hpq KS TO DP1 DR1
        go_wp2_with fail
        refine wp_region_below (by kernel_rfl) (by kernel_rfl) ?_
        repeat (go_big_quiet_step (first | (go_at_call 11; exact below_call (PL.out _ _)) | (go_at_call 18; exact below_call (FR.out _)) | (go_at_call 17; exact below_call (SS.out _)) | (go_at_call 22; exact below_call (SR.out _))))
        refine wpQuiet_nil ?_
        rintro _ ⟨p9, rfl⟩
        obtain ⟨W9, hW9⟩ : ∃ W9, W9 = p9.W := ⟨_, rfl⟩
        have B9 : Hid (Below wc.heap.size wc W9) := by show Below _ _ _; rw [hW9]; exact p9.h
        rw [← hW9]
        clear hW9 y0 y1 y2 y3 y4 y5 y6 y7 y8 y9 t0 t1
        go_wp2_with fail
        have B79 : Below W7.heap.size W7 W9 := BQ.out.trans (B9.out.mono zq)
        exact ⟨⟨j + 1, by omega, by go_num, BW7.out.trans (B79.mono BW7.out.size), by have := B79.size; omega, (B79.block _ n7).trans UN7.out⟩, by simp [intOf]; omega⟩
    · clear hbw hun hj
      go_wp2_with fail
      go_ret
      exact ⟨rfl, BR.out⟩
end Go.Proofs.YtcphajjonecmbaaDoor
