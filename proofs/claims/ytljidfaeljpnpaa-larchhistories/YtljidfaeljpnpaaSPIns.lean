/- slices.insertionSortCmpFunc. -/
import Derived.Test.YtljidfaeljpnpaaSPRot
import Derived.Test.YtljidfaeljpnpaaSPure2


namespace Go.Proofs.Ytljidfaeljpnpaa

open Go.RowKit

attribute [local go_sem ↓] Go.wp_at_zero Go.wp_at_succ

set_option maxRecDepth 100000 in
set_option maxHeartbeats 4000000 in
theorem insertionP_any (g n cap a b : Nat) (d0 : Nat → PrX) (w : World) (hr : RowP w g n d0) (hg : g < w.heap.size) (hab : a ≤ b) (hb : b ≤ n) (hn : n ≤ 1000000) (hp : ∀ x y, a ≤ x → x < y → y < b → (d0 x).pos < (d0 y).pos) :
    Calls Try.prog 100 #[.slice (some ⟨g, 0, none⟩) n cap, .int .i64 a, .int .i64 b, .func (.func 70) #[] #[]] w fun e w' => e = .returned (.tuple #[]) ∧ ∃ d, RowP w' g n d ∧ w.grownBy w' (some g) ∧ Swaps a b d0 d ∧ SortedOn keyP PrX.pos a b d := by
  have HR0 : Hid (RowP _ _ _ _) := hr
  have HP : Hid _ := hp
  clear hr hp
  go_enter Try.func100, Try.ntmps100
  go_wp2_with fail
  go_loopw [8] (fun iv wr => ∃ (i : Nat) (d : Nat → PrX), a < i ∧ (i ≤ b ∨ i = a + 1) ∧ iv = .int .i64 i ∧ RowP wr g n d ∧ w.grownBy wr (some g) ∧ (i ≤ b → Swaps a i d0 d) ∧ (b < i → d = d0) ∧ SortedOn keyP PrX.pos a i d) (fun iv _ => b - (intOf iv).toNat)
  case atStart => exact ⟨a + 1, d0, by omega, Or.inr rfl, by go_num, HR0.out, grown_reflM _ _, fun _ => Swaps.refl _, fun _ => rfl, fun x y h1 h2 h3 => by omega⟩
  case round =>
    obtain ⟨i, d1, hai, hib, rfl, hrow, hgr, hsw, hsame, hsort⟩ := hrel
    have HR1 : Hid (RowP _ _ _ _) := hrow
    have HG1 : Hid _ := hgr
    have HO : Hid _ := hsort
    have zg := hgr.size
    by_cases hlt : i < b
    · have HS1 : Hid _ := hsw (by omega)
      have hpi : Hid (∀ x, a ≤ x → x < i → (d1 x).pos < (d1 i).pos) := by
        intro x hx hxi
        obtain ⟨u, u1, u2, u3⟩ := HS1.out.of x hx hxi
        rw [u3, HS1.out.out i (by omega)]
        exact HP.out u i u1 u2 hlt
      clear hrow hgr hsw hsame hsort
      generalize wr = W1 at *
      go_wp2_with fail
      go_loopw [9] (fun jv wr => ∃ (j : Nat) (d : Nat → PrX), a ≤ j ∧ j ≤ i ∧ jv = .int .i64 j ∧ RowP wr g n d ∧ w.grownBy wr (some g) ∧ W1.heap.size ≤ wr.heap.size ∧ Swaps a (i + 1) d0 d ∧ SortedOn keyP PrX.pos a j d ∧ SortedOn keyP PrX.pos j (i + 1) d ∧ (∀ x y, a ≤ x → x < j → j < y → y ≤ i → Lt keyP PrX.pos (d x) (d y)) ∧ (∀ x, a ≤ x → x < j → (d x).pos < (d j).pos)) (fun jv _ => (intOf jv).toNat)
      case atStart => exact ⟨i, d1, by omega, Nat.le_refl _, rfl, HR1.out, HG1.out, Nat.le_refl _, HS1.out.mono (Nat.le_refl _) (by omega), HO.out, fun x y h1 h2 h3 => by omega, fun x y _ _ h3 h4 => by omega, hpi.out⟩
      case round =>
        obtain ⟨j, d, haj, hji, rfl, hrow, hgr, hszw, hsw, hs1, hs2, hs3, hs4⟩ := hrel
        have HR : Hid (RowP _ _ _ _) := hrow
        have HG : Hid _ := hgr
        have HSW : Hid _ := hsw
        have HA1 : Hid _ := hs1
        have HA2 : Hid _ := hs2
        have HA3 : Hid _ := hs3
        have HA4 : Hid _ := hs4
        have hgw : g < wr.heap.size := by omega
        clear hrow hgr hsw hs1 hs2 hs3 hs4
        by_cases hja : a < j
        · obtain ⟨jp, rfl⟩ : ∃ jp, j = jp + 1 := ⟨j - 1, by omega⟩
          have jz0 : (a : Int) < (jp : Int) + 1 := by omega
          have jz1 : (0 : Int) ≤ (jp : Int) + 1 := by omega
          have jz2 : (jp : Int) + 1 < (n : Int) := by omega
          have jz3 : (0 : Int) ≤ (jp : Int) := by omega
          have jz4 : (jp : Int) < (n : Int) := by omega
          have jz5 : ((jp : Int) + 1).toNat = jp + 1 := by omega
          have jz6 : IntKind.i64.wrap (jp : Int) = (jp : Int) := by rw [IntKind.wrap_i64] <;> omega
          have jz7 : IntKind.i64.wrap ((jp : Int) + 1 - 1) = (jp : Int) := by rw [IntKind.wrap_i64] <;> omega
          obtain ⟨v, hv⟩ : ∃ v, cmpS (keyP (d (jp + 1))) (keyP (d jp)) = v := ⟨_, rfl⟩
          have HV : Hid _ := hv
          by_cases hk : keyP (d (jp + 1)) < keyP (d jp)
          · have hv0 : v < 0 := by rw [← hv]; exact cmpS_neg.2 hk
            have ST : Hid _ := insert_step (key := keyP) (pos := PrX.pos) hja hji HA1.out HA2.out HA3.out (Or.inl hk)
            clear hv hk
            have p0 : wr.cell? ⟨g, (jp + 1) * 2, none⟩ = some (.int .i64 (d (jp + 1)).k) := (HR.out.cell (i := jp + 1) (by omega) (c := 0) (by omega)).1
            have p1 : wr.cell? ⟨g, (jp + 1) * 2 + 1, none⟩ = some (.int .i64 (d (jp + 1)).v) := (HR.out.cell (i := jp + 1) (by omega) (c := 1) (by omega)).1
            have q0 : wr.cell? ⟨g, jp * 2, none⟩ = some (.int .i64 (d jp).k) := (HR.out.cell (i := jp) (by omega) (c := 0) (by omega)).1
            have q1 : wr.cell? ⟨g, jp * 2 + 1, none⟩ = some (.int .i64 (d jp).v) := (HR.out.cell (i := jp) (by omega) (c := 1) (by omega)).1
            have y0 := BelowByM.cell hgw p0
            have z0 := BelowByM.cell hgw q0
            have y1 := BelowByM.cell hgw p1
            have z1 := BelowByM.cell hgw q1
            have SE : Hid (∀ p : BelowByM wr, Calls Try.prog 70 #[.agg #[.int .i64 (d (jp + 1)).k, .int .i64 (d (jp + 1)).v], .agg #[.int .i64 (d jp).k, .int .i64 (d jp).v]] p.W fun e w' => e = .returned (.int .i64 v) ∧ Below p.W.heap.size p.W w') := fun p => by rw [← HV.out]; exact closP_any (d (jp + 1)) (d jp) p.W
            clear p0 q0 p1 q1
            go_wp2_with fail
            refine wp_region_belowM (by kernel_rfl) (by kernel_rfl) ?_
            repeat (go_big_quiet_step ((go_at_call 70; exact below_callM (SE.out _))))
            refine wpQuiet_nil ?_
            rintro _ ⟨p, rfl⟩
            have PB : Hid (Below wr.heap.size wr p.W) := p.h
            have HRp : Hid (RowP p.W g n d) := HR.out.below hgw p.h
            have zp := p.h.size
            clear SE y0 z0 y1 z1
            generalize p.W = wp at *
            clear p
            have HGp : Hid (w.grownBy wp (some g)) := grown_trP HG.out (grown_of_belowP _ PB.out)
            have hgw2 : g < wp.heap.size := by omega
            clear HR HG HV
            have p0 : wp.cell? ⟨g, (jp + 1) * 2, none⟩ = some (.int .i64 (d (jp + 1)).k) := (HRp.out.cell (i := jp + 1) (by omega) (c := 0) (by omega)).1
            have p1 : wp.cell? ⟨g, (jp + 1) * 2 + 1, none⟩ = some (.int .i64 (d (jp + 1)).v) := (HRp.out.cell (i := jp + 1) (by omega) (c := 1) (by omega)).1
            have q0 : wp.cell? ⟨g, jp * 2, none⟩ = some (.int .i64 (d jp).k) := (HRp.out.cell (i := jp) (by omega) (c := 0) (by omega)).1
            have q1 : wp.cell? ⟨g, jp * 2 + 1, none⟩ = some (.int .i64 (d jp).v) := (HRp.out.cell (i := jp) (by omega) (c := 1) (by omega)).1
            have r0 : wp.frozen? ⟨g, (jp + 1) * 2, none⟩ = false := (HRp.out.cell (i := jp + 1) (by omega) (c := 0) (by omega)).2
            have r1 : wp.frozen? ⟨g, (jp + 1) * 2 + 1, none⟩ = false := (HRp.out.cell (i := jp + 1) (by omega) (c := 1) (by omega)).2
            have s0 : wp.frozen? ⟨g, jp * 2, none⟩ = false := (HRp.out.cell (i := jp) (by omega) (c := 0) (by omega)).2
            have s1 : wp.frozen? ⟨g, jp * 2 + 1, none⟩ = false := (HRp.out.cell (i := jp) (by omega) (c := 1) (by omega)).2
            go_wp2_with fail
            go_region
            obtain ⟨W2, hW2⟩ : ∃ W2, W2 = (setManyM g (setManyM g wp ((jp + 1) * 2) (encP (d jp))) (jp * 2) (encP (d (jp + 1)))).drew := ⟨_, rfl⟩
            have HW2 : Hid _ := hW2
            simp only [setManyM, encP] at hW2
            rw [← hW2]
            clear hW2 p0 q0 r0 s0 p1 q1 r1 s1
            obtain ⟨u1, u2, u3⟩ := swappedP HRp.out HGp.out HW2.out
            have HR2 : Hid (RowP _ _ _ _) := u1
            have HG2 : Hid _ := u2
            clear u1 u2 HW2
            go_wp2_with fail
            refine ⟨⟨jp, swF d (jp + 1) jp, by omega, by omega, by first | rfl | go_num | (congr 1; omega), HR2.out, HG2.out, by omega, HSW.out.step _ _ (by omega) (by omega), ?_, ?_, ?_, ?_⟩, by simp [intOf] <;> omega⟩
            · exact ST.out.1
            · exact ST.out.2.1
            · exact ST.out.2.2
            · intro x hx hxj
              have e1 : swF d (jp + 1) jp x = d x := by unfold swF; rw [if_neg (by omega), if_neg (by omega)]
              have e2 : swF d (jp + 1) jp jp = d (jp + 1) := by unfold swF; rw [if_neg (by omega), if_pos rfl]
              rw [e1, e2]
              exact HA4.out x hx (by omega)
          · have hv0 : 0 ≤ v := by rw [← hv]; have := mt cmpS_neg.1 hk; omega
            have hv1 : ¬ v < 0 := by omega
            have FIN : Hid _ := insert_end (key := keyP) (pos := PrX.pos) haj HA1.out HA2.out HA3.out (Or.inr (by have := HA4.out jp (by omega) (by omega); show Lt _ _ (d jp) _; unfold Lt; omega))
            clear hv hk
            have p0 : wr.cell? ⟨g, (jp + 1) * 2, none⟩ = some (.int .i64 (d (jp + 1)).k) := (HR.out.cell (i := jp + 1) (by omega) (c := 0) (by omega)).1
            have p1 : wr.cell? ⟨g, (jp + 1) * 2 + 1, none⟩ = some (.int .i64 (d (jp + 1)).v) := (HR.out.cell (i := jp + 1) (by omega) (c := 1) (by omega)).1
            have q0 : wr.cell? ⟨g, jp * 2, none⟩ = some (.int .i64 (d jp).k) := (HR.out.cell (i := jp) (by omega) (c := 0) (by omega)).1
            have q1 : wr.cell? ⟨g, jp * 2 + 1, none⟩ = some (.int .i64 (d jp).v) := (HR.out.cell (i := jp) (by omega) (c := 1) (by omega)).1
            have y0 := BelowByM.cell hgw p0
            have z0 := BelowByM.cell hgw q0
            have y1 := BelowByM.cell hgw p1
            have z1 := BelowByM.cell hgw q1
            have SE : Hid (∀ p : BelowByM wr, Calls Try.prog 70 #[.agg #[.int .i64 (d (jp + 1)).k, .int .i64 (d (jp + 1)).v], .agg #[.int .i64 (d jp).k, .int .i64 (d jp).v]] p.W fun e w' => e = .returned (.int .i64 v) ∧ Below p.W.heap.size p.W w') := fun p => by rw [← HV.out]; exact closP_any (d (jp + 1)) (d jp) p.W
            clear p0 q0 p1 q1
            go_wp2_with fail
            refine wp_region_belowM (by kernel_rfl) (by kernel_rfl) ?_
            repeat (go_big_quiet_step ((go_at_call 70; exact below_callM (SE.out _))))
            refine wpQuiet_nil ?_
            rintro _ ⟨p, rfl⟩
            have PB : Hid (Below wr.heap.size wr p.W) := p.h
            have HRp : Hid (RowP p.W g n d) := HR.out.below hgw p.h
            have zp := p.h.size
            clear SE y0 z0 y1 z1
            generalize p.W = wp at *
            clear p
            go_wp2_with fail
            exact ⟨⟨i + 1, d, by omega, Or.inl (by omega), by go_num, HRp.out, grown_trP HG.out (grown_of_belowP _ PB.out), fun _ => HSW.out, fun q => by omega, FIN.out⟩, by simp [intOf] <;> omega⟩
        · obtain rfl : j = a := by omega
          have hz : ¬ (j : Int) < (j : Int) := by omega
          have hz2 : decide ((j : Int) < (j : Int)) = false := by simp
          have FIN : Hid _ := insert_end (key := keyP) (pos := PrX.pos) haj HA1.out HA2.out HA3.out (Or.inl rfl)
          go_wp2_with fail
          go_quiet (fail)
          go_wp2_with fail
          exact ⟨⟨i + 1, d, by omega, Or.inl (by omega), by go_num, HR.out, grown_trP HG.out ⟨rfl, rfl, rfl, Nat.le_refl _, fun _ _ _ => rfl⟩, fun _ => HSW.out, fun q => by omega, FIN.out⟩, by simp [intOf] <;> omega⟩
    · have hlt' : ¬ (i : Int) < (b : Int) := by omega
      have FIN : Hid (Swaps a b d0 d1 ∧ SortedOn keyP PrX.pos a b d1) := by
        by_cases c : i ≤ b
        · obtain rfl : i = b := by omega
          exact ⟨hsw c, HO.out⟩
        · rw [hsame (by omega)]
          exact ⟨Swaps.refl _, fun x y h1 h2 h3 => by omega⟩
      clear hrow hgr hsw hsame hsort
      go_wp2_with fail
      go_end0
      exact ⟨rfl, d1, HR1.out, HG1.out, FIN.out.1, FIN.out.2⟩
end Go.Proofs.Ytljidfaeljpnpaa
