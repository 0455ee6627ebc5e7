/- slices.stableCmpFunc, slices.SortStableFunc. -/
import Derived.Test.YtjpfgfcggekklaaSPMid
namespace Go.Proofs.Ytjpfgfcggekklaa
open Go.RowKit
attribute [local go_sem ↓] Go.wp_at_zero Go.wp_at_succ

theorem blk_next (q bs : Nat) : (q + 1) * bs = q * bs + bs := by rw [Nat.add_mul, Nat.one_mul]
theorem blk_two (q bs : Nat) : q * (bs * 2) = q * 2 * bs := by rw [Nat.mul_comm bs 2, ← Nat.mul_assoc]
theorem blk_two1 (q bs : Nat) : (q + 1) * (bs * 2) = q * 2 * bs + bs + bs := by rw [blk_next, blk_two]; omega
theorem blk_mid (q bs : Nat) : (q * 2 + 1) * bs = q * 2 * bs + bs := by rw [blk_next]
set_option maxRecDepth 100000 in
set_option maxHeartbeats 4000000 in
theorem stableP_any (g n cap : Nat) (d0 : Nat → PrX) (w : World) (hr : RowP w g n d0) (hg : g < w.heap.size) (hn : n ≤ 1000000) (hp : ∀ x y, x < y → y < n → (d0 x).pos < (d0 y).pos) :
    Calls Try.prog 64 #[.slice (some ⟨g, 0, none⟩) n cap, .int .i64 n, .func (.func 46) #[] #[]] w fun e w' => e = .returned (.tuple #[]) ∧ ∃ d, RowP w' g n d ∧ w.grownBy w' (some g) ∧ Swaps 0 n d0 d ∧ SortedOn keyP PrX.pos 0 n d := by
  have HR0 : Hid (RowP _ _ _ _) := hr
  have HP : Hid _ := hp
  clear hr hp
  go_enter Try.func64, Try.ntmps64
  go_wp2_with fail
  go_loopw [7, 8] (fun av bv wr => ∃ (q a : Nat) (d : Nat → PrX), a = q * 20 ∧ a ≤ n ∧ av = .int .i64 a ∧ bv = .int .i64 ((a : Int) + 20) ∧ RowP wr g n d ∧ w.grownBy wr (some g) ∧ Swaps 0 n d0 d ∧ (∀ x, a ≤ x → d x = d0 x) ∧ Sep PrX.pos 20 n d ∧ Blocks keyP PrX.pos 20 0 a d) (fun av _ _ => n - (intOf av).toNat)
  case atStart => exact ⟨0, 0, d0, rfl, Nat.zero_le _, rfl, by go_num, HR0.out, grown_refl _ _, Swaps.refl _, fun _ _ => rfl, fun x y h1 h2 _ => HP.out x y h1 h2, fun x y _ _ h => by omega⟩
  case round =>
    obtain ⟨q, a, d, hq, han, rfl, rfl, hrow, hgr, hsw, hsame, hsep, hblk⟩ := hrel
    have HR : Hid (RowP _ _ _ _) := hrow
    have HG : Hid _ := hgr
    have HS : Hid _ := hsw
    have HSA : Hid _ := hsame
    have HSE : Hid (Sep _ _ _ _) := hsep
    have HBL : Hid (Blocks _ _ _ _ _ _) := hblk
    have HQ : Hid _ := hq
    have zg := hgr.size
    clear hrow hgr hsw hsame hsep hblk
    by_cases hlt : a + 20 ≤ n
    · have z1 : (a : Int) + 20 ≤ (n : Int) := by omega
      have C1 : Hid (Calls _ _ _ _ _) := insertionP_any g n cap a (a + 20) d wr HR.out (by omega) (by omega) hlt hn (fun x y h1 h2 h3 => by rw [HSA.out x h1, HSA.out y (by omega)]; exact HP.out x y h2 (by omega))
      have ec : ((a + 20 : Nat) : Int) = (a : Int) + 20 := by omega
      rw [ec] at C1
      clear hq
      go_wp2_with fail
      refine C1.out.mono ?_
      rintro e w1 ⟨rfl, d1, r1, g1, s1, o1⟩
      have HR1 : Hid (RowP _ _ _ _) := r1
      have HG1 : Hid _ := grown_trP HG.out g1
      have FIN : Hid (Swaps 0 n d0 d1 ∧ (∀ x, a + 20 ≤ x → d1 x = d0 x) ∧ Sep PrX.pos 20 n d1 ∧ Blocks keyP PrX.pos 20 0 (a + 20) d1) := by
        have hq := HQ.out
        subst hq
        refine ⟨HS.out.trans (s1.mono (Nat.zero_le _) hlt), fun x hx => by rw [s1.out x (by omega)]; exact HSA.out x (by omega), HSE.out.swaps s1 (by rw [blk_next]; exact Nat.le_refl _) hlt, HBL.out.more s1 o1 (by rw [blk_next]; exact Nat.le_refl _) (Nat.le_refl _)⟩
      clear r1 g1 s1 o1 ec
      go_wp2_with fail
      exact ⟨⟨q + 1, a + 20, d1, by rw [HQ.out, blk_next], hlt, by first | rfl | go_num | (congr 1; omega), by first | rfl | go_num | (congr 1; omega), HR1.out, HG1.out, FIN.out.1, FIN.out.2.1, FIN.out.2.2.1, FIN.out.2.2.2⟩, by simp [intOf] <;> omega⟩
    · have z1 : ¬ (a : Int) + 20 ≤ (n : Int) := by omega
      have z2 : (n : Int) < (a : Int) + 20 := by omega
      have C1 : Hid (Calls _ _ _ _ _) := insertionP_any g n cap a n d wr HR.out (by omega) han (Nat.le_refl _) hn (fun x y h1 h2 h3 => by rw [HSA.out x h1, HSA.out y (by omega)]; exact HP.out x y h2 h3)
      clear hq
      go_wp2_with fail
      refine C1.out.mono ?_
      rintro e w1 ⟨rfl, d1, r1, g1, s1, o1⟩
      have HR1 : Hid (RowP _ _ _ _) := r1
      have HG1 : Hid _ := grown_trP HG.out g1
      have FIN : Hid (Swaps 0 n d0 d1 ∧ Sep PrX.pos 20 n d1 ∧ Blocks keyP PrX.pos 20 0 n d1) := by
        have hq := HQ.out
        subst hq
        refine ⟨HS.out.trans (s1.mono (Nat.zero_le _) (Nat.le_refl _)), HSE.out.swaps s1 (by rw [blk_next]; omega) (Nat.le_refl _), HBL.out.more s1 o1 (by rw [blk_next]; omega) (Nat.le_refl _)⟩
      clear r1 g1 s1 o1 HR HG HS HSA HSE HBL HQ zg C1 z1 z2 hlt han HR0
      go_wp2_with fail
      go_loopw [6, 7, 8, 9] (fun sv _ _ _ wr => ∃ (bs : Nat) (d : Nat → PrX), 0 < bs ∧ bs ≤ 2000000 ∧ sv = .int .i64 bs ∧ RowP wr g n d ∧ w.grownBy wr (some g) ∧ Swaps 0 n d0 d ∧ Sep PrX.pos bs n d ∧ Blocks keyP PrX.pos bs 0 n d) (fun sv _ _ _ _ => n - (intOf sv).toNat)
      case atStart => exact ⟨20, d1, by omega, by omega, rfl, HR1.out, HG1.out, FIN.out.1, FIN.out.2.1, FIN.out.2.2⟩
      case round =>
        clear HR1 HG1 FIN
        clear d1
        obtain ⟨bs, d1, hb0, hbm, rfl, hrow, hgr, hsw, hsep, hblk⟩ := hrel
        have HR1 : Hid (RowP _ _ _ _) := hrow
        have HG1 : Hid _ := hgr
        have HS1 : Hid _ := hsw
        have HSE1 : Hid (Sep _ _ _ _) := hsep
        have HBL1 : Hid (Blocks _ _ _ _ _ _) := hblk
        have zg := hgr.size
        clear hrow hgr hsw hsep hblk
        by_cases hlt : bs < n
        · have z0 : (bs : Int) < (n : Int) := by omega
          generalize wr = W2 at *
          go_wp2_with fail
          go_loopw [7, 8] (fun av bv wr => ∃ (q a : Nat) (d : Nat → PrX), a = q * 2 * bs ∧ a ≤ n ∧ av = .int .i64 a ∧ bv = .int .i64 ((a : Int) + 2 * (bs : Int)) ∧ RowP wr g n d ∧ w.grownBy wr (some g) ∧ W2.heap.size ≤ wr.heap.size ∧ Swaps 0 n d0 d ∧ (∀ x, a ≤ x → d x = d1 x) ∧ Sep PrX.pos (bs * 2) n d ∧ Blocks keyP PrX.pos (bs * 2) 0 a d) (fun av _ _ => n - (intOf av).toNat)
          case atStart => exact ⟨0, 0, d1, by simp, Nat.zero_le _, rfl, by first | rfl | go_num | (congr 1; omega), HR1.out, HG1.out, Nat.le_refl _, HS1.out, fun _ _ => rfl, HSE1.out.twice, fun x y _ _ h => by omega⟩
          case round =>
            obtain ⟨q, a, d, hq, han, rfl, rfl, hrow, hgr, hsz, hsw, hsame, hsep, hblk⟩ := hrel
            have HR : Hid (RowP _ _ _ _) := hrow
            have HG : Hid _ := hgr
            have HS : Hid _ := hsw
            have HSA : Hid _ := hsame
            have HSE : Hid (Sep _ _ _ _) := hsep
            have HBL : Hid (Blocks _ _ _ _ _ _) := hblk
            have HQ : Hid _ := hq
            clear hrow hgr hsw hsame hsep hblk
            have SOR : Hid (∀ u v, a ≤ u → v ≤ n → SortedOn keyP PrX.pos u v d1 → SortedOn keyP PrX.pos u v d) := fun u v k1 k2 k3 x y k4 k5 k6 => by rw [HSA.out x (by omega), HSA.out y (by omega)]; exact k3 x y k4 k5 k6
            have APA : Hid (∀ v, v ≤ n → Apart PrX.pos a (a + bs) v d) := by
              intro v hv x y k1 k2 k3 k4
              rw [HSA.out x k1, HSA.out y (by omega)]
              have hq := HQ.out
              have := HSE1.out.apart (q := q * 2) (b := v) hv
              rw [blk_mid, ← hq] at this
              exact this x y k1 k2 k3 k4
            have SO1 : Hid (a + bs ≤ n → SortedOn keyP PrX.pos a (a + bs) d) := by
              intro h
              refine SOR.out a (a + bs) (Nat.le_refl _) h ?_
              have hq := HQ.out
              have := HBL1.out.sorted (q := q * 2) (b := a + bs) (Nat.zero_le _) (by rw [blk_mid, ← hq]; exact Nat.le_refl _) h
              rwa [← hq] at this
            have SO2 : Hid (∀ v, v ≤ n → v ≤ a + bs + bs → SortedOn keyP PrX.pos (a + bs) v d) := by
              intro v hv hv2
              refine SOR.out (a + bs) v (by omega) hv ?_
              have hq := HQ.out
              have := HBL1.out.sorted (q := q * 2 + 1) (b := v) (Nat.zero_le _) (by rw [blk_next, blk_mid, ← hq]; exact hv2) hv
              rwa [blk_mid, ← hq] at this
            by_cases hlt2 : a + bs + bs ≤ n
            · have z1 : (a : Int) + 2 * (bs : Int) ≤ (n : Int) := by omega
              have C1 : Hid (Calls _ _ _ _ _) := symP_all (a + bs + bs - a) g n cap a (a + bs) (a + bs + bs) d wr (Nat.le_refl _) HR.out (by omega) (by omega) (by omega) hlt2 hn (SO1.out (by omega)) (SO2.out _ hlt2 (Nat.le_refl _)) (APA.out _ hlt2)
              rw [show ((a + bs : Nat) : Int) = (a : Int) + (bs : Int) by omega, show ((a + bs + bs : Nat) : Int) = (a : Int) + 2 * (bs : Int) by omega] at C1
              clear hq
              go_wp2_with fail
              refine C1.out.mono ?_
              rintro e w1 ⟨rfl, d2, r1, g1, s1, o1⟩
              have HR2 : Hid (RowP _ _ _ _) := r1
              have HG2 : Hid _ := grown_trP HG.out g1
              have zg2 := g1.size
              have FIN : Hid (Swaps 0 n d0 d2 ∧ (∀ x, a + bs + bs ≤ x → d2 x = d1 x) ∧ Sep PrX.pos (bs * 2) n d2 ∧ Blocks keyP PrX.pos (bs * 2) 0 (a + bs + bs) d2) := by
                have hq := HQ.out
                have e1 : a = q * (bs * 2) := by rw [blk_two]; exact hq
                have e2 : a + bs + bs = (q + 1) * (bs * 2) := by rw [blk_two1, hq]
                refine ⟨HS.out.trans (s1.mono (Nat.zero_le _) hlt2), fun x hx => by rw [s1.out x (by omega)]; exact HSA.out x (by omega), ?_, ?_⟩
                · rw [e1] at s1; exact HSE.out.swaps s1 (by rw [← e1, e2]; exact Nat.le_refl _) (by rw [← e1]; exact hlt2)
                · have hb := HBL.out
                  rw [e1] at s1 hb o1
                  have := hb.more (n := q * (bs * 2) + bs + bs) s1 o1 (by rw [← e1, e2]; exact Nat.le_refl _) (Nat.le_refl _)
                  rwa [← e1] at this
              clear r1 g1 s1 o1
              go_wp2_with fail
              exact ⟨⟨q + 1, a + bs + bs, d2, by rw [HQ.out, Nat.add_mul, Nat.add_mul]; omega, hlt2, by first | rfl | (congr 1; omega), by first | rfl | (congr 1; omega), HR2.out, HG2.out, by omega, FIN.out.1, FIN.out.2.1, FIN.out.2.2.1, FIN.out.2.2.2⟩, by simp [intOf] <;> omega⟩
            · have z1 : ¬ (a : Int) + 2 * (bs : Int) ≤ (n : Int) := by omega
              by_cases hlt3 : a + bs < n
              · have z3 : (a : Int) + (bs : Int) < (n : Int) := by omega
                have C1 : Hid (Calls _ _ _ _ _) := symP_all (n - a) g n cap a (a + bs) n d wr (Nat.le_refl _) HR.out (by omega) (by omega) hlt3 (Nat.le_refl _) hn (SO1.out (by omega)) (SO2.out _ (Nat.le_refl _) (by omega)) (APA.out _ (Nat.le_refl _))
                rw [show ((a + bs : Nat) : Int) = (a : Int) + (bs : Int) by omega] at C1
                clear hq
                go_wp2_with fail
                refine C1.out.mono ?_
                rintro e w1 ⟨rfl, d2, r1, g1, s1, o1⟩
                have HR2 : Hid (RowP _ _ _ _) := r1
                have HG2 : Hid _ := grown_trP HG.out g1
                have FIN : Hid (Swaps 0 n d0 d2 ∧ Sep PrX.pos (bs * 2) n d2 ∧ Blocks keyP PrX.pos (bs * 2) 0 n d2) := by
                  have hq := HQ.out
                  have e1 : a = q * (bs * 2) := by rw [blk_two]; exact hq
                  have e2 : (q + 1) * (bs * 2) = a + bs + bs := by rw [blk_two1, hq]
                  refine ⟨HS.out.trans (s1.mono (Nat.zero_le _) (Nat.le_refl _)), ?_, ?_⟩
                  · rw [e1] at s1; exact HSE.out.swaps s1 (by rw [e2]; omega) (Nat.le_refl _)
                  · have hb := HBL.out
                    rw [e1] at s1 hb o1
                    exact hb.more s1 o1 (by rw [e2]; omega) (Nat.le_refl _)
                clear r1 g1 s1 o1
                go_wp2_with fail
                exact ⟨⟨bs * 2, d2, by omega, by omega, by first | rfl | (congr 1; omega), HR2.out, HG2.out, FIN.out.1, FIN.out.2.1, FIN.out.2.2⟩, by simp [intOf] <;> omega⟩
              · have z3 : ¬ (a : Int) + (bs : Int) < (n : Int) := by omega
                have FIN : Hid (Blocks keyP PrX.pos (bs * 2) 0 n d) := by
                  have hq := HQ.out
                  have e1 : a = q * (bs * 2) := by rw [blk_two]; exact hq
                  have e2 : (q + 1) * (bs * 2) = a + bs + bs := by rw [blk_two1, hq]
                  have hb := HBL.out
                  have hs : SortedOn keyP PrX.pos a n d := by
                    refine SOR.out a n (Nat.le_refl _) (Nat.le_refl _) ?_
                    have := HBL1.out.sorted (q := q * 2) (b := n) (Nat.zero_le _) (by rw [blk_mid, ← hq]; omega) (Nat.le_refl _)
                    rwa [← hq] at this
                  rw [e1] at hb hs
                  exact hb.more (Swaps.refl _) hs (by rw [e2]; omega) (Nat.le_refl _)
                clear hq
                go_wp2_with fail
                exact ⟨⟨bs * 2, d, by omega, by omega, by first | rfl | (congr 1; omega), HR.out, HG.out, HS.out, HSE.out, FIN.out⟩, by simp [intOf] <;> omega⟩
        · have z0 : ¬ (bs : Int) < (n : Int) := by omega
          have FIN : Hid (SortedOn keyP PrX.pos 0 n d1) := HBL1.out.last (by omega)
          go_wp2_with fail
          go_end0
          exact ⟨rfl, d1, HR1.out, HG1.out, HS1.out, FIN.out⟩

set_option maxHeartbeats 1000000 in
theorem sortStableP_any (g n cap : Nat) (d0 : Nat → PrX) (w : World) (hr : RowP w g n d0) (hg : g < w.heap.size) (hn : n ≤ 1000000) (hp : ∀ x y, x < y → y < n → (d0 x).pos < (d0 y).pos) :
    Calls Try.prog 45 #[.slice (some ⟨g, 0, none⟩) n cap, .func (.func 46) #[] #[]] w fun e w' => e = .returned (.tuple #[]) ∧ ∃ d, RowP w' g n d ∧ w.grownBy w' (some g) ∧ Swaps 0 n d0 d ∧ SortedOn keyP PrX.pos 0 n d := by
  have HC : Hid (Calls _ _ _ _ _) := stableP_any g n cap d0 w hr hg hn hp
  clear hr hp
  go_enter Try.func45, Try.ntmps45
  go_wp2_with fail
  refine HC.out.mono ?_
  rintro e w1 ⟨rfl, h⟩
  have HH : Hid _ := h
  clear h
  go_wp2_with fail
  go_end0
  exact ⟨rfl, HH.out⟩
end Go.Proofs.Ytjpfgfcggekklaa
