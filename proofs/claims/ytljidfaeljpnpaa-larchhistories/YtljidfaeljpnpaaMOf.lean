/- slices.stableCmpFunc, slices.SortStableFunc. Layer 6, pure: the map of any pairs, by sorting the pairs turned round, stably, and keeping the first of each key. No function of the program. Layer 6: slices.Reverse at pairs. Layer 6: slices.CompactFunc at pairs, by the program's question whether two have one key. Layer 6: the program's Of: of any pairs the map. -/
import Derived.Test.YtljidfaeljpnpaaSPMid
import Derived.Test.YtljidfaeljpnpaaMPure4
import Derived.Test.YtljidfaeljpnpaaSPure
import Derived.Test.YtljidfaeljpnpaaSCmp
import Derived.Test.YtljidfaeljpnpaaMG15





namespace Go.Proofs.Ytljidfaeljpnpaa

open Go.RowKit

attribute [local go_sem ↓] Go.wp_at_zero Go.wp_at_succ

theorem blk_nextM (q bs : Nat) : (q + 1) * bs = q * bs + bs := by rw [Nat.add_mul, Nat.one_mul]
theorem blk_twoM (q bs : Nat) : q * (bs * 2) = q * 2 * bs := by rw [Nat.mul_comm bs 2, ← Nat.mul_assoc]
theorem blk_two1M (q bs : Nat) : (q + 1) * (bs * 2) = q * 2 * bs + bs + bs := by rw [blk_nextM, blk_twoM]; omega
theorem blk_midM (q bs : Nat) : (q * 2 + 1) * bs = q * 2 * bs + bs := by rw [blk_nextM]
set_option maxRecDepth 100000 in
set_option maxHeartbeats 4000000 in
theorem stableP_any (g n cap : Nat) (d0 : Nat → PrX) (w : World) (hr : RowP w g n d0) (hg : g < w.heap.size) (hn : n ≤ 1000000) (hp : ∀ x y, x < y → y < n → (d0 x).pos < (d0 y).pos) :
    Calls Try.prog 83 #[.slice (some ⟨g, 0, none⟩) n cap, .int .i64 n, .func (.func 70) #[] #[]] w fun e w' => e = .returned (.tuple #[]) ∧ ∃ d, RowP w' g n d ∧ w.grownBy w' (some g) ∧ Swaps 0 n d0 d ∧ SortedOn keyP PrX.pos 0 n d := by
  have HR0 : Hid (RowP _ _ _ _) := hr
  have HP : Hid _ := hp
  clear hr hp
  go_enter Try.func83, Try.ntmps83
  go_wp2_with fail
  go_loopw [7, 8] (fun av bv wr => ∃ (q a : Nat) (d : Nat → PrX), a = q * 20 ∧ a ≤ n ∧ av = .int .i64 a ∧ bv = .int .i64 ((a : Int) + 20) ∧ RowP wr g n d ∧ w.grownBy wr (some g) ∧ Swaps 0 n d0 d ∧ (∀ x, a ≤ x → d x = d0 x) ∧ Sep PrX.pos 20 n d ∧ Blocks keyP PrX.pos 20 0 a d) (fun av _ _ => n - (intOf av).toNat)
  case atStart => exact ⟨0, 0, d0, rfl, Nat.zero_le _, rfl, by go_num, HR0.out, grown_reflM _ _, Swaps.refl _, fun _ _ => rfl, fun x y h1 h2 _ => HP.out x y h1 h2, fun x y _ _ h => by omega⟩
  case round =>
    obtain ⟨q, a, d, hq, han, rfl, rfl, hrow, hgr, hsw, hsame, hsep, hblk⟩ := hrel
    have HR : Hid (RowP _ _ _ _) := hrow
    have HG : Hid _ := hgr
    have HS : Hid _ := hsw
    have HSA : Hid _ := hsame
    have HSE : Hid (Sep _ _ _ _) := hsep
    have HBL : Hid (Blocks _ _ _ _ _ _) := hblk
    have HQ : Hid _ := hq
    have zg := hgr.size
    clear hrow hgr hsw hsame hsep hblk
    by_cases hlt : a + 20 ≤ n
    · have z1 : (a : Int) + 20 ≤ (n : Int) := by omega
      have C1 : Hid (Calls _ _ _ _ _) := insertionP_any g n cap a (a + 20) d wr HR.out (by omega) (by omega) hlt hn (fun x y h1 h2 h3 => by rw [HSA.out x h1, HSA.out y (by omega)]; exact HP.out x y h2 (by omega))
      have ec : ((a + 20 : Nat) : Int) = (a : Int) + 20 := by omega
      rw [ec] at C1
      clear hq
      go_wp2_with fail
      refine C1.out.mono ?_
      rintro e w1 ⟨rfl, d1, r1, g1, s1, o1⟩
      have HR1 : Hid (RowP _ _ _ _) := r1
      have HG1 : Hid _ := grown_trP HG.out g1
      have FIN : Hid (Swaps 0 n d0 d1 ∧ (∀ x, a + 20 ≤ x → d1 x = d0 x) ∧ Sep PrX.pos 20 n d1 ∧ Blocks keyP PrX.pos 20 0 (a + 20) d1) := by
        have hq := HQ.out
        subst hq
        refine ⟨HS.out.trans (s1.mono (Nat.zero_le _) hlt), fun x hx => by rw [s1.out x (by omega)]; exact HSA.out x (by omega), HSE.out.swaps s1 (by rw [blk_nextM]; exact Nat.le_refl _) hlt, HBL.out.more s1 o1 (by rw [blk_nextM]; exact Nat.le_refl _) (Nat.le_refl _)⟩
      clear r1 g1 s1 o1 ec
      go_wp2_with fail
      exact ⟨⟨q + 1, a + 20, d1, by rw [HQ.out, blk_nextM], hlt, by first | rfl | go_num | (congr 1; omega), by first | rfl | go_num | (congr 1; omega), HR1.out, HG1.out, FIN.out.1, FIN.out.2.1, FIN.out.2.2.1, FIN.out.2.2.2⟩, by simp [intOf] <;> omega⟩
    · have z1 : ¬ (a : Int) + 20 ≤ (n : Int) := by omega
      have z2 : (n : Int) < (a : Int) + 20 := by omega
      have C1 : Hid (Calls _ _ _ _ _) := insertionP_any g n cap a n d wr HR.out (by omega) han (Nat.le_refl _) hn (fun x y h1 h2 h3 => by rw [HSA.out x h1, HSA.out y (by omega)]; exact HP.out x y h2 h3)
      clear hq
      go_wp2_with fail
      refine C1.out.mono ?_
      rintro e w1 ⟨rfl, d1, r1, g1, s1, o1⟩
      have HR1 : Hid (RowP _ _ _ _) := r1
      have HG1 : Hid _ := grown_trP HG.out g1
      have FIN : Hid (Swaps 0 n d0 d1 ∧ Sep PrX.pos 20 n d1 ∧ Blocks keyP PrX.pos 20 0 n d1) := by
        have hq := HQ.out
        subst hq
        refine ⟨HS.out.trans (s1.mono (Nat.zero_le _) (Nat.le_refl _)), HSE.out.swaps s1 (by rw [blk_nextM]; omega) (Nat.le_refl _), HBL.out.more s1 o1 (by rw [blk_nextM]; omega) (Nat.le_refl _)⟩
      clear r1 g1 s1 o1 HR HG HS HSA HSE HBL HQ zg C1 z1 z2 hlt han HR0
      go_wp2_with fail
      go_loopw [6, 7, 8, 9] (fun sv _ _ _ wr => ∃ (bs : Nat) (d : Nat → PrX), 0 < bs ∧ bs ≤ 2000000 ∧ sv = .int .i64 bs ∧ RowP wr g n d ∧ w.grownBy wr (some g) ∧ Swaps 0 n d0 d ∧ Sep PrX.pos bs n d ∧ Blocks keyP PrX.pos bs 0 n d) (fun sv _ _ _ _ => n - (intOf sv).toNat)
      case atStart => exact ⟨20, d1, by omega, by omega, rfl, HR1.out, HG1.out, FIN.out.1, FIN.out.2.1, FIN.out.2.2⟩
      case round =>
        clear HR1 HG1 FIN
        clear d1
        obtain ⟨bs, d1, hb0, hbm, rfl, hrow, hgr, hsw, hsep, hblk⟩ := hrel
        have HR1 : Hid (RowP _ _ _ _) := hrow
        have HG1 : Hid _ := hgr
        have HS1 : Hid _ := hsw
        have HSE1 : Hid (Sep _ _ _ _) := hsep
        have HBL1 : Hid (Blocks _ _ _ _ _ _) := hblk
        have zg := hgr.size
        clear hrow hgr hsw hsep hblk
        by_cases hlt : bs < n
        · have z0 : (bs : Int) < (n : Int) := by omega
          generalize wr = W2 at *
          go_wp2_with fail
          go_loopw [7, 8] (fun av bv wr => ∃ (q a : Nat) (d : Nat → PrX), a = q * 2 * bs ∧ a ≤ n ∧ av = .int .i64 a ∧ bv = .int .i64 ((a : Int) + 2 * (bs : Int)) ∧ RowP wr g n d ∧ w.grownBy wr (some g) ∧ W2.heap.size ≤ wr.heap.size ∧ Swaps 0 n d0 d ∧ (∀ x, a ≤ x → d x = d1 x) ∧ Sep PrX.pos (bs * 2) n d ∧ Blocks keyP PrX.pos (bs * 2) 0 a d) (fun av _ _ => n - (intOf av).toNat)
          case atStart => exact ⟨0, 0, d1, by simp, Nat.zero_le _, rfl, by first | rfl | go_num | (congr 1; omega), HR1.out, HG1.out, Nat.le_refl _, HS1.out, fun _ _ => rfl, HSE1.out.twice, fun x y _ _ h => by omega⟩
          case round =>
            obtain ⟨q, a, d, hq, han, rfl, rfl, hrow, hgr, hsz, hsw, hsame, hsep, hblk⟩ := hrel
            have HR : Hid (RowP _ _ _ _) := hrow
            have HG : Hid _ := hgr
            have HS : Hid _ := hsw
            have HSA : Hid _ := hsame
            have HSE : Hid (Sep _ _ _ _) := hsep
            have HBL : Hid (Blocks _ _ _ _ _ _) := hblk
            have HQ : Hid _ := hq
            clear hrow hgr hsw hsame hsep hblk
            have SOR : Hid (∀ u v, a ≤ u → v ≤ n → SortedOn keyP PrX.pos u v d1 → SortedOn keyP PrX.pos u v d) := fun u v k1 k2 k3 x y k4 k5 k6 => by rw [HSA.out x (by omega), HSA.out y (by omega)]; exact k3 x y k4 k5 k6
            have APA : Hid (∀ v, v ≤ n → Apart PrX.pos a (a + bs) v d) := by
              intro v hv x y k1 k2 k3 k4
              rw [HSA.out x k1, HSA.out y (by omega)]
              have hq := HQ.out
              have := HSE1.out.apart (q := q * 2) (b := v) hv
              rw [blk_midM, ← hq] at this
              exact this x y k1 k2 k3 k4
            have SO1 : Hid (a + bs ≤ n → SortedOn keyP PrX.pos a (a + bs) d) := by
              intro h
              refine SOR.out a (a + bs) (Nat.le_refl _) h ?_
              have hq := HQ.out
              have := HBL1.out.sorted (q := q * 2) (b := a + bs) (Nat.zero_le _) (by rw [blk_midM, ← hq]; exact Nat.le_refl _) h
              rwa [← hq] at this
            have SO2 : Hid (∀ v, v ≤ n → v ≤ a + bs + bs → SortedOn keyP PrX.pos (a + bs) v d) := by
              intro v hv hv2
              refine SOR.out (a + bs) v (by omega) hv ?_
              have hq := HQ.out
              have := HBL1.out.sorted (q := q * 2 + 1) (b := v) (Nat.zero_le _) (by rw [blk_nextM, blk_midM, ← hq]; exact hv2) hv
              rwa [blk_midM, ← hq] at this
            by_cases hlt2 : a + bs + bs ≤ n
            · have z1 : (a : Int) + 2 * (bs : Int) ≤ (n : Int) := by omega
              have C1 : Hid (Calls _ _ _ _ _) := symP_all (a + bs + bs - a) g n cap a (a + bs) (a + bs + bs) d wr (Nat.le_refl _) HR.out (by omega) (by omega) (by omega) hlt2 hn (SO1.out (by omega)) (SO2.out _ hlt2 (Nat.le_refl _)) (APA.out _ hlt2)
              rw [show ((a + bs : Nat) : Int) = (a : Int) + (bs : Int) by omega, show ((a + bs + bs : Nat) : Int) = (a : Int) + 2 * (bs : Int) by omega] at C1
              clear hq
              go_wp2_with fail
              refine C1.out.mono ?_
              rintro e w1 ⟨rfl, d2, r1, g1, s1, o1⟩
              have HR2 : Hid (RowP _ _ _ _) := r1
              have HG2 : Hid _ := grown_trP HG.out g1
              have zg2 := g1.size
              have FIN : Hid (Swaps 0 n d0 d2 ∧ (∀ x, a + bs + bs ≤ x → d2 x = d1 x) ∧ Sep PrX.pos (bs * 2) n d2 ∧ Blocks keyP PrX.pos (bs * 2) 0 (a + bs + bs) d2) := by
                have hq := HQ.out
                have e1 : a = q * (bs * 2) := by rw [blk_twoM]; exact hq
                have e2 : a + bs + bs = (q + 1) * (bs * 2) := by rw [blk_two1M, hq]
                refine ⟨HS.out.trans (s1.mono (Nat.zero_le _) hlt2), fun x hx => by rw [s1.out x (by omega)]; exact HSA.out x (by omega), ?_, ?_⟩
                · rw [e1] at s1; exact HSE.out.swaps s1 (by rw [← e1, e2]; exact Nat.le_refl _) (by rw [← e1]; exact hlt2)
                · have hb := HBL.out
                  rw [e1] at s1 hb o1
                  have := hb.more (n := q * (bs * 2) + bs + bs) s1 o1 (by rw [← e1, e2]; exact Nat.le_refl _) (Nat.le_refl _)
                  rwa [← e1] at this
              clear r1 g1 s1 o1
              go_wp2_with fail
              exact ⟨⟨q + 1, a + bs + bs, d2, by rw [HQ.out, Nat.add_mul, Nat.add_mul]; omega, hlt2, by first | rfl | (congr 1; omega), by first | rfl | (congr 1; omega), HR2.out, HG2.out, by omega, FIN.out.1, FIN.out.2.1, FIN.out.2.2.1, FIN.out.2.2.2⟩, by simp [intOf] <;> omega⟩
            · have z1 : ¬ (a : Int) + 2 * (bs : Int) ≤ (n : Int) := by omega
              by_cases hlt3 : a + bs < n
              · have z3 : (a : Int) + (bs : Int) < (n : Int) := by omega
                have C1 : Hid (Calls _ _ _ _ _) := symP_all (n - a) g n cap a (a + bs) n d wr (Nat.le_refl _) HR.out (by omega) (by omega) hlt3 (Nat.le_refl _) hn (SO1.out (by omega)) (SO2.out _ (Nat.le_refl _) (by omega)) (APA.out _ (Nat.le_refl _))
                rw [show ((a + bs : Nat) : Int) = (a : Int) + (bs : Int) by omega] at C1
                clear hq
                go_wp2_with fail
                refine C1.out.mono ?_
                rintro e w1 ⟨rfl, d2, r1, g1, s1, o1⟩
                have HR2 : Hid (RowP _ _ _ _) := r1
                have HG2 : Hid _ := grown_trP HG.out g1
                have FIN : Hid (Swaps 0 n d0 d2 ∧ Sep PrX.pos (bs * 2) n d2 ∧ Blocks keyP PrX.pos (bs * 2) 0 n d2) := by
                  have hq := HQ.out
                  have e1 : a = q * (bs * 2) := by rw [blk_twoM]; exact hq
                  have e2 : (q + 1) * (bs * 2) = a + bs + bs := by rw [blk_two1M, hq]
                  refine ⟨HS.out.trans (s1.mono (Nat.zero_le _) (Nat.le_refl _)), ?_, ?_⟩
                  · rw [e1] at s1; exact HSE.out.swaps s1 (by rw [e2]; omega) (Nat.le_refl _)
                  · have hb := HBL.out
                    rw [e1] at s1 hb o1
                    exact hb.more s1 o1 (by rw [e2]; omega) (Nat.le_refl _)
                clear r1 g1 s1 o1
                go_wp2_with fail
                exact ⟨⟨bs * 2, d2, by omega, by omega, by first | rfl | (congr 1; omega), HR2.out, HG2.out, FIN.out.1, FIN.out.2.1, FIN.out.2.2⟩, by simp [intOf] <;> omega⟩
              · have z3 : ¬ (a : Int) + (bs : Int) < (n : Int) := by omega
                have FIN : Hid (Blocks keyP PrX.pos (bs * 2) 0 n d) := by
                  have hq := HQ.out
                  have e1 : a = q * (bs * 2) := by rw [blk_twoM]; exact hq
                  have e2 : (q + 1) * (bs * 2) = a + bs + bs := by rw [blk_two1M, hq]
                  have hb := HBL.out
                  have hs : SortedOn keyP PrX.pos a n d := by
                    refine SOR.out a n (Nat.le_refl _) (Nat.le_refl _) ?_
                    have := HBL1.out.sorted (q := q * 2) (b := n) (Nat.zero_le _) (by rw [blk_midM, ← hq]; omega) (Nat.le_refl _)
                    rwa [← hq] at this
                  rw [e1] at hb hs
                  exact hb.more (Swaps.refl _) hs (by rw [e2]; omega) (Nat.le_refl _)
                clear hq
                go_wp2_with fail
                exact ⟨⟨bs * 2, d, by omega, by omega, by first | rfl | (congr 1; omega), HR.out, HG.out, HS.out, HSE.out, FIN.out⟩, by simp [intOf] <;> omega⟩
        · have z0 : ¬ (bs : Int) < (n : Int) := by omega
          have FIN : Hid (SortedOn keyP PrX.pos 0 n d1) := HBL1.out.last (by omega)
          go_wp2_with fail
          go_end0
          exact ⟨rfl, d1, HR1.out, HG1.out, HS1.out, FIN.out⟩

set_option maxHeartbeats 1000000 in
theorem sortStableP_any (g n cap : Nat) (d0 : Nat → PrX) (w : World) (hr : RowP w g n d0) (hg : g < w.heap.size) (hn : n ≤ 1000000) (hp : ∀ x y, x < y → y < n → (d0 x).pos < (d0 y).pos) :
    Calls Try.prog 69 #[.slice (some ⟨g, 0, none⟩) n cap, .func (.func 70) #[] #[]] w fun e w' => e = .returned (.tuple #[]) ∧ ∃ d, RowP w' g n d ∧ w.grownBy w' (some g) ∧ Swaps 0 n d0 d ∧ SortedOn keyP PrX.pos 0 n d := by
  have HC : Hid (Calls _ _ _ _ _) := stableP_any g n cap d0 w hr hg hn hp
  clear hr hp
  go_enter Try.func69, Try.ntmps69
  go_wp2_with fail
  refine HC.out.mono ?_
  rintro e w1 ⟨rfl, h⟩
  have HH : Hid _ := h
  clear h
  go_wp2_with fail
  go_end0
  exact ⟨rfl, HH.out⟩
end Go.Proofs.Ytljidfaeljpnpaa

namespace Go.Proofs.Ytljidfaeljpnpaa

open Go.RowKit

theorem getK_filter (k : Int) : ∀ l : PL, getK k l = ((l.filter (fun p => decide (p.1 = k))).head?).map (·.2)
  | [] => rfl
  | p :: t => by
    unfold getK
    by_cases h : p.1 = k
    · rw [if_pos h, List.filter_cons_of_pos (by simp [h])]; rfl
    · rw [if_neg h, List.filter_cons_of_neg (by simp [h])]; exact getK_filter k t
theorem pairwise_rangeP {E : Type} (R : E → E → Prop) (d : Nat → E) : ∀ n, (∀ x y, x < y → y < n → R (d x) (d y)) → ((List.range n).map d).Pairwise R
  | 0, _ => List.Pairwise.nil
  | n + 1, h => by
    rw [List.range_succ, List.map_append, List.pairwise_append]
    refine ⟨pairwise_rangeP R d n (fun x y h1 h2 => h x y h1 (by omega)), by simp, fun a ha b hb => ?_⟩
    simp only [List.mem_map, List.mem_range, List.map_cons, List.map_nil, List.mem_singleton] at ha hb
    obtain ⟨x, hx, rfl⟩ := ha
    subst hb
    exact h x n hx (Nat.lt_succ_self _)
section

variable {E : Type} {key : E → Int} {pos : E → Nat} {pr : E → Int × Int}

/-- Sorted stably, the first of each key is the first of before. -/
theorem sorted_getK (hk : ∀ x, key x = (pr x).1) {n : Nat} {d0 d : Nat → E} (s : Swaps 0 n d0 d) (o : SortedOn key pos 0 n d) (hp : ∀ x y, x < y → y < n → pos (d0 x) < pos (d0 y)) (k : Int) :
    getK k ((List.range n).map (fun i => pr (d i))) = getK k ((List.range n).map (fun i => pr (d0 i))) := by
  have e : ∀ f : Nat → E, (List.range n).map (fun i => pr (f i)) = ((List.range n).map f).map pr := fun f => by rw [List.map_map]; rfl
  have f : ∀ l : List E, (l.map pr).filter (fun p => decide (p.1 = k)) = (l.filter (fun x => decide (key x = k))).map pr := by
    intro l
    rw [List.filter_map]
    congr 1
    apply List.filter_congr
    intro x _
    simp [hk]
  rw [getK_filter, getK_filter, e, e, f, f]
  congr 3
  have hp' : (((List.range n).map d).filter (fun x => decide (key x = k))).Perm (((List.range n).map d0).filter (fun x => decide (key x = k))) := s.perm.filter _
  have w1 : (((List.range n).map d).filter (fun x => decide (key x = k))).Pairwise (fun x y => pos x < pos y) := by
    have := (pairwise_rangeP (Lt key pos) d n (fun x y h1 h2 => o x y (Nat.zero_le _) h1 h2)).filter (fun x => decide (key x = k))
    refine this.imp_of_mem ?_
    intro x y hx hy h
    have hx' := (List.mem_filter.1 hx).2
    have hy' := (List.mem_filter.1 hy).2
    simp only [decide_eq_true_eq] at hx' hy'
    rcases h with h | h
    · omega
    · exact h.2
  have w2 : (((List.range n).map d0).filter (fun x => decide (key x = k))).Pairwise (fun x y => pos x < pos y) := (pairwise_rangeP (fun x y => pos x < pos y) d0 n hp).filter _
  exact List.Perm.eq_of_pairwise (fun a b _ _ h1 h2 => by omega) w1 w2 hp'
theorem sorted_keys (hk : ∀ x, key x = (pr x).1) {n : Nat} {d : Nat → E} (o : SortedOn key pos 0 n d) : ∀ x y, x < y → y < n → (pr (d x)).1 ≤ (pr (d y)).1 := by
  intro x y h1 h2
  rw [← hk, ← hk]
  rcases o x y (Nat.zero_le _) h1 h2 with h | h
  · omega
  · have := h.1; omega
end

/-- The first of each run of a key. -/
def cmpN (l : PL) : Nat → PL
  | 0 => []
  | j + 1 => if j = 0 ∨ keyAt l j ≠ keyAt l (j - 1) then cmpN l j ++ [(keyAt l j, valAt l j)] else cmpN l j
theorem cmpN_le (l : PL) : ∀ j, (cmpN l j).length ≤ j
  | 0 => Nat.le_refl _
  | j + 1 => by
    have := cmpN_le l j
    simp only [cmpN]
    split
    · simp; omega
    · omega
theorem cmpN_mem (l : PL) (x : Int × Int) : ∀ j, x ∈ cmpN l j → ∃ i, i < j ∧ x = (keyAt l i, valAt l i)
  | 0, h => by simp [cmpN] at h
  | j + 1, h => by
    simp only [cmpN] at h
    split at h
    · rcases List.mem_append.1 h with q | q
      · obtain ⟨i, h1, h2⟩ := cmpN_mem l x j q; exact ⟨i, by omega, h2⟩
      · exact ⟨j, Nat.lt_succ_self _, List.mem_singleton.1 q⟩
    · obtain ⟨i, h1, h2⟩ := cmpN_mem l x j h; exact ⟨i, by omega, h2⟩
theorem cmpN_srt {l : PL} (hl : ∀ x y, x < y → y < l.length → keyAt l x ≤ keyAt l y) : ∀ j, j ≤ l.length → Srt (cmpN l j)
  | 0, _ => List.Pairwise.nil
  | j + 1, hj => by
    have ih := cmpN_srt hl j (by omega)
    simp only [cmpN]
    split
    · rename_i h
      refine List.pairwise_append.2 ⟨ih, by simp, fun a ha b hb => ?_⟩
      rw [List.mem_singleton] at hb
      subst hb
      obtain ⟨i, hi, rfl⟩ := cmpN_mem l a j ha
      rcases h with h | h
      · omega
      · have h1 := hl (j - 1) j (by omega) (by omega)
        have h2 : keyAt l i ≤ keyAt l (j - 1) := by
          by_cases e : i = j - 1
          · rw [e]; exact Int.le_refl _
          · exact hl i (j - 1) (by omega) (by omega)
        show keyAt l i < keyAt l j
        omega
    · exact ih
theorem getK_mem {k : Int} {x : Int × Int} : ∀ {l : PL}, x ∈ l → x.1 = k → (getK k l).isSome = true
  | p :: t, h, hk => by
    unfold getK
    by_cases e : p.1 = k
    · rw [if_pos e]; rfl
    · rw [if_neg e]
      rcases List.mem_cons.1 h with q | q
      · subst q; exact absurd hk e
      · exact getK_mem q hk
theorem cmpN_getK {l : PL} (k : Int) : ∀ j, j ≤ l.length → getK k (cmpN l j) = getK k (l.take j)
  | 0, _ => rfl
  | j + 1, hj => by
    have ih := cmpN_getK (l := l) k j (by omega)
    rw [take_next l (by omega), getK_append]
    simp only [cmpN]
    split
    · rw [getK_append, ih]
    · rename_i h
      rw [ih]
      cases e : getK k (l.take j) with
      | some v => rfl
      | none =>
        simp only [getK]
        by_cases q : keyAt l j = k
        · exfalso
          have hj0 : j ≠ 0 := fun z => h (Or.inl z)
          have he : keyAt l j = keyAt l (j - 1) := Decidable.byContradiction fun z => h (Or.inr z)
          have hm : (keyAt l (j - 1), valAt l (j - 1)) ∈ l.take j := by
            have := take_next l (j := j - 1) (by omega)
            rw [show j - 1 + 1 = j by omega] at this
            rw [this]
            simp
          have := getK_mem (k := k) hm (by show keyAt l (j - 1) = k; omega)
          rw [e] at this
          cases this
        · rw [if_neg q]
theorem getK_above {k : Int} : ∀ {l : PL}, (∀ x ∈ l, k < x.1) → getK k l = none
  | [], _ => rfl
  | p :: t, h => by
    have := h p (List.mem_cons_self ..)
    unfold getK
    rw [if_neg (by omega)]
    exact getK_above (fun x hx => h x (List.mem_cons_of_mem _ hx))
/-- Lists whose keys rise are told by what they hold. -/
theorem srt_ext : ∀ {x y : PL}, Srt x → Srt y → (∀ k, getK k x = getK k y) → x = y
  | [], [], _, _, _ => rfl
  | [], b :: y, _, _, h => by have := h b.1; simp [getK] at this
  | a :: x, [], _, _, h => by have := h a.1; simp [getK] at this
  | a :: x, b :: y, hx, hy, h => by
    have ax : ∀ z ∈ x, a.1 < z.1 := fun z hz => List.rel_of_pairwise_cons hx hz
    have bx : ∀ z ∈ y, b.1 < z.1 := fun z hz => List.rel_of_pairwise_cons hy hz
    have e : a.1 = b.1 := by
      refine Decidable.byContradiction fun q => ?_
      rcases Int.lt_or_gt_of_ne q with c | c
      · have := h a.1
        rw [getK_above (l := b :: y) (fun z hz => by rcases List.mem_cons.1 hz with r | r; (rw [r]; exact c); (have := bx z r; omega))] at this
        simp [getK] at this
      · have := h b.1
        rw [getK_above (l := a :: x) (fun z hz => by rcases List.mem_cons.1 hz with r | r; (rw [r]; exact c); (have := ax z r; omega))] at this
        simp [getK] at this
    have e2 : a.2 = b.2 := by
      have := h a.1
      unfold getK at this
      rw [if_pos rfl, if_pos e.symm] at this
      exact Option.some.inj this
    have e3 : a = b := Prod.ext e e2
    subst e3
    congr 1
    refine srt_ext (List.Pairwise.of_cons hx) (List.Pairwise.of_cons hy) (fun k => ?_)
    by_cases q : a.1 = k
    · rw [getK_above (fun z hz => by have := ax z hz; omega), getK_above (fun z hz => by have := bx z hz; omega)]
    · have := h k
      unfold getK at this
      rwa [if_neg q, if_neg q] at this
theorem getK_putL (key val k : Int) (h : key ≠ k) : ∀ ps : PL, getK k (putL key val ps) = getK k ps
  | [] => by unfold putL getK; rw [if_neg h]; rfl
  | p :: t => by
    unfold putL
    by_cases c1 : p.1 < key
    · rw [if_pos c1]
      unfold getK
      rw [getK_putL key val k h t]
    · rw [if_neg c1]
      by_cases c2 : p.1 = key
      · rw [if_pos c2]
        unfold getK
        rw [if_neg h, if_neg (by omega)]
      · rw [if_neg c2]
        show getK k ((key, val) :: p :: t) = _
        rw [getK, if_neg h]
theorem ofN_getK (ps : PL) (k : Int) : ∀ j, j ≤ ps.length → getK k (ofN ps j) = getK k (ps.take j).reverse
  | 0, _ => rfl
  | j + 1, hj => by
    have ih := ofN_getK ps k j (by omega)
    rw [take_next ps (by omega), List.reverse_append]
    show getK k (putL (keyAt ps j) (valAt ps j) (ofN ps j)) = getK k ((keyAt ps j, valAt ps j) :: (ps.take j).reverse)
    by_cases q : keyAt ps j = k
    · rw [← q, getK_put]
      unfold getK
      rw [if_pos rfl]
    · rw [getK_putL _ _ _ q, ih]
      conv => rhs; unfold getK
      rw [if_neg q]
/-- Turned round, sorted, the first of each key kept: the map. -/
theorem of_sorted {ps l : PL} (hl : ∀ x y, x < y → y < l.length → keyAt l x ≤ keyAt l y) (hg : ∀ k, getK k l = getK k ps.reverse) : cmpN l l.length = ofL ps := by
  refine srt_ext (cmpN_srt hl _ (Nat.le_refl _)) (ofL_srt ps) (fun k => ?_)
  rw [cmpN_getK k _ (Nat.le_refl _), List.take_length, hg k]
  unfold ofL
  rw [ofN_getK ps k _ (Nat.le_refl _), List.take_length]
end Go.Proofs.Ytljidfaeljpnpaa

namespace Go.Proofs.Ytljidfaeljpnpaa

open Go.RowKit

attribute [local go_sem ↓] Go.wp_at_zero Go.wp_at_succ

def rvF (d : Nat → PrX) (n i : Nat) : Nat → PrX := fun x => if x < i ∨ (n - i ≤ x ∧ x < n) then d (n - 1 - x) else d x
theorem rvF_zero (d : Nat → PrX) (n : Nat) : rvF d n 0 = d := by
  funext x
  unfold rvF
  rw [if_neg (by omega)]
theorem rvF_step (d : Nat → PrX) {n i j : Nat} (h : 2 * i + 1 < n) (hj : j = n - 1 - i) : swF (rvF d n i) i j = rvF d n (i + 1) := by
  subst hj
  funext x
  unfold swF rvF
  by_cases e1 : x = i
  · subst e1
    rw [if_pos rfl, if_neg (by omega), if_pos (by omega)]
  · rw [if_neg e1]
    by_cases e2 : x = n - 1 - i
    · subst e2
      rw [if_pos rfl, if_neg (by omega), if_pos (by omega)]
      congr 1
      omega
    · rw [if_neg e2]
      by_cases e3 : x < i ∨ (n - i ≤ x ∧ x < n)
      · rw [if_pos e3, if_pos (by omega)]
      · rw [if_neg e3, if_neg (by omega)]
theorem rvF_last (d : Nat → PrX) {n i x : Nat} (h : ¬ 2 * i + 1 < n) (hi : 2 * i ≤ n) (hx : x < n) : rvF d n i x = d (n - 1 - x) := by
  unfold rvF
  by_cases e : x < i ∨ (n - i ≤ x ∧ x < n)
  · rw [if_pos e]
  · rw [if_neg e]
    congr 1
    omega

set_option maxRecDepth 100000 in
set_option maxHeartbeats 2000000 in
theorem reverse_any (g n cap : Nat) (d0 : Nat → PrX) (w : World) (hr : RowP w g n d0) (hg : g < w.heap.size) (hn : n ≤ 1000000) :
    Calls Try.prog 68 #[.slice (some ⟨g, 0, none⟩) n cap] w fun e w' => e = .returned (.tuple #[]) ∧ ∃ d, RowP w' g n d ∧ w.grownBy w' (some g) ∧ ∀ x, x < n → d x = d0 (n - 1 - x) := by
  have HR0 : Hid (RowP _ _ _ _) := hr
  clear hr
  go_enter Try.func68, Try.ntmps68
  go_wp2_with fail
  go_loopw [2, 3] (fun iv jv wr => ∃ (i : Nat) (z : Int), iv = .int .i64 i ∧ jv = .int .i64 z ∧ z = (n : Int) - 1 - (i : Int) ∧ 2 * i ≤ n ∧ RowP wr g n (rvF d0 n i) ∧ w.grownBy wr (some g)) (fun iv _ _ => n - (intOf iv).toNat)
  case atStart => exact ⟨0, (n : Int) - 1, rfl, by first | rfl | go_num, by omega, by omega, by rw [rvF_zero]; exact HR0.out, grown_reflM _ _⟩
  case round =>
    obtain ⟨i, z, rfl, rfl, hz, hi, hrow, hgr⟩ := hrel
    have HG : Hid _ := hgr
    have zg := hgr.size
    by_cases hlt : 2 * i + 1 < n
    · obtain ⟨j, hj⟩ : ∃ j, j = n - 1 - i := ⟨_, rfl⟩
      obtain rfl : z = (j : Int) := by omega
      have HST : Hid _ := rvF_step d0 hlt hj
      have HJ : Hid _ := hj
      have HZ : Hid _ := hz
      have hij : (i : Int) < (j : Int) := by omega
      have i1 : (i : Int) < (n : Int) := by omega
      have j1 : (j : Int) < (n : Int) := by omega
      have hjn : j < n := by omega
      have hin : i < n := by omega
      clear hz hj
      generalize rvF d0 n i = d at *
      have HR : Hid (RowP _ _ _ _) := hrow
      clear hrow hgr
      have i0 : (0 : Int) ≤ (i : Int) := Int.natCast_nonneg _
      have j0 : (0 : Int) ≤ (j : Int) := Int.natCast_nonneg _
      have hgw : g < wr.heap.size := by omega
      have p0 : wr.cell? ⟨g, i * 2, none⟩ = some (.int .i64 (d i).k) := (HR.out.cell (i := i) hin (c := 0) (by omega)).1
      have p1 : wr.cell? ⟨g, i * 2 + 1, none⟩ = some (.int .i64 (d i).v) := (HR.out.cell (i := i) hin (c := 1) (by omega)).1
      have q0 : wr.cell? ⟨g, j * 2, none⟩ = some (.int .i64 (d j).k) := (HR.out.cell (i := j) hjn (c := 0) (by omega)).1
      have q1 : wr.cell? ⟨g, j * 2 + 1, none⟩ = some (.int .i64 (d j).v) := (HR.out.cell (i := j) hjn (c := 1) (by omega)).1
      have r0 : wr.frozen? ⟨g, i * 2, none⟩ = false := (HR.out.cell (i := i) hin (c := 0) (by omega)).2
      have r1 : wr.frozen? ⟨g, i * 2 + 1, none⟩ = false := (HR.out.cell (i := i) hin (c := 1) (by omega)).2
      have s0 : wr.frozen? ⟨g, j * 2, none⟩ = false := (HR.out.cell (i := j) hjn (c := 0) (by omega)).2
      have s1 : wr.frozen? ⟨g, j * 2 + 1, none⟩ = false := (HR.out.cell (i := j) hjn (c := 1) (by omega)).2
      go_wp2_with fail
      go_region
      obtain ⟨W2, hW2⟩ : ∃ W2, W2 = (setManyM g (setManyM g wr (i * 2) (encP (d j))) (j * 2) (encP (d i))).drew := ⟨_, rfl⟩
      have HW2 : Hid _ := hW2
      simp only [setManyM, encP] at hW2
      rw [← hW2]
      clear hW2 p0 q0 r0 s0 p1 q1 r1 s1
      obtain ⟨u1, u2, u3⟩ := swappedP HR.out HG.out HW2.out
      have HR2 : Hid (RowP _ _ _ _) := u1
      have HG2 : Hid _ := u2
      clear u1 u2 HW2
      go_wp2_with fail
      refine ⟨⟨i + 1, (j : Int) - 1, by go_num, by first | rfl | go_num, by have := HZ.out; omega, by omega, by rw [← HST.out]; exact HR2.out, HG2.out⟩, by simp [intOf]; omega⟩
    · have hij : ¬ (i : Int) < z := by omega
      have FIN : Hid (∀ x, x < n → rvF d0 n i x = d0 (n - 1 - x)) := fun x hx => rvF_last d0 hlt hi hx
      have HR : Hid (RowP _ _ _ _) := hrow
      clear hrow hgr hz
      go_wp2_with fail
      go_end0
      exact ⟨rfl, _, HR.out, HG.out, FIN.out⟩
end Go.Proofs.Ytljidfaeljpnpaa

namespace Go.Proofs.Ytljidfaeljpnpaa

open Go.RowKit

attribute [local go_sem ↓] Go.wp_at_zero Go.wp_at_succ

set_option maxHeartbeats 1000000 in
theorem of2_any (a b c d : Int) (w : World) : Calls Try.prog 73 #[.agg #[.int .i64 a, .int .i64 b], .agg #[.int .i64 c, .int .i64 d]] w fun e w' => e = .returned (.bool (decide (a = c))) ∧ Below w.heap.size w w' := by
  go_enter Try.func73, Try.ntmps73
  go_wp2_with fail
  go_ret
  exact ⟨by first | rfl | (congr 2), (below_allocM _ _).alloc (by simp) _⟩

/-- A list of pairs in a block that can be written. -/
def LieP (w : World) (g : Nat) (l : PL) : Prop := ∃ F, ValsM w g (l.length * 2) F ∧ ∀ x, x < l.length → F (x * 2) = .int .i64 (keyAt l x) ∧ F (x * 2 + 1) = .int .i64 (valAt l x)
theorem cmpN_start {l : PL} : ∀ j, j ≤ l.length → (∀ x, 1 ≤ x → x < j → keyAt l x ≠ keyAt l (x - 1)) → cmpN l j = l.take j
  | 0, _, _ => by simp [cmpN]
  | j + 1, hj, h => by
    have ih := cmpN_start j (by omega) (fun x h1 h2 => h x h1 (by omega))
    simp only [cmpN]
    rw [take_next l (by omega), ih]
    by_cases e : j = 0
    · rw [if_pos (Or.inl e)]
    · rw [if_pos (Or.inr (h j (by omega) (Nat.lt_succ_self _)))]
theorem keyAt_take {l : PL} {m x : Nat} (h : x < m) : keyAt (l.take m) x = keyAt l x ∧ valAt (l.take m) x = valAt l x := by
  unfold keyAt valAt
  constructor <;> simp [List.getD_eq_getElem?_getD, h]
theorem key_app {a : PL} {p : Int × Int} {x : Nat} (h : x < a.length) : keyAt (a ++ [p]) x = keyAt a x ∧ valAt (a ++ [p]) x = valAt a x := by
  unfold keyAt valAt
  constructor <;> simp [List.getD_eq_getElem?_getD, List.getElem?_append_left h]
theorem key_app_last {a : PL} {p : Int × Int} {k : Nat} (h : a.length = k) : keyAt (a ++ [p]) k = p.1 ∧ valAt (a ++ [p]) k = p.2 := by
  subst h
  unfold keyAt valAt
  constructor <;> simp [List.getD_eq_getElem?_getD]

set_option maxRecDepth 100000 in
set_option maxHeartbeats 4000000 in
theorem compact_any (B g cap : Nat) (l : PL) (w : World) (h : LieP w g l) (hg : g < w.heap.size) (hB : B ≤ g) (hcap : l.length ≤ cap) (hn : l.length ≤ 1000000) :
    Calls Try.prog 72 #[.slice (some ⟨g, 0, none⟩) l.length cap, .func (.func 73) #[] #[]] w fun e w' => e = .returned (.slice (some ⟨g, 0, none⟩) (cmpN l l.length).length cap) ∧ PairsAt w' (some ⟨g, 0, none⟩) g 0 (cmpN l l.length) ∧ Below B w w' := by
  have HL : Hid (LieP _ _ _) := h
  have HWH : Hid (∀ W, Below w.heap.size w W → PairsAt W (some ⟨g, 0, none⟩) g 0 l) := by
    intro W hW
    obtain ⟨F, h1, h2⟩ := h
    refine ⟨fun _ => rfl, fun _ => Nat.lt_of_lt_of_le hg hW.size, fun i hi => ?_, by unfold maxLen; omega⟩
    rw [Nat.zero_add, hW.cell (p := ⟨g, i * 2, none⟩) hg, hW.cell (p := ⟨g, i * 2 + 1, none⟩) hg, (h1 (i * 2) (by omega)).1, (h1 (i * 2 + 1) (by omega)).1, (h2 i hi).1, (h2 i hi).2]
    exact ⟨rfl, rfl⟩
  clear h
  by_cases hs : l.length < 2
  · have hs' : (l.length : Int) < 2 := by omega
    have F : Hid (cmpN l l.length = l) := by
      show cmpN l l.length = l
      rw [cmpN_start _ (Nat.le_refl _) (fun x h1 h2 => by omega), List.take_length]
    go_enter Try.func72, Try.ntmps72
    go_wp2_with fail
    go_ret
    rw [F.out]
    exact ⟨rfl, HWH.out _ (Below.refl _ _), Below.refl _ _⟩
  · have hs' : ¬ (l.length : Int) < 2 := by omega
    have hs2 : 2 ≤ l.length := by omega
    go_enter Try.func72, Try.ntmps72
    go_wp2_with fail
    go_loopw [5] (fun kv wr => ∃ kp : Nat, kp + 1 ≤ l.length ∧ kv = .int .i64 ((kp : Int) + 1) ∧ (∀ x, 1 ≤ x → x < kp + 1 → keyAt l x ≠ keyAt l (x - 1)) ∧ Below w.heap.size w wr) (fun kv _ => l.length - (intOf kv).toNat)
    case atStart => exact ⟨0, by omega, by first | rfl | go_num, fun x h1 h2 => by omega, Below.refl _ _⟩
    case round =>
      obtain ⟨kp, hkp, rfl, hall, hbw⟩ := hrel
      have HW : Hid _ := hbw
      have HAL : Hid _ := hall
      have hgw : g < wr.heap.size := by have := hbw.size; omega
      have zw := hbw.size
      have CE : Hid (∀ x, x < l.length → wr.cell? ⟨g, x * 2, none⟩ = some (.int .i64 (keyAt l x)) ∧ wr.cell? ⟨g, x * 2 + 1, none⟩ = some (.int .i64 (valAt l x))) := fun x hx => by have := (HWH.out wr HW.out).cells x hx; rwa [Nat.zero_add] at this
      clear hall hbw
      by_cases hlt : kp + 1 < l.length
      · have jz1 : (0 : Int) ≤ (kp : Int) + 1 := by omega
        have jz2 : (kp : Int) + 1 < (l.length : Int) := by omega
        have jz3 : (0 : Int) ≤ (kp : Int) := by omega
        have jz4 : (kp : Int) < (l.length : Int) := by omega
        have jz5 : ((kp : Int) + 1).toNat = kp + 1 := by omega
        have jz6 : IntKind.i64.wrap (kp : Int) = (kp : Int) := by rw [IntKind.wrap_i64] <;> omega
        have jz7 : IntKind.i64.wrap ((kp : Int) + 1 - 1) = (kp : Int) := by rw [IntKind.wrap_i64] <;> omega
        have p0 := (CE.out (kp + 1) hlt).1
        have p1 := (CE.out (kp + 1) hlt).2
        have q0 := (CE.out kp (by omega)).1
        have q1 := (CE.out kp (by omega)).2
        by_cases hk : keyAt l (kp + 1) = keyAt l kp
        · have HK : Hid _ := hk
          clear hk
          have y0 := BelowByM.cell hgw p0
          have z0 := BelowByM.cell hgw q0
          have y1 := BelowByM.cell hgw p1
          have z1 := BelowByM.cell hgw q1
          have SE : Hid (∀ p : BelowByM wr, Calls Try.prog 73 #[.agg #[.int .i64 (keyAt l (kp + 1)), .int .i64 (valAt l (kp + 1))], .agg #[.int .i64 (keyAt l kp), .int .i64 (valAt l kp)]] p.W fun e w' => e = .returned (.bool true) ∧ Below p.W.heap.size p.W w') := fun p => by have := of2_any (keyAt l (kp + 1)) (valAt l (kp + 1)) (keyAt l kp) (valAt l kp) p.W; rwa [show decide ((keyAt l (kp + 1)) = (keyAt l kp)) = true by simp [HK.out]] at this
          clear p0 q0 p1 q1
          go_wp2_with fail
          refine wp_region_belowM (by kernel_rfl) (by kernel_rfl) ?_
          repeat (go_big_quiet_step ((go_at_call 73; exact below_callM (SE.out _))))
          refine wpQuiet_nil ?_
          rintro _ ⟨p, rfl⟩
          have PB : Hid (Below wr.heap.size wr p.W) := p.h
          have zp := p.h.size
          clear SE y0 z0 y1 z1
          generalize p.W = wp at *
          clear p
          
          obtain ⟨F0, hV0, hF0⟩ := HL.out
          have V0 : Hid (ValsM wp g (l.length * 2) F0) := hV0.below hg (HW.out.trans (PB.out.mono HW.out.size))
          have HF0 : Hid _ := hF0
          have B0 : Hid (Below B w wp) := (HW.out.trans (PB.out.mono HW.out.size)).mono (by omega)
          have E0 : Hid (cmpN l (kp + 2) = l.take (kp + 1)) := by
            show cmpN l (kp + 2) = l.take (kp + 1)
            have e1 : cmpN l (kp + 2) = cmpN l (kp + 1) := by
              show (if kp + 1 = 0 ∨ keyAt l (kp + 1) ≠ keyAt l (kp + 1 - 1) then cmpN l (kp + 1) ++ [(keyAt l (kp + 1), valAt l (kp + 1))] else cmpN l (kp + 1)) = _
              rw [if_neg (by rw [Nat.add_sub_cancel]; have := HK.out; simp [this])]
            rw [e1, cmpN_start _ (by omega) HAL.out]
          have hgp : g < wp.heap.size := by omega
          clear hV0 hF0 hgw zw HW PB zp CE HAL HK HWH
          have q1 : kp + 1 ≤ l.length := by omega
          have q2 : kp + 1 ≤ cap := by omega
          have q3 : ¬ cap = kp + 1 := by omega
          have q4 : (kp : Int) + 1 ≤ (l.length : Int) := by omega
          have q5 : (kp : Int) + 1 ≤ (cap : Int) := by omega
          obtain ⟨m, hm⟩ : ∃ m, m = l.length - (kp + 1) := ⟨_, rfl⟩
          have HM : Hid (l.length = kp + 1 + m) := by show l.length = kp + 1 + m; omega
          have hm0 : 0 < m := by omega
          have mz : m ≤ 1000000 := by omega
          go_wp2_with fail
          rw [← hm]
          clear hm
          go_loopw [5, 7] (fun kv qv wr => ∃ (k q : Nat) (F : Nat → Value), q + 1 ≤ m ∧ qv = .int .i64 ((q : Int) + 1) ∧ kv = .int .i64 k ∧ (cmpN l (kp + 1 + q + 1)).length = k ∧ k ≤ kp + 1 + q ∧ 0 < k ∧ ValsM wr g (l.length * 2) F ∧ (∀ x, x < k → F (x * 2) = .int .i64 (keyAt (cmpN l (kp + 1 + q + 1)) x) ∧ F (x * 2 + 1) = .int .i64 (valAt (cmpN l (kp + 1 + q + 1)) x)) ∧ (∀ x, kp + 1 + q ≤ x → x < l.length → F (x * 2) = .int .i64 (keyAt l x) ∧ F (x * 2 + 1) = .int .i64 (valAt l x)) ∧ Below B w wr ∧ g < wr.heap.size) (fun _ qv _ => m - (intOf qv).toNat)
          case atStart =>
            refine ⟨kp + 1, 0, F0, by omega, by first | rfl | go_num, by first | rfl | go_num, ?_, by omega, by omega, V0.out, fun x hx => ?_, fun x hx hx2 => HF0.out x hx2, B0.out, hgp⟩
            · rw [show kp + 1 + 0 + 1 = kp + 2 by omega, E0.out, List.length_take]; omega
            · rw [show kp + 1 + 0 + 1 = kp + 2 by omega, E0.out, (keyAt_take hx).1, (keyAt_take hx).2]
              exact HF0.out x (by omega)
          case round =>
            clear V0 HF0 B0 E0 hgp jz1 jz2 jz3 jz4 jz5 jz6 jz7
            obtain ⟨k, q, F, hqm, rfl, rfl, hlen, hk1, hk0, hV, hF1, hF2, hbw, hgw⟩ := hrel
            have HV : Hid (ValsM _ _ _ _) := hV
            have H1 : Hid _ := hF1
            have H2 : Hid _ := hF2
            have HB : Hid _ := hbw
            have HLE : Hid _ := hlen
            have hlm := HM.out
            by_cases hlt2 : q + 1 < m
            · have jz1 : (0 : Int) ≤ (q : Int) + 1 := by omega
              have jz2 : (q : Int) + 1 < (m : Int) := by omega
              have jz3 : (0 : Int) ≤ (q : Int) := by omega
              have jz4 : (q : Int) < (m : Int) := by omega
              have jz5 : ((q : Int) + 1).toNat = q + 1 := by omega
              have jz6 : IntKind.i64.wrap (q : Int) = (q : Int) := by rw [IntKind.wrap_i64] <;> omega
              have jz7 : IntKind.i64.wrap ((q : Int) + 1 - 1) = (q : Int) := by rw [IntKind.wrap_i64] <;> omega
              have kz0 : (0 : Int) ≤ (k : Int) := Int.natCast_nonneg _
              have kz1 : (k : Int) < (l.length : Int) := by omega
              have a1 : (kp + 1 + q + 1) * 2 = (kp + 1) * 2 + (q + 1) * 2 := by omega
              have a2 : (kp + 1 + q) * 2 = (kp + 1) * 2 + q * 2 := by omega
              obtain ⟨f0, f1⟩ := hF2 (kp + 1 + q + 1) (by omega) (by omega)
              obtain ⟨f2, f3⟩ := hF2 (kp + 1 + q) (by omega) (by omega)
              have p0 := (hV ((kp + 1 + q + 1) * 2) (by omega)).1
              have p1 := (hV ((kp + 1 + q + 1) * 2 + 1) (by omega)).1
              have q0 := (hV ((kp + 1 + q) * 2) (by omega)).1
              have q1' := (hV ((kp + 1 + q) * 2 + 1) (by omega)).1
              rw [f0, a1] at p0
              rw [f1, a1] at p1
              rw [f2, a2] at q0
              rw [f3, a2] at q1'
              have q1 := q1'
              have A1 : Hid _ := a1
              have NX : Hid (cmpN l (kp + 1 + q + 1 + 1) = if keyAt l (kp + 1 + q + 1) = keyAt l (kp + 1 + q) then cmpN l (kp + 1 + q + 1) else cmpN l (kp + 1 + q + 1) ++ [(keyAt l (kp + 1 + q + 1), valAt l (kp + 1 + q + 1))]) := by
                show (if kp + 1 + q + 1 = 0 ∨ keyAt l (kp + 1 + q + 1) ≠ keyAt l (kp + 1 + q + 1 - 1) then cmpN l (kp + 1 + q + 1) ++ [(keyAt l (kp + 1 + q + 1), valAt l (kp + 1 + q + 1))] else cmpN l (kp + 1 + q + 1)) = _
                rw [Nat.add_sub_cancel]
                by_cases e : keyAt l (kp + 1 + q + 1) = keyAt l (kp + 1 + q)
                · rw [if_neg (by simp [e]), if_pos e]
                · rw [if_pos (Or.inr e), if_neg e]
              clear a1 a2 f0 f1 f2 f3 hV hF1 hF2 hbw hlen q1' hlm
              by_cases hk : keyAt l (kp + 1 + q + 1) = keyAt l (kp + 1 + q)
              · have HK : Hid _ := hk
                clear hk
                have y0 := BelowByM.cell hgw p0
                have z0 := BelowByM.cell hgw q0
                have y1 := BelowByM.cell hgw p1
                have z1 := BelowByM.cell hgw q1
                have SE : Hid (∀ p : BelowByM wr, Calls Try.prog 73 #[.agg #[.int .i64 (keyAt l (kp + 1 + q + 1)), .int .i64 (valAt l (kp + 1 + q + 1))], .agg #[.int .i64 (keyAt l (kp + 1 + q)), .int .i64 (valAt l (kp + 1 + q))]] p.W fun e w' => e = .returned (.bool true) ∧ Below p.W.heap.size p.W w') := fun p => by have := of2_any (keyAt l (kp + 1 + q + 1)) (valAt l (kp + 1 + q + 1)) (keyAt l (kp + 1 + q)) (valAt l (kp + 1 + q)) p.W; rwa [show decide ((keyAt l (kp + 1 + q + 1)) = (keyAt l (kp + 1 + q))) = true by simp [HK.out]] at this
                clear p0 q0 p1 q1
                go_wp2_with fail
                refine wp_region_belowM (by kernel_rfl) (by kernel_rfl) ?_
                repeat (go_big_quiet_step ((go_at_call 73; exact below_callM (SE.out _))))
                refine wpQuiet_nil ?_
                rintro _ ⟨p, rfl⟩
                have PB : Hid (Below wr.heap.size wr p.W) := p.h
                have zp := p.h.size
                clear SE y0 z0 y1 z1
                generalize p.W = wp at *
                clear p
                
                have VP : Hid (ValsM wp g (l.length * 2) F) := HV.out.below hgw PB.out
                have BP : Hid (Below B w wp) := HB.out.trans (PB.out.mono (by omega))
                go_wp2_with fail
                have e2 : cmpN l (kp + 1 + (q + 1) + 1) = cmpN l (kp + 1 + q + 1) := by rw [show kp + 1 + (q + 1) + 1 = kp + 1 + q + 1 + 1 by omega, NX.out, if_pos HK.out]
                exact ⟨⟨k, q + 1, F, by omega, by go_num, rfl, by rw [e2]; exact HLE.out, by omega, hk0, VP.out, by rw [e2]; exact H1.out, fun x hx hx2 => H2.out x (by omega) hx2, BP.out, by omega⟩, by simp [intOf]; omega⟩
              · have HK : Hid (¬ keyAt l (kp + 1 + q + 1) = keyAt l (kp + 1 + q)) := hk
                clear hk
                have y0 := BelowByM.cell hgw p0
                have z0 := BelowByM.cell hgw q0
                have y1 := BelowByM.cell hgw p1
                have z1 := BelowByM.cell hgw q1
                have SE : Hid (∀ p : BelowByM wr, Calls Try.prog 73 #[.agg #[.int .i64 (keyAt l (kp + 1 + q + 1)), .int .i64 (valAt l (kp + 1 + q + 1))], .agg #[.int .i64 (keyAt l (kp + 1 + q)), .int .i64 (valAt l (kp + 1 + q))]] p.W fun e w' => e = .returned (.bool false) ∧ Below p.W.heap.size p.W w') := fun p => by have := of2_any (keyAt l (kp + 1 + q + 1)) (valAt l (kp + 1 + q + 1)) (keyAt l (kp + 1 + q)) (valAt l (kp + 1 + q)) p.W; rwa [show decide ((keyAt l (kp + 1 + q + 1)) = (keyAt l (kp + 1 + q))) = false by simp [HK.out]] at this
                clear p0 q0 p1 q1
                go_wp2_with fail
                refine wp_region_belowM (by kernel_rfl) (by kernel_rfl) ?_
                repeat (go_big_quiet_step ((go_at_call 73; exact below_callM (SE.out _))))
                refine wpQuiet_nil ?_
                rintro _ ⟨p, rfl⟩
                have PB : Hid (Below wr.heap.size wr p.W) := p.h
                have zp := p.h.size
                clear SE y0 z0 y1 z1
                generalize p.W = wp at *
                clear p
                
                have VP : Hid (ValsM wp g (l.length * 2) F) := HV.out.below hgw PB.out
                have BP : Hid (Below B w wp) := HB.out.trans (PB.out.mono (by omega))
                have hgp : g < wp.heap.size := by omega
                have hlm := HM.out
                obtain ⟨f0, f1⟩ := H2.out (kp + 1 + q + 1) (by omega) (by omega)
                have p0 := (VP.out ((kp + 1 + q + 1) * 2) (by omega)).1
                have p1 := (VP.out ((kp + 1 + q + 1) * 2 + 1) (by omega)).1
                rw [f0, A1.out] at p0
                rw [f1, A1.out] at p1
                have m0 := VP.out (k * 2) (by omega)
                have m1 := VP.out (k * 2 + 1) (by omega)
                clear f0 f1 hlm
                go_wp2_with fail
                have e2 : cmpN l (kp + 1 + (q + 1) + 1) = cmpN l (kp + 1 + q + 1) ++ [(keyAt l (kp + 1 + q + 1), valAt l (kp + 1 + q + 1))] := by rw [show kp + 1 + (q + 1) + 1 = kp + 1 + q + 1 + 1 by omega, NX.out, if_neg HK.out]
                have hle := HLE.out
                refine ⟨⟨k + 1, q + 1, _, by omega, by go_num, by go_num, by rw [e2, List.length_append, hle]; rfl, by omega, by omega, (VP.out.set _ _).set _ _, fun x hx => ?_, fun x hx hx2 => ?_, (BP.out.setCell (by simpa using hB) _).setCell (by simpa using hB) _, by simpa using hgp⟩, by simp [intOf]; omega⟩
                · rw [e2]
                  by_cases e : x = k
                  · subst e
                    rw [putV_otherM _ _ _ _ (by omega), putV_sameM, putV_sameM, (key_app_last hle).1, (key_app_last hle).2]
                    exact ⟨rfl, rfl⟩
                  · have hx' : x < k := by omega
                    rw [(key_app (by rw [hle]; exact hx')).1, (key_app (by rw [hle]; exact hx')).2, putV_otherM _ _ _ _ (by omega), putV_otherM _ _ _ _ (by omega), putV_otherM _ _ _ _ (by omega), putV_otherM _ _ _ _ (by omega)]
                    exact H1.out x hx'
                · rw [putV_otherM _ _ _ _ (by omega), putV_otherM _ _ _ _ (by omega), putV_otherM _ _ _ _ (by omega), putV_otherM _ _ _ _ (by omega)]
                  exact H2.out x (by omega) hx2
            · have jz2 : ¬ (q : Int) + 1 < (m : Int) := by omega
              have FN : Hid (cmpN l (kp + 1 + q + 1) = cmpN l l.length) := by
                show cmpN l (kp + 1 + q + 1) = cmpN l l.length
                rw [show kp + 1 + q + 1 = l.length by omega]
              have hcl : ∀ ty, (Builtin.clear_ #[ 40 ] ty #[.slice (some ⟨g, k * 2, none⟩) (l.length - k) (cap - k)]).run Try.prog wr = .ok (.tuple #[]) (wr.setCells g (k * 2) (List.replicate ((l.length - k) * 2) (.int .i64 0))) := fun ty => run_clear_twoM wr _ _ ty prs_underM Try.zeroValue46 g (k * 2) (l.length - k) (cap - k) (by omega)
                (fun x hx => by rw [(hV (k * 2 + x) (by omega)).1]; rfl) (fun x hx => (hV (k * 2 + x) (by omega)).2)
              have r1 : k ≤ l.length := by omega
              have r2 : k ≤ cap := by omega
              have r3 : ¬ cap = k := by omega
              have r4 : (k : Int) ≤ (l.length : Int) := by omega
              have r5 : (k : Int) ≤ (cap : Int) := by omega
              have r6 : (0 : Int) ≤ (k : Int) := Int.natCast_nonneg _
              have hll : k ≤ l.length := by omega
              clear hV hF1 hF2 hbw hlen hlm
              go_wp2_with fail
              go_ret
              rw [← FN.out]
              refine ⟨by rw [HLE.out]; rfl, ⟨fun _ => rfl, fun _ => ?_, fun x hx => ?_, ?_⟩, below_setCellsM g hB _ _ _ HB.out⟩
              · have := below_setCellsM (w0 := wr) (B := 0) g (Nat.zero_le _) (List.replicate ((l.length - k) * 2) (.int .i64 0)) (k * 2) wr (Below.refl _ _)
                exact Nat.lt_of_lt_of_le hgw this.size
              · rw [HLE.out] at hx
                obtain ⟨y0, y1⟩ := H1.out x hx
                rw [Nat.zero_add, World.cell?_setCells_out g _ _ _ ⟨g, x * 2, none⟩ (fun _ _ => Or.inl (by show x * 2 < k * 2; omega)), World.cell?_setCells_out g _ _ _ ⟨g, x * 2 + 1, none⟩ (fun _ _ => Or.inl (by show x * 2 + 1 < k * 2; omega)), (HV.out (x * 2) (by omega)).1, (HV.out (x * 2 + 1) (by omega)).1, y0, y1]
                exact ⟨rfl, rfl⟩
              · rw [HLE.out]; unfold maxLen; omega
        · have HK : Hid (¬ keyAt l (kp + 1) = keyAt l kp) := hk
          clear hk
          have y0 := BelowByM.cell hgw p0
          have z0 := BelowByM.cell hgw q0
          have y1 := BelowByM.cell hgw p1
          have z1 := BelowByM.cell hgw q1
          have SE : Hid (∀ p : BelowByM wr, Calls Try.prog 73 #[.agg #[.int .i64 (keyAt l (kp + 1)), .int .i64 (valAt l (kp + 1))], .agg #[.int .i64 (keyAt l kp), .int .i64 (valAt l kp)]] p.W fun e w' => e = .returned (.bool false) ∧ Below p.W.heap.size p.W w') := fun p => by have := of2_any (keyAt l (kp + 1)) (valAt l (kp + 1)) (keyAt l kp) (valAt l kp) p.W; rwa [show decide ((keyAt l (kp + 1)) = (keyAt l kp)) = false by simp [HK.out]] at this
          clear p0 q0 p1 q1
          go_wp2_with fail
          refine wp_region_belowM (by kernel_rfl) (by kernel_rfl) ?_
          repeat (go_big_quiet_step ((go_at_call 73; exact below_callM (SE.out _))))
          refine wpQuiet_nil ?_
          rintro _ ⟨p, rfl⟩
          have PB : Hid (Below wr.heap.size wr p.W) := p.h
          have zp := p.h.size
          clear SE y0 z0 y1 z1
          generalize p.W = wp at *
          clear p
          
          go_wp2_with fail
          refine ⟨⟨kp + 1, by omega, by go_num, fun x h1 h2 => ?_, HW.out.trans (PB.out.mono HW.out.size)⟩, by simp [intOf]; omega⟩
          by_cases e : x = kp + 1
          · subst e; exact HK.out
          · exact HAL.out x h1 (by omega)
      · have jz2 : ¬ (kp : Int) + 1 < (l.length : Int) := by omega
        have F : Hid (cmpN l l.length = l) := by
          show cmpN l l.length = l
          rw [cmpN_start _ (Nat.le_refl _) (fun x h1 h2 => HAL.out x h1 (by omega)), List.take_length]
        go_wp2_with fail
        go_ret
        rw [F.out]
        exact ⟨rfl, HWH.out _ HW.out, HW.out.mono (by omega)⟩
end Go.Proofs.Ytljidfaeljpnpaa

namespace Go.Proofs.Ytljidfaeljpnpaa

open Go.RowKit

attribute [local go_sem ↓] Go.wp_at_zero Go.wp_at_succ

def dP (l : PL) : Nat → PrX := fun i => ⟨keyAt l i, valAt l i, i⟩
theorem pairCells_enc (l : PL) {i c : Nat} (hi : i < l.length) (hc : c < 2) : (pairCells l)[i * 2 + c]? = (encP (dP l i))[c]? := by
  obtain ⟨h0, h1⟩ := pairCells_get l i hi
  match c, hc with
  | 0, _ => exact h0
  | 1, _ => exact h1
theorem owns_rowPr {w : World} {B : Nat} {T : TypeId} {v : Value} {l : PL} (h : w.ownsRow B T 2 v (0 + l.length) ([] ++ pairCells l)) (hv : v ≠ .slice none 0 0) :
    ∃ g cap, v = .slice (some ⟨g, 0, none⟩) l.length cap ∧ B ≤ g ∧ g < w.heap.size ∧ l.length ≤ cap ∧ RowP w g l.length (dP l) := by
  rw [Nat.zero_add, List.nil_append] at h
  by_cases hn : l.length = 0
  · obtain ⟨_, h⟩ := h
    rcases h with ⟨h, _⟩ | ⟨g, cap, cur, rfl, hg, hh, h1, h2, h3, h4⟩
    · exact absurd h hv
    · exact ⟨g, cap, rfl, hg, (Array.getElem?_eq_some_iff.1 hh).1, by omega, fun _ => .bool false, fun j hj => by omega, fun i hi => by omega⟩
  · obtain ⟨g, cap, e, h1, h2, h3, h4, h5, h6⟩ := owns_someM h (by omega)
    refine ⟨g, cap, e, h1, h2, h3, fun j => ((pairCells l)[j]?).getD (.bool false), fun j hj => ⟨?_, h6 j⟩, fun i hi c hc => ?_⟩
    · have : j < (pairCells l).length := by rw [pairCells_length]; exact hj
      simp only
      rw [h5 j hj, List.getElem?_eq_getElem this]
      rfl
    · have e1 := pairCells_enc l hi hc
      simp only
      rw [e1, List.getElem?_eq_getElem (show c < (encP (dP l i)).length by rw [encP_length]; exact hc)]
      rfl

set_option maxRecDepth 100000 in
set_option maxHeartbeats 1000000 in
theorem cloneP_any (bp : Option Addr) (gp op cp : Nat) (ps : PL) (w : World) (h : PairsAt w bp gp op ps) (hbig : ps.length * 16 ≤ 140737488355328) :
    Calls Try.prog 56 #[.slice bp ps.length cp] w fun e w' => ∃ v, e = .returned v ∧ Below w.heap.size w w' ∧ ((ps.length = 0 ∧ v = .slice none 0 0) ∨ ∃ g cap, v = .slice (some ⟨g, 0, none⟩) ps.length cap ∧ w.heap.size ≤ g ∧ g < w'.heap.size ∧ ps.length ≤ cap ∧ RowP w' g ps.length (dP ps)) := by
  have qn : ∀ (w : World) (a : Option Addr) (n c n' c' : Nat), (binOp .eql 40 (.slice a n c) (.slice none n' c')).run Try.prog w = .ok (.bool a.isNone) w := fun w a n c n' c' => Lib.run_eql_slice_nil w _ _ a n c n' c' prs_underM
  have hlen := h.len
  cases bp with
  | none =>
    have h0 : Hid (ps.length = 0) := by
      show ps.length = 0
      refine Decidable.byContradiction fun q => ?_
      have := h.base q
      cases this
    clear h
    go_enter Try.func56, Try.ntmps56
    go_wp2_with fail
    go_ret
    exact ⟨_, rfl, Below.refl _ _, Or.inl ⟨h0.out, rfl⟩⟩
  | some ad =>
    obtain ⟨i0, hi0, hz0, hz1, hz2⟩ := info_parts pr_infoM
    have HA : Hid _ := h
    clear h
    have ho : (w.alloc (.cells #[] 46)).ownsRow w.heap.size 46 2 (.slice (some ⟨w.heap.size, 0, none⟩) 0 0) 0 [] := ⟨rfl, Or.inr ⟨w.heap.size, 0, #[], rfl, Nat.le_refl _, heap_alloc_at _ _ _ rfl, Nat.le_refl _, by unfold maxLen; omega, rfl, rfl⟩⟩
    have HO : Hid (World.ownsRow _ _ _ _ _ _ _) := ho
    have hnews : ∀ a, some ad = some a → ∀ j u, (pairCells ps)[j]? = some u → (w.alloc (.cells #[] 46)).cell? (a.add j) = some u := pairs_newsM (HA.out.below (below_allocM _ _))
    have HW : Hid _ := hnews
    clear ho hnews
    go_enter Try.func56, Try.ntmps56
    go_wp2_with (first | (at_builtin; (refine wpList_append_allM (by rfl) _ _ _ (by rfl) w.heap.size 46 i0 _ 2 16 prs_underM hi0 hz0 hz1 hz2 rfl (by omega) _ 0 [] (by rfl) HO.out (some ad) ps.length cp (pairCells ps) (by rfl) (fun h => by cases h) (pairCells_length _) HW.out (pairCells_oneM _) (by omega) (by omega) (by simp) ?_); intro v' w1 hown1 hgrow hnl))
    go_ret
    obtain ⟨g, cap, rfl, hg, hgl, hcp, hpa⟩ := owns_rowPr hown1 (fun q => by cases (hnl.1 q).1)
    exact ⟨_, rfl, Below.grown (below_allocM _ _) hgrow (by simp) (by intro k hk; simp [Value.ownBlock] at hk; omega), Or.inr ⟨g, cap, rfl, hg, hgl, hcp, hpa⟩⟩
set_option maxRecDepth 100000 in
set_option maxHeartbeats 1000000 in
theorem insNilP_any (fv : Value) (w : World) : Calls Try.prog 100 #[.slice none 0 0, .int .i64 0, .int .i64 0, fv] w fun e w' => e = .returned (.tuple #[]) ∧ w' = w := by
  go_enter Try.func100, Try.ntmps100
  go_wp2_with fail
  go_loopw [8] (fun iv wr => iv = .int .i64 1 ∧ wr = w) (fun _ _ => 0)
  case atStart => exact ⟨rfl, rfl⟩
  case round =>
    obtain ⟨rfl, rfl⟩ := hrel
    go_wp2_with fail
    go_end0
    exact ⟨rfl, rfl⟩
set_option maxRecDepth 100000 in
set_option maxHeartbeats 1000000 in
theorem stableNilP_any (fv : Value) (w : World) : Calls Try.prog 83 #[.slice none 0 0, .int .i64 0, fv] w fun e w' => e = .returned (.tuple #[]) ∧ w' = w := by
  go_enter Try.func83, Try.ntmps83
  go_wp2_with fail
  go_loopw [7, 8] (fun av bv wr => av = .int .i64 0 ∧ bv = .int .i64 20 ∧ wr = w) (fun _ _ _ => 0)
  case atStart => exact ⟨rfl, rfl, rfl⟩
  case round =>
    obtain ⟨rfl, rfl, rfl⟩ := hrel
    go_wp2_with fail
    refine (insNilP_any _ _).mono ?_
    rintro e w1 ⟨rfl, rfl⟩
    go_wp2_with fail
    go_loopw [6, 7, 8, 9] (fun sv _ _ _ wr => sv = .int .i64 20 ∧ wr = w1) (fun _ _ _ _ _ => 0)
    case atStart => exact ⟨rfl, rfl⟩
    case round =>
      obtain ⟨rfl, hwr⟩ := hrel
      go_wp2_with fail
      go_end0
      exact ⟨rfl, by first | rfl | exact hwr⟩
set_option maxRecDepth 100000 in
set_option maxHeartbeats 1000000 in
theorem sortNilP_any (fv : Value) (w : World) : Calls Try.prog 69 #[.slice none 0 0, fv] w fun e w' => e = .returned (.tuple #[]) ∧ w' = w := by
  go_enter Try.func69, Try.ntmps69
  go_wp2_with fail
  refine (stableNilP_any _ _).mono ?_
  rintro e w1 ⟨rfl, rfl⟩
  go_wp2_with fail
  go_end0
  exact ⟨rfl, rfl⟩
set_option maxRecDepth 100000 in
set_option maxHeartbeats 1000000 in
theorem revNil_any (w : World) : Calls Try.prog 68 #[.slice none 0 0] w fun e w' => e = .returned (.tuple #[]) ∧ w' = w := by
  go_enter Try.func68, Try.ntmps68
  go_wp2_with fail
  go_loopw [2, 3] (fun iv jv wr => iv = .int .i64 0 ∧ jv = .int .i64 (-1) ∧ wr = w) (fun _ _ _ => 0)
  case atStart => exact ⟨rfl, by first | rfl | go_num, rfl⟩
  case round =>
    obtain ⟨rfl, rfl, rfl⟩ := hrel
    go_wp2_with fail
    go_end0
    exact ⟨rfl, rfl⟩
set_option maxRecDepth 100000 in
set_option maxHeartbeats 1000000 in
theorem cmpNil_any (fv : Value) (w : World) : Calls Try.prog 72 #[.slice none 0 0, fv] w fun e w' => e = .returned (.slice none 0 0) ∧ w' = w := by
  go_enter Try.func72, Try.ntmps72
  go_wp2_with fail
  go_ret
  exact ⟨rfl, rfl⟩
/-- A row of decorated pairs, as a list. -/
def lsP (n : Nat) (d : Nat → PrX) : PL := (List.range n).map (fun i => ((d i).k, (d i).v))
theorem lsP_length (n : Nat) (d : Nat → PrX) : (lsP n d).length = n := by unfold lsP; rw [List.length_map, List.length_range]
theorem lsP_at {n : Nat} (d : Nat → PrX) {i : Nat} (hi : i < n) : keyAt (lsP n d) i = (d i).k ∧ valAt (lsP n d) i = (d i).v := by
  unfold keyAt valAt lsP
  constructor <;> simp [List.getD_eq_getElem?_getD, hi]
theorem row_lie {w : World} {g n : Nat} {d : Nat → PrX} (h : RowP w g n d) : LieP w g (lsP n d) := by
  obtain ⟨F, h1, h2⟩ := h
  refine ⟨F, by rw [lsP_length]; exact h1, fun x hx => ?_⟩
  rw [lsP_length] at hx
  rw [(lsP_at d hx).1, (lsP_at d hx).2]
  exact ⟨Option.some.inj (h2 x hx 0 (by omega)), Option.some.inj (h2 x hx 1 (by omega))⟩
theorem lsP_rev (ps : PL) {d : Nat → PrX} (h : ∀ x, x < ps.length → d x = dP ps (ps.length - 1 - x)) : lsP ps.length d = ps.reverse := by
  apply List.ext_getElem?
  intro i
  by_cases hi : i < ps.length
  · unfold lsP
    rw [List.getElem?_map, List.getElem?_range hi, List.getElem?_reverse hi, pair_eta ps _ (by omega)]
    show some ((d i).k, (d i).v) = _
    rw [h i hi]
    rfl
  · rw [List.getElem?_eq_none (by rw [lsP_length]; omega), List.getElem?_eq_none (by rw [List.length_reverse]; omega)]

set_option maxRecDepth 100000 in
set_option maxHeartbeats 2000000 in
theorem Of_map (bp : Option Addr) (gp op cp : Nat) (ps : PL) (w : World) (h : PairsAt w bp gp op ps) (hn : ps.length ≤ 1000000) :
    Calls Try.prog 46 #[.slice bp ps.length cp] w fun e w' => ∃ a g cap, e = .returned (.slice a (ofL ps).length cap) ∧ Below w.heap.size w w' ∧ ((ofL ps).length ≠ 0 → w.heap.size ≤ g) ∧ PairsAt w' a g 0 (ofL ps) ∧ (a = none → cap = 0) := by
  have HA : Hid _ := h
  clear h
  go_enter Try.func46, Try.ntmps46
  go_wp2_with fail
  refine (cloneP_any bp gp op cp ps _ HA.out (by omega)).mono ?_
  rintro e w1 ⟨v, rfl, hb, hv⟩
  have B1 : Hid _ := hb
  clear hb
  rcases hv with ⟨h0, rfl⟩ | ⟨g, cap, rfl, hg, hgl, hcp, hrow⟩
  · have H0 : Hid _ := h0
    clear h0
    go_wp2_with fail
    refine (revNil_any _).mono ?_
    rintro e w2 ⟨rfl, rfl⟩
    go_wp2_with fail
    refine (sortNilP_any _ _).mono ?_
    rintro e w3 ⟨rfl, rfl⟩
    go_wp2_with fail
    refine (cmpNil_any _ _).mono ?_
    rintro e w4 ⟨rfl, rfl⟩
    go_wp2_with fail
    go_ret
    obtain rfl : ps = [] := List.length_eq_zero_iff.1 H0.out
    exact ⟨none, 0, 0, rfl, B1.out, fun q => absurd rfl q, ⟨fun q => absurd rfl q, fun q => absurd rfl q, fun i hi => by simp [ofL, ofN] at hi, by simp [ofL, ofN]⟩, fun _ => rfl⟩
  · have C1 : Hid (Calls _ _ _ _ _) := reverse_any g ps.length cap (dP ps) w1 hrow hgl hn
    clear hrow
    go_wp2_with fail
    refine C1.out.mono ?_
    rintro e w2 ⟨rfl, d, hr2, hg2, hd2⟩
    have z2 := hg2.size
    have B2 : Hid (Below w.heap.size w w2) := Below.grown B1.out hg2 (by have := B1.out.size; omega) (by intro k hk; cases hk; exact hg)
    obtain ⟨d1, hd1⟩ : ∃ d1 : Nat → PrX, d1 = fun x => ⟨(d x).k, (d x).v, x⟩ := ⟨_, rfl⟩
    have hr3 : RowP w2 g ps.length d1 := by
      obtain ⟨F, a1, a2⟩ := hr2
      exact ⟨F, a1, fun i hi c hc => by rw [a2 i hi c hc, hd1]; rfl⟩
    have C2 : Hid (Calls _ _ _ _ _) := sortStableP_any g ps.length cap d1 w2 hr3 (by omega) hn (fun x y h1 _ => by rw [hd1]; exact h1)
    have HG1 : Hid (∀ k, getK k (lsP ps.length d1) = getK k ps.reverse) := by
      intro k
      rw [← lsP_rev ps hd2]
      unfold lsP
      rw [hd1]
    clear hr2 hg2 hr3
    go_wp2_with fail
    refine C2.out.mono ?_
    rintro e w3 ⟨rfl, d3, hr4, hg3, hs3, ho3⟩
    have z3 := hg3.size
    have B3 : Hid (Below w.heap.size w w3) := Below.grown B2.out hg3 (by have := B2.out.size; omega) (by intro k hk; cases hk; exact hg)
    have HL : Hid (cmpN (lsP ps.length d3) (lsP ps.length d3).length = ofL ps) := by
      refine of_sorted (fun x y h1 h2 => ?_) (fun k => ?_)
      · rw [lsP_length] at h2
        rw [(lsP_at d3 (by omega)).1, (lsP_at d3 h2).1]
        exact sorted_keys (key := keyP) (pos := PrX.pos) (pr := fun x => (x.k, x.v)) (fun _ => rfl) ho3 x y h1 h2
      · rw [← HG1.out k]
        exact sorted_getK (key := keyP) (pos := PrX.pos) (pr := fun x => (x.k, x.v)) (fun _ => rfl) hs3 ho3 (fun x y h1 _ => by rw [hd1]; exact h1) k
    have C3 : Hid (Calls _ _ _ _ _) := compact_any w.heap.size g cap (lsP ps.length d3) w3 (row_lie hr4) (by omega) hg (by rw [lsP_length]; exact hcp) (by rw [lsP_length]; exact hn)
    rw [lsP_length] at C3 HL
    clear hr4 hg3 hs3 ho3 hd1 hd2
    go_wp2_with fail
    refine C3.out.mono ?_
    rintro e w4 ⟨rfl, hp4, hb4⟩
    have HP4 : Hid (PairsAt _ _ _ _ _) := hp4
    have B4 : Hid (Below w.heap.size w w4) := B3.out.trans hb4
    clear hp4 hb4
    go_wp2_with fail
    go_ret
    have e4 := HL.out
    exact ⟨_, g, cap, by rw [← e4]; rfl, B4.out, fun _ => hg, by have := HP4.out; rwa [e4] at this, (fun q => by cases q)⟩
end Go.Proofs.Ytljidfaeljpnpaa
