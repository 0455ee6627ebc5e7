/- slices.rotateCmpFunc. -/
import Derived.Test.YtjpfgfcggekklaaSPKit
namespace Go.Proofs.Ytjpfgfcggekklaa
open Go.RowKit
attribute [local go_sem ↓] Go.wp_at_zero Go.wp_at_succ

set_option maxRecDepth 100000 in
set_option maxHeartbeats 2000000 in
theorem rotateP_any (g n cap a m b : Nat) (fv : Value) (d0 : Nat → PrX) (w : World) (hr : RowP w g n d0) (hg : g < w.heap.size) (ham : a < m) (hmb : m < b) (hb : b ≤ n) (hn : n ≤ 1000000) :
    Calls Try.prog 77 #[.slice (some ⟨g, 0, none⟩) n cap, .int .i64 a, .int .i64 m, .int .i64 b, fv] w fun e w' => e = .returned (.tuple #[]) ∧ RowP w' g n (rotF d0 a m b) ∧ w.grownBy w' (some g) ∧ Swaps a b d0 (rotF d0 a m b) := by
  have HR0 : Hid (RowP _ _ _ _) := hr
  clear hr
  have s1 : (m : Int) - (a : Int) = ((m - a : Nat) : Int) := by omega
  have s2 : (b : Int) - (m : Int) = ((b - m : Nat) : Int) := by omega
  have S1 : Hid _ := s1
  have S2 : Hid _ := s2
  clear s1 s2
  go_enter Try.func77, Try.ntmps77
  go_wp2_with fail
  go_loopw [10, 11] (fun iv jv wr => ∃ (i j : Nat) (d : Nat → PrX), 0 < i ∧ 0 < j ∧ i ≤ m - a ∧ j ≤ b - m ∧ iv = .int .i64 i ∧ jv = .int .i64 j ∧ RowP wr g n d ∧ w.grownBy wr (some g) ∧ Swaps a b d0 d ∧ rotF d (m - i) m (m + j) = rotF d0 a m b) (fun iv jv _ => (intOf iv).toNat + (intOf jv).toNat)
  case atStart => exact ⟨m - a, b - m, d0, by omega, by omega, Nat.le_refl _, Nat.le_refl _, by rw [S1.out], by rw [S2.out], HR0.out, grown_refl _ _, Swaps.refl _, by rw [show m - (m - a) = a by omega, show m + (b - m) = b by omega]⟩
  case round =>
    obtain ⟨i, j, d, hi, hj, him, hjb, rfl, rfl, hrow, hgr, hsw, hrot⟩ := hrel
    have HR : Hid (RowP _ _ _ _) := hrow
    have HG : Hid _ := hgr
    have HS : Hid _ := hsw
    have HT : Hid _ := hrot
    have zg := hgr.size
    clear hrow hgr hsw hrot
    have e1 : (m : Int) - (i : Int) = ((m - i : Nat) : Int) := by omega
    have e2 : (m : Int) + (j : Int) - (i : Int) = ((m + j - i : Nat) : Int) ∨ j < i := by omega
    have C1 : Hid (j < i → Calls Try.prog 79 #[.slice (some ⟨g, 0, none⟩) n cap, .int .i64 ((m : Int) - (i : Int)), .int .i64 m, .int .i64 j, fv] wr fun e w' => e = .returned (.tuple #[]) ∧ RowP w' g n (srF d (m - i) m j) ∧ wr.grownBy w' (some g) ∧ Swaps (min (m - i) m) (max (m - i) m + j) d (srF d (m - i) m j)) := by
      intro h
      rw [e1]
      exact swapRangeP_any g n cap (m - i) m j fv d wr HR.out (by omega) (by omega) (by omega) (by omega) hn
    have C2 : Hid (i < j → Calls Try.prog 79 #[.slice (some ⟨g, 0, none⟩) n cap, .int .i64 ((m : Int) - (i : Int)), .int .i64 ((m : Int) + (j : Int) - (i : Int)), .int .i64 i, fv] wr fun e w' => e = .returned (.tuple #[]) ∧ RowP w' g n (srF d (m - i) (m + j - i) i) ∧ wr.grownBy w' (some g) ∧ Swaps (min (m - i) (m + j - i)) (max (m - i) (m + j - i) + i) d (srF d (m - i) (m + j - i) i)) := by
      intro h
      rw [e1, show (m : Int) + (j : Int) - (i : Int) = ((m + j - i : Nat) : Int) by omega]
      exact swapRangeP_any g n cap (m - i) (m + j - i) i fv d wr HR.out (by omega) (by omega) (by omega) (by omega) hn
    have C3 : Hid (i = j → Calls Try.prog 79 #[.slice (some ⟨g, 0, none⟩) n cap, .int .i64 ((m : Int) - (i : Int)), .int .i64 m, .int .i64 i, fv] wr fun e w' => e = .returned (.tuple #[]) ∧ RowP w' g n (srF d (m - i) m i) ∧ wr.grownBy w' (some g) ∧ Swaps (min (m - i) m) (max (m - i) m + i) d (srF d (m - i) m i)) := by
      intro h
      rw [e1]
      exact swapRangeP_any g n cap (m - i) m i fv d wr HR.out (by omega) (by omega) (by omega) (by omega) hn
    clear e1 e2
    by_cases hne : i = j
    · have C := C3.out hne
      have hq : ((i : Int) != (j : Int)) = false := by simp [hne]
      have HC : Hid (Calls _ _ _ _ _) := C
      have HNE : Hid _ := hne
      clear C hne
      go_wp2_with fail
      refine HC.out.mono ?_
      rintro e w2 ⟨rfl, r2, g2, s2⟩
      have HR2 : Hid (RowP _ _ _ _) := r2
      have HG2 : Hid _ := g2
      have HS2 : Hid _ := s2
      clear r2 g2 s2
      go_wp2_with fail
      go_end0
      have hT : srF d (m - i) m i = rotF d0 a m b := by rw [← HT.out, ← HNE.out]; exact rot_same (by omega)
      rw [← hT]
      exact ⟨rfl, HR2.out, grown_trP HG.out HG2.out, HS.out.trans (HS2.out.mono (by omega) (by have := HNE.out; omega))⟩
    · have hq : ((i : Int) != (j : Int)) = true := by simp; omega
      by_cases hgt : j < i
      · have hz : (j : Int) < (i : Int) := by omega
        have HC : Hid (Calls _ _ _ _ _) := C1.out hgt
        go_wp2_with fail
        refine HC.out.mono ?_
        rintro e w2 ⟨rfl, r2, g2, s2⟩
        have HR2 : Hid (RowP _ _ _ _) := r2
        have HG2 : Hid _ := g2
        have HS2 : Hid _ := s2
        clear r2 g2 s2
        go_wp2_with fail
        exact ⟨⟨i - j, j, srF d (m - i) m j, by omega, hj, by omega, hjb, by congr 1; omega, rfl, HR2.out, grown_trP HG.out HG2.out, HS.out.trans (HS2.out.mono (by omega) (by omega)), by rw [← HT.out]; exact rot_more (by omega) hgt⟩, by simp [intOf]; omega⟩
      · have hz : ¬ (j : Int) < (i : Int) := by omega
        have hz2 : (i : Int) ≤ (j : Int) := by omega
        have HC : Hid (Calls _ _ _ _ _) := C2.out (by omega)
        go_wp2_with fail
        refine HC.out.mono ?_
        rintro e w2 ⟨rfl, r2, g2, s2⟩
        have HR2 : Hid (RowP _ _ _ _) := r2
        have HG2 : Hid _ := g2
        have HS2 : Hid _ := s2
        clear r2 g2 s2
        go_wp2_with fail
        exact ⟨⟨i, j - i, srF d (m - i) (m + j - i) i, hi, by omega, him, by omega, rfl, by congr 1; omega, HR2.out, grown_trP HG.out HG2.out, HS.out.trans (HS2.out.mono (by omega) (by omega)), by rw [← HT.out]; exact rot_less (by omega) (by omega)⟩, by simp [intOf]; omega⟩
end Go.Proofs.Ytjpfgfcggekklaa
