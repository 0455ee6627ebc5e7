/- slices.rotateCmpFunc. slices.SortStableFunc at Pairs: rows in memory, the question, an exchange. -/
import Derived.Test.YtljidfaeljpnpaaSPure
import Derived.Test.YtljidfaeljpnpaaSCmp



namespace Go.Proofs.Ytljidfaeljpnpaa

open Go.RowKit

attribute [local go_sem ↓] Go.wp_at_zero Go.wp_at_succ

structure PrX where
  k : Int
  v : Int
  pos : Nat
instance : Inhabited PrX := ⟨⟨0, 0, 0⟩⟩
def keyP (x : PrX) : Int := x.k
def encP (x : PrX) : List Value := [.int .i64 x.k, .int .i64 x.v]
theorem encP_length (x : PrX) : (encP x).length = 2 := rfl
/-- A row of them in block g. -/
def RowP (w : World) (g n : Nat) (d : Nat → PrX) : Prop := ∃ F, ValsM w g (n * 2) F ∧ ∀ i, i < n → ∀ c, c < 2 → some (F (i * 2 + c)) = (encP (d i))[c]?
theorem RowP.below {w w' : World} {g n : Nat} {d : Nat → PrX} (h : RowP w g n d) (hg : g < w.heap.size) (hb : Below w.heap.size w w') : RowP w' g n d := by
  obtain ⟨F, h1, h2⟩ := h
  exact ⟨F, h1.below hg hb, h2⟩
theorem RowP.cell {w : World} {g n : Nat} {d : Nat → PrX} (h : RowP w g n d) {i : Nat} (hi : i < n) {c : Nat} (hc : c < 2) : w.cell? ⟨g, i * 2 + c, none⟩ = (encP (d i))[c]? ∧ w.frozen? ⟨g, i * 2 + c, none⟩ = false := by
  obtain ⟨F, h1, h2⟩ := h
  obtain ⟨a, b⟩ := h1 (i * 2 + c) (by omega)
  exact ⟨by rw [a]; exact h2 i hi c hc, b⟩
theorem RowP.swap {w : World} {g n : Nat} {d : Nat → PrX} (h : RowP w g n d) {i j : Nat} : RowP (setManyM g (setManyM g w (i * 2) (encP (d j))) (j * 2) (encP (d i))) g n (swF d i j) := by
  obtain ⟨F, h1, h2⟩ := h
  refine ⟨_, setMany_valsM _ (setMany_valsM _ h1), fun x hx c hc => ?_⟩
  have o : ∀ (G : Nat → Value) (y : Nat) (vs : List Value), vs.length = 2 → y ≠ x → putManyM G (y * 2) vs (x * 2 + c) = G (x * 2 + c) := fun G y vs hv hne => putMany_outM vs (by rw [hv]; omega)
  by_cases e1 : x = j
  · subst e1
    have : swF d i x x = d i := by unfold swF; split; (rename_i e; rw [e]); (rw [if_pos rfl])
    rw [this]
    exact putMany_inM _ (by rw [encP_length]; exact hc)
  · rw [o _ j _ (encP_length _) (fun q => e1 q.symm)]
    by_cases e2 : x = i
    · subst e2
      have : swF d x j x = d j := by unfold swF; rw [if_pos rfl]
      rw [this]
      exact putMany_inM _ (by rw [encP_length]; exact hc)
    · rw [o _ i _ (encP_length _) (fun q => e2 q.symm)]
      have : swF d i j x = d x := by unfold swF; rw [if_neg e2, if_neg e1]
      rw [this]
      exact h2 x hx c hc
theorem RowP.drew {w : World} {g n : Nat} {d : Nat → PrX} (h : RowP w g n d) : RowP w.drew g n d := h
theorem setMany_grownP (g : Nat) : ∀ (vs : List Value) (w : World) (b : Nat), w.grownBy (setManyM g w b vs) (some g)
  | [], w, _ => ⟨rfl, rfl, rfl, Nat.le_refl _, fun _ _ _ => rfl⟩
  | v :: t, w, b => by
    have h1 : w.grownBy (w.setCell ⟨g, b, none⟩ v) (some g) := by
      refine ⟨rfl, rfl, rfl, by simp, fun k hk hne => ?_⟩
      have : g ≠ k := fun e => hne (by rw [e])
      simp [World.setCell, Array.getElem?_modify, this]
    have h2 := setMany_grownP g t (w.setCell ⟨g, b, none⟩ v) (b + 1)
    exact ⟨h2.os.trans h1.os, h2.tape.trans h1.tape, h2.output.trans h1.output, Nat.le_trans h1.size h2.size, fun k hk hne => (h2.block k (Nat.lt_of_lt_of_le hk h1.size) hne).trans (h1.block k hk hne)⟩
theorem grown_trP {w w' w'' : World} {x : Option Nat} (h : w.grownBy w' x) (h' : w'.grownBy w'' x) : w.grownBy w'' x :=
  ⟨h'.os.trans h.os, h'.tape.trans h.tape, h'.output.trans h.output, Nat.le_trans h.size h'.size, fun k hk hne => (h'.block k (Nat.lt_of_lt_of_le hk h.size) hne).trans (h.block k hk hne)⟩
theorem grown_of_belowP {w w' : World} (x : Option Nat) (h : Below w.heap.size w w') : w.grownBy w' x := ⟨h.os, h.tape, h.output, h.size, fun k hk _ => h.block k hk⟩
theorem grown_drewP (w : World) (x : Option Nat) : w.grownBy w.drew x := ⟨rfl, rfl, rfl, Nat.le_refl _, fun _ _ _ => rfl⟩
/-- Behind an exchange. -/
theorem swappedP {w0 wr W2 : World} {g n i j : Nat} {d : Nat → PrX} (hr : RowP wr g n d) (hg : w0.grownBy wr (some g)) (hW : W2 = (setManyM g (setManyM g wr (i * 2) (encP (d j))) (j * 2) (encP (d i))).drew) : RowP W2 g n (swF d i j) ∧ w0.grownBy W2 (some g) ∧ wr.heap.size ≤ W2.heap.size := by
  subst hW
  refine ⟨hr.swap.drew, grown_trP (grown_trP (grown_trP hg (setMany_grownP g _ _ _)) (setMany_grownP g _ _ _)) (grown_drewP _ _), ?_⟩
  have e : ∀ W : World, W.drew.heap.size = W.heap.size := fun _ => rfl
  rw [e, setMany_sizeM, setMany_sizeM]; exact Nat.le_refl _

set_option maxHeartbeats 1000000 in
theorem closP_any (x y : PrX) (w : World) : Calls Try.prog 70 #[.agg #[.int .i64 x.k, .int .i64 x.v], .agg #[.int .i64 y.k, .int .i64 y.v]] w fun e w' => e = .returned (.int .i64 (cmpS (keyP x) (keyP y))) ∧ Below w.heap.size w w' := by
  go_enter Try.func70, Try.ntmps70
  go_wp2_with fail
  refine (cmpS_any _ _ _).mono ?_
  rintro e w1 ⟨rfl, rfl⟩
  go_wp2_with fail
  go_ret
  exact ⟨rfl, (below_allocM _ _).alloc (by simp) _⟩

set_option maxRecDepth 100000 in
set_option maxHeartbeats 2000000 in
theorem swapRangeP_any (g n cap a b k : Nat) (fv : Value) (d0 : Nat → PrX) (w : World) (hr : RowP w g n d0) (hg : g < w.heap.size) (h : a + k ≤ b ∨ b + k ≤ a) (ha : a + k ≤ n) (hb : b + k ≤ n) (hn : n ≤ 1000000) :
    Calls Try.prog 110 #[.slice (some ⟨g, 0, none⟩) n cap, .int .i64 a, .int .i64 b, .int .i64 k, fv] w fun e w' => e = .returned (.tuple #[]) ∧ RowP w' g n (srF d0 a b k) ∧ w.grownBy w' (some g) ∧ Swaps (min a b) (max a b + k) d0 (srF d0 a b k) := by
  have HR0 : Hid (RowP _ _ _ _) := hr
  clear hr
  go_enter Try.func110, Try.ntmps110
  go_wp2_with fail
  go_loopw [10] (fun iv wr => ∃ i : Nat, i ≤ k ∧ iv = .int .i64 i ∧ RowP wr g n (srF d0 a b i) ∧ w.grownBy wr (some g) ∧ Swaps (min a b) (max a b + k) d0 (srF d0 a b i)) (fun iv _ => k - (intOf iv).toNat)
  case atStart => exact ⟨0, Nat.zero_le _, rfl, by rw [srF_zero]; exact HR0.out, grown_reflM _ _, by rw [srF_zero]; exact Swaps.refl _⟩
  case round =>
    obtain ⟨i, hi, rfl, hrow, hgr, hsw⟩ := hrel
    have HG : Hid _ := hgr
    have HS : Hid _ := hsw
    have zg := hgr.size
    by_cases hlt : i < k
    · have HST : Hid _ := srF_step d0 a b i k hlt h
      generalize srF d0 a b i = d at *
      have HR : Hid (RowP _ _ _ _) := hrow
      clear hrow hgr hsw
      have i0 : (i : Int) < (k : Int) := by omega
      have a0 : (0 : Int) ≤ (a : Int) + (i : Int) := by omega
      have a1 : (a : Int) + (i : Int) < (n : Int) := by omega
      have a2 : ((a : Int) + (i : Int)).toNat = a + i := by omega
      have b0 : (0 : Int) ≤ (b : Int) + (i : Int) := by omega
      have b1 : (b : Int) + (i : Int) < (n : Int) := by omega
      have b2 : ((b : Int) + (i : Int)).toNat = b + i := by omega
      have wa : IntKind.i64.wrap ((a : Int) + (i : Int)) = (a : Int) + (i : Int) := by rw [IntKind.wrap_i64] <;> omega
      have wb : IntKind.i64.wrap ((b : Int) + (i : Int)) = (b : Int) + (i : Int) := by rw [IntKind.wrap_i64] <;> omega
      have hgw : g < wr.heap.size := by omega
      have p0 : wr.cell? ⟨g, (a + i) * 2, none⟩ = some (.int .i64 (d (a + i)).k) := (HR.out.cell (i := a + i) (by omega) (c := 0) (by omega)).1
      have p1 : wr.cell? ⟨g, (a + i) * 2 + 1, none⟩ = some (.int .i64 (d (a + i)).v) := (HR.out.cell (i := a + i) (by omega) (c := 1) (by omega)).1
      have q0 : wr.cell? ⟨g, (b + i) * 2, none⟩ = some (.int .i64 (d (b + i)).k) := (HR.out.cell (i := b + i) (by omega) (c := 0) (by omega)).1
      have q1 : wr.cell? ⟨g, (b + i) * 2 + 1, none⟩ = some (.int .i64 (d (b + i)).v) := (HR.out.cell (i := b + i) (by omega) (c := 1) (by omega)).1
      have r0 : wr.frozen? ⟨g, (a + i) * 2, none⟩ = false := (HR.out.cell (i := a + i) (by omega) (c := 0) (by omega)).2
      have r1 : wr.frozen? ⟨g, (a + i) * 2 + 1, none⟩ = false := (HR.out.cell (i := a + i) (by omega) (c := 1) (by omega)).2
      have s0 : wr.frozen? ⟨g, (b + i) * 2, none⟩ = false := (HR.out.cell (i := b + i) (by omega) (c := 0) (by omega)).2
      have s1 : wr.frozen? ⟨g, (b + i) * 2 + 1, none⟩ = false := (HR.out.cell (i := b + i) (by omega) (c := 1) (by omega)).2
      go_wp2_with fail
      go_region
      obtain ⟨W2, hW2⟩ : ∃ W2, W2 = (setManyM g (setManyM g wr ((a + i) * 2) (encP (d (b + i)))) ((b + i) * 2) (encP (d (a + i)))).drew := ⟨_, rfl⟩
      have HW2 : Hid _ := hW2
      simp only [setManyM, encP] at hW2
      rw [← hW2]
      clear hW2 p0 q0 r0 s0 p1 q1 r1 s1
      obtain ⟨u1, u2, u3⟩ := swappedP HR.out HG.out HW2.out
      have HR2 : Hid (RowP _ _ _ _) := u1
      have HG2 : Hid _ := u2
      clear u1 u2 HW2
      go_wp2_with fail
      refine ⟨⟨i + 1, by omega, by go_num, by rw [← HST.out]; exact HR2.out, HG2.out, ?_⟩, by simp [intOf]; omega⟩
      rw [← HST.out]
      exact HS.out.step _ _ (by omega) (by omega)
    · obtain rfl : i = k := by omega
      have HR : Hid (RowP _ _ _ _) := hrow
      clear hrow hgr hsw
      go_wp2_with fail
      go_end0
      exact ⟨rfl, HR.out, HG.out, HS.out⟩
end Go.Proofs.Ytljidfaeljpnpaa

namespace Go.Proofs.Ytljidfaeljpnpaa

open Go.RowKit

attribute [local go_sem ↓] Go.wp_at_zero Go.wp_at_succ

set_option maxRecDepth 100000 in
set_option maxHeartbeats 2000000 in
theorem rotateP_any (g n cap a m b : Nat) (fv : Value) (d0 : Nat → PrX) (w : World) (hr : RowP w g n d0) (hg : g < w.heap.size) (ham : a < m) (hmb : m < b) (hb : b ≤ n) (hn : n ≤ 1000000) :
    Calls Try.prog 108 #[.slice (some ⟨g, 0, none⟩) n cap, .int .i64 a, .int .i64 m, .int .i64 b, fv] w fun e w' => e = .returned (.tuple #[]) ∧ RowP w' g n (rotF d0 a m b) ∧ w.grownBy w' (some g) ∧ Swaps a b d0 (rotF d0 a m b) := by
  have HR0 : Hid (RowP _ _ _ _) := hr
  clear hr
  have s1 : (m : Int) - (a : Int) = ((m - a : Nat) : Int) := by omega
  have s2 : (b : Int) - (m : Int) = ((b - m : Nat) : Int) := by omega
  have S1 : Hid _ := s1
  have S2 : Hid _ := s2
  clear s1 s2
  go_enter Try.func108, Try.ntmps108
  go_wp2_with fail
  go_loopw [10, 11] (fun iv jv wr => ∃ (i j : Nat) (d : Nat → PrX), 0 < i ∧ 0 < j ∧ i ≤ m - a ∧ j ≤ b - m ∧ iv = .int .i64 i ∧ jv = .int .i64 j ∧ RowP wr g n d ∧ w.grownBy wr (some g) ∧ Swaps a b d0 d ∧ rotF d (m - i) m (m + j) = rotF d0 a m b) (fun iv jv _ => (intOf iv).toNat + (intOf jv).toNat)
  case atStart => exact ⟨m - a, b - m, d0, by omega, by omega, Nat.le_refl _, Nat.le_refl _, by rw [S1.out], by rw [S2.out], HR0.out, grown_reflM _ _, Swaps.refl _, by rw [show m - (m - a) = a by omega, show m + (b - m) = b by omega]⟩
  case round =>
    obtain ⟨i, j, d, hi, hj, him, hjb, rfl, rfl, hrow, hgr, hsw, hrot⟩ := hrel
    have HR : Hid (RowP _ _ _ _) := hrow
    have HG : Hid _ := hgr
    have HS : Hid _ := hsw
    have HT : Hid _ := hrot
    have zg := hgr.size
    clear hrow hgr hsw hrot
    have e1 : (m : Int) - (i : Int) = ((m - i : Nat) : Int) := by omega
    have e2 : (m : Int) + (j : Int) - (i : Int) = ((m + j - i : Nat) : Int) ∨ j < i := by omega
    have C1 : Hid (j < i → Calls Try.prog 110 #[.slice (some ⟨g, 0, none⟩) n cap, .int .i64 ((m : Int) - (i : Int)), .int .i64 m, .int .i64 j, fv] wr fun e w' => e = .returned (.tuple #[]) ∧ RowP w' g n (srF d (m - i) m j) ∧ wr.grownBy w' (some g) ∧ Swaps (min (m - i) m) (max (m - i) m + j) d (srF d (m - i) m j)) := by
      intro h
      rw [e1]
      exact swapRangeP_any g n cap (m - i) m j fv d wr HR.out (by omega) (by omega) (by omega) (by omega) hn
    have C2 : Hid (i < j → Calls Try.prog 110 #[.slice (some ⟨g, 0, none⟩) n cap, .int .i64 ((m : Int) - (i : Int)), .int .i64 ((m : Int) + (j : Int) - (i : Int)), .int .i64 i, fv] wr fun e w' => e = .returned (.tuple #[]) ∧ RowP w' g n (srF d (m - i) (m + j - i) i) ∧ wr.grownBy w' (some g) ∧ Swaps (min (m - i) (m + j - i)) (max (m - i) (m + j - i) + i) d (srF d (m - i) (m + j - i) i)) := by
      intro h
      rw [e1, show (m : Int) + (j : Int) - (i : Int) = ((m + j - i : Nat) : Int) by omega]
      exact swapRangeP_any g n cap (m - i) (m + j - i) i fv d wr HR.out (by omega) (by omega) (by omega) (by omega) hn
    have C3 : Hid (i = j → Calls Try.prog 110 #[.slice (some ⟨g, 0, none⟩) n cap, .int .i64 ((m : Int) - (i : Int)), .int .i64 m, .int .i64 i, fv] wr fun e w' => e = .returned (.tuple #[]) ∧ RowP w' g n (srF d (m - i) m i) ∧ wr.grownBy w' (some g) ∧ Swaps (min (m - i) m) (max (m - i) m + i) d (srF d (m - i) m i)) := by
      intro h
      rw [e1]
      exact swapRangeP_any g n cap (m - i) m i fv d wr HR.out (by omega) (by omega) (by omega) (by omega) hn
    clear e1 e2
    by_cases hne : i = j
    · have C := C3.out hne
      have hq : ((i : Int) != (j : Int)) = false := by simp [hne]
      have HC : Hid (Calls _ _ _ _ _) := C
      have HNE : Hid _ := hne
      clear C hne
      go_wp2_with fail
      refine HC.out.mono ?_
      rintro e w2 ⟨rfl, r2, g2, s2⟩
      have HR2 : Hid (RowP _ _ _ _) := r2
      have HG2 : Hid _ := g2
      have HS2 : Hid _ := s2
      clear r2 g2 s2
      go_wp2_with fail
      go_end0
      have hT : srF d (m - i) m i = rotF d0 a m b := by rw [← HT.out, ← HNE.out]; exact rot_same (by omega)
      rw [← hT]
      exact ⟨rfl, HR2.out, grown_trP HG.out HG2.out, HS.out.trans (HS2.out.mono (by omega) (by have := HNE.out; omega))⟩
    · have hq : ((i : Int) != (j : Int)) = true := by simp; omega
      by_cases hgt : j < i
      · have hz : (j : Int) < (i : Int) := by omega
        have HC : Hid (Calls _ _ _ _ _) := C1.out hgt
        go_wp2_with fail
        refine HC.out.mono ?_
        rintro e w2 ⟨rfl, r2, g2, s2⟩
        have HR2 : Hid (RowP _ _ _ _) := r2
        have HG2 : Hid _ := g2
        have HS2 : Hid _ := s2
        clear r2 g2 s2
        go_wp2_with fail
        exact ⟨⟨i - j, j, srF d (m - i) m j, by omega, hj, by omega, hjb, by congr 1; omega, rfl, HR2.out, grown_trP HG.out HG2.out, HS.out.trans (HS2.out.mono (by omega) (by omega)), by rw [← HT.out]; exact rot_more (by omega) hgt⟩, by simp [intOf]; omega⟩
      · have hz : ¬ (j : Int) < (i : Int) := by omega
        have hz2 : (i : Int) ≤ (j : Int) := by omega
        have HC : Hid (Calls _ _ _ _ _) := C2.out (by omega)
        go_wp2_with fail
        refine HC.out.mono ?_
        rintro e w2 ⟨rfl, r2, g2, s2⟩
        have HR2 : Hid (RowP _ _ _ _) := r2
        have HG2 : Hid _ := g2
        have HS2 : Hid _ := s2
        clear r2 g2 s2
        go_wp2_with fail
        exact ⟨⟨i, j - i, srF d (m - i) (m + j - i) i, hi, by omega, him, by omega, rfl, by congr 1; omega, HR2.out, grown_trP HG.out HG2.out, HS.out.trans (HS2.out.mono (by omega) (by omega)), by rw [← HT.out]; exact rot_less (by omega) (by omega)⟩, by simp [intOf]; omega⟩
end Go.Proofs.Ytljidfaeljpnpaa
