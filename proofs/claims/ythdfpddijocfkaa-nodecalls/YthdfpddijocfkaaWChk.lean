
/- Layer 17: the reference's Check. -/

import Derived.Test.YthdfpddijocfkaaWSub

import Derived.Test.YthdfpddijocfkaaTRChk

import Derived.Test.YthdfpddijocfkaaWVio

namespace Go.Proofs.Ythdfpddijocfkaa

open Go.RowKit

attribute [local go_sem ↓] Go.wp_at_zero Go.wp_at_succ

theorem cnt_zero {t : NL} : ∀ m, (∀ k, k < m → NodeOk (ndAt t k) t.length) → cntN t 0 m = 0
  | 0, _ => rfl
  | m + 1, h => by
    have ih := cnt_zero m (fun k hk => h k (by omega))
    rcases (h m (by omega)).cases with ⟨hl, hr⟩ | ⟨l, r, hl, hr, l1, l2, r1, r2, hne⟩
    · rw [cnt_leaf hl hr 0, ih]
    · have := cnt_inner hl hr hne 0
      rw [if_neg (by omega), if_neg (by omega)] at this
      omega
theorem neB {a b : Int} (h : a ≠ b) : (a != b) = true ∧ decide (a ≠ b) = true ∧ (a == b) = false := by simp [h]
theorem eqB {a b : Int} (h : a = b) : (a != b) = false ∧ decide (a ≠ b) = false ∧ (a == b) = true := by simp [h]
theorem dT {p : Prop} [Decidable p] (h : p) : decide p = true := decide_eq_true h
theorem dF {p : Prop} [Decidable p] (h : ¬ p) : decide p = false := decide_eq_false h
set_option maxRecDepth 100000 in
set_option maxHeartbeats 4000000 in
theorem vcheck_any (base : Option Addr) (b o c : Nat) (t : NL) (w : World) (h : NodesAt w base b o t) :
    Calls Try.prog 35 #[.slice base t.length c] w fun e w' => e = .returned (.int .i64 (formE t)) ∧ Below w.heap.size w w' := by
  have hm := h.len
  unfold maxLen at hm
  rcases Nat.lt_or_ge 100000 t.length with hbig | hbig
  · have F : Hid (formE t = 2) := formE_big hbig
    have hb' : (100000 : Int) < (t.length : Int) := by omega
    go_enter Try.func35, Try.ntmps35
    go_wp2_with fail
    go_ret
    exact ⟨by rw [F.out]; rfl, Below.refl _ _⟩
  have hb' : (t.length : Int) ≤ 100000 := by omega
  by_cases h0 : t.length = 0
  · have F : Hid (formE t = 3) := formE_not hbig (fun q => by have := q.pos; omega)
    rw [h0]
    clear h0 h hbig hb' hm
    go_enter Try.func35, Try.ntmps35
    go_wp2_with fail
    go_ret
    exact ⟨by rw [F.out]; rfl, Below.refl _ _⟩
  · obtain rfl : base = some ⟨b, o, none⟩ := h.base h0
    have hbl := h.lt h0
    have HA : Hid (NodesAt _ _ _ _ _) := h
    have hpos : 0 < t.length := by omega
    have hpz : (((t.length : Nat) : Int) == 0) = false := beq_eq_false_iff_ne.2 (by omega)
    clear h h0
    have hmi := run_make_known (P := Try.prog) 23 3 (.int .i64 0) 1 8 ins_under in_info t.length (by omega) (by omega)
    go_enter Try.func35, Try.ntmps35
    go_wp2_with fail
    go_loopw [4] (fun i wr => ∃ j : Nat, j ≤ t.length ∧ i = .int .i64 j ∧ (∀ k, k < j → NodeOk (ndAt t k) t.length) ∧ Below w.heap.size w wr ∧ w.heap.size < wr.heap.size ∧ Ints wr w.heap.size t.length (fun x => ((cntN t x j : Nat) : Int))) (fun i _ => t.length - (intOf i).toNat)
    case atStart =>
      refine ⟨0, Nat.zero_le _, rfl, fun k hk => by omega, below_alloc _ _, by simp, ?_⟩
      have := zeros_ints w 3 t.length
      rw [made_zeros]
      exact this
    case round =>
      obtain ⟨j, hj, rfl, hok, hbw, hwz, hI⟩ := hrel
      by_cases hlt : j < t.length
      · have HC : Hid _ := (HA.out.below hbw).cells j hlt
        have j0 : (0 : Int) ≤ (j : Int) := Int.natCast_nonneg _
        have j1 : (j : Int) < (t.length : Int) := by omega
        have hbr : b < wr.heap.size := by omega
        have HB : Hid (Below w.heap.size w wr) := hbw
        have HI : Hid (Ints _ _ _ _) := hI
        have HK : Hid (∀ k, k < j → NodeOk (ndAt t k) t.length) := hok
        have HBAD : Hid (¬ NodeOk (ndAt t j) t.length → formE t = 3) := fun hn => formE_not hbig (fun q => hn (q.good.node j hlt))
        have HEQ : Hid (∀ n : NdD, ndAt t j = n → NodeOk n t.length → ∀ k, k < j + 1 → NodeOk (ndAt t k) t.length) := fun n e hn k hk => by
          by_cases q : k = j
          · rw [q, e]; exact hn
          · exact HK.out k (by omega)
        have HLE : Hid (∀ x, cntN t x j ≤ 2 * j) := fun x => cnt_le t x j
        have HLF : Hid (∀ n : NdD, ndAt t j = n → n.l = -1 → n.r = -1 → ∀ x, cntN t x (j + 1) = cntN t x j) := fun n e h1 h2 => cnt_leaf (by rw [e]; exact h1) (by rw [e]; exact h2)
        have HTW : Hid (∀ n : NdD, ndAt t j = n → ∀ l r : Nat, n.l = (l : Int) → n.r = (r : Int) → l ≠ r → l < t.length → r < t.length → ∀ W : World, Ints W w.heap.size t.length (fun x => ((cntN t x j : Nat) : Int)) → Ints ((W.setCell ⟨w.heap.size, l, none⟩ (.int .i64 ((cntN t l j : Int) + 1))).setCell ⟨w.heap.size, r, none⟩ (.int .i64 ((cntN t r j : Int) + 1))) w.heap.size t.length (fun x => ((cntN t x (j + 1) : Nat) : Int))) := fun n e l r h1 h2 h3 h4 h5 W hW => ints_two hW (by rw [e]; exact h1) (by rw [e]; exact h2) h3 h4 h5
        clear hbw hI hok
        generalize hnd : ndAt t j = nd at HC HBAD
        have HND : Hid (ndAt t j = nd) := hnd
        clear hnd
        obtain ⟨k0, k1, k2, k3, k4, k5⟩ := nd
        simp only at HC
        obtain ⟨c0, c1, c2, c3, c4, c5⟩ := HC.out
        by_cases a1 : k1 ≠ 0 ∧ k1 ≠ 1
        · obtain ⟨d1, d2, -⟩ := neB a1.1
          obtain ⟨d3, d4, -⟩ := neB a1.2
          have BW : Hid (Below wr.heap.size wr (wr.alloc (.cells #[.int .i64 k0, .int .i64 k1, .int .i64 k2, .int .i64 k3, .int .i64 k4, .int .i64 k5] 81))) := below_alloc _ _
          have F : Hid (formE t = 3) := HBAD.out (fun q => by have := q.2.1; simp only at this; omega)
          go_wp2_with fail
          go_ret
          exact ⟨by rw [F.out]; rfl, HB.out.trans (BW.out.mono HB.out.size)⟩
        by_cases a2 : k1 = 1
        · subst a2
          by_cases a3 : k0 ≠ 0
          · obtain ⟨d1, d2, -⟩ := neB a3
            have BW : Hid (Below wr.heap.size wr (wr.alloc (.cells #[.int .i64 k0, .int .i64 1, .int .i64 k2, .int .i64 k3, .int .i64 k4, .int .i64 k5] 81))) := below_alloc _ _
            have F : Hid (formE t = 3) := HBAD.out (fun q => by have := q.2.1; simp only at this; omega)
            go_wp2_with fail
            go_ret
            exact ⟨by rw [F.out]; rfl, HB.out.trans (BW.out.mono HB.out.size)⟩
          obtain rfl : k0 = 0 := by omega
          clear a3
          by_cases a4 : k3 ≠ 0
          · obtain ⟨d1, d2, -⟩ := neB a4
            have BW : Hid (Below wr.heap.size wr (wr.alloc (.cells #[.int .i64 0, .int .i64 1, .int .i64 k2, .int .i64 k3, .int .i64 k4, .int .i64 k5] 81))) := below_alloc _ _
            have F : Hid (formE t = 3) := HBAD.out (fun q => by have := q.2.1; simp only at this; omega)
            go_wp2_with fail
            go_ret
            exact ⟨by rw [F.out]; rfl, HB.out.trans (BW.out.mono HB.out.size)⟩
          obtain rfl : k3 = 0 := by omega
          clear a4
          by_cases a5 : k2 < 0
          · have d5 := dT a5
            have BW : Hid (Below wr.heap.size wr (wr.alloc (.cells #[.int .i64 0, .int .i64 1, .int .i64 k2, .int .i64 0, .int .i64 k4, .int .i64 k5] 81))) := below_alloc _ _
            have F : Hid (formE t = 3) := HBAD.out (fun q => by have := q.2.2; simp only at this; omega)
            go_wp2_with fail
            go_ret
            exact ⟨by rw [F.out]; rfl, HB.out.trans (BW.out.mono HB.out.size)⟩
          by_cases a6 : 1000000 < k2
          · have d5 := dF a5
            have d6 := dT a6
            have BW : Hid (Below wr.heap.size wr (wr.alloc (.cells #[.int .i64 0, .int .i64 1, .int .i64 k2, .int .i64 0, .int .i64 k4, .int .i64 k5] 81))) := below_alloc _ _
            have F : Hid (formE t = 3) := HBAD.out (fun q => by have := q.2.2; simp only at this; omega)
            go_wp2_with fail
            go_ret
            exact ⟨by rw [F.out]; rfl, HB.out.trans (BW.out.mono HB.out.size)⟩
          have d5 := dF a5
          have d6 := dF a6
          have X1 : Hid (∀ (x : World) , Below (wr.heap.size + 1) (wr.alloc (.cells #[.int .i64 0, .int .i64 1, .int .i64 k2, .int .i64 0, .int .i64 k4, .int .i64 k5] 81)) x → Bx x wr.heap.size 0 1 k2 0 k4 k5) := fun x hx => (bx_new (heap_alloc_at _ _ _ rfl)).below (by rw [World.size_alloc]; exact hx)
          by_cases a7 : k4 = -1 ∧ k5 = -1
          · obtain ⟨rfl, rfl⟩ := a7
            have HLB : Hid (leafB ⟨0, 1, k2, 0, (-1), (-1)⟩ = true) := leafB_yes rfl rfl
            have HK1 : Hid _ := HEQ.out _ HND.out ⟨Or.inl ⟨rfl, rfl⟩, by exact Or.inr ⟨rfl, rfl, rfl⟩, by simp only; omega, by simp only; omega⟩
            have HL1 : Hid _ := HLF.out _ HND.out rfl rfl
            have BW : Hid (Below wr.heap.size wr (wr.alloc (.cells #[.int .i64 0, .int .i64 1, .int .i64 k2, .int .i64 0, .int .i64 (-1), .int .i64 (-1)] 81))) := below_alloc _ _
            go_wp2_with (first | (go_at_call 54; refine (vLeaf_any _ _ _ _ _ _ _).mono ?_; rintro e w3 ⟨rfl, hb3⟩; rw [HLB.out]; have B3 : Hid (Below wr.heap.size wr w3) := BW.out.trans (hb3.mono (by simp)); clear hb3))
            exact ⟨⟨j + 1, by omega, by go_num, HK1.out, HB.out.trans (B3.out.mono HB.out.size), by have := B3.out.size; omega, (HI.out.below hwz B3.out).fn fun x _ => by rw [HL1.out x]⟩, by simp [intOf]; omega⟩
          have HLB : Hid (leafB ⟨0, 1, k2, 0, k4, k5⟩ = false) := by show leafB _ = _; unfold leafB; exact dF a7
          by_cases e2 : k4 < 1
          · have g2 := dT e2
            have BW0 : Hid (Below wr.heap.size wr (wr.alloc (.cells #[.int .i64 0, .int .i64 1, .int .i64 k2, .int .i64 0, .int .i64 k4, .int .i64 k5] 81))) := below_alloc _ _
            have F : Hid (formE t = 3) := HBAD.out (fun q => by have := q.1; simp only at this; omega)
            clear e2
            go_wp2_with (first | (go_at_call 54; refine (vLeaf_any _ _ _ _ _ _ _).mono ?_; rintro e w3 ⟨rfl, hb3⟩; rw [HLB.out]; have B3 : Hid (Below wr.heap.size wr w3) := BW0.out.trans (hb3.mono (by simp)); have X3 : Hid (Bx _ _ _ _ _ _ _ _) := X1.out w3 (by rw [World.size_alloc] at hb3; exact hb3); obtain ⟨y0, y1, y2, y3, y4, y5⟩ := X3.out.c; have yl := X3.out.lt; clear hb3))
            go_ret
            exact ⟨by rw [F.out]; rfl, HB.out.trans (B3.out.mono HB.out.size)⟩
          have g2 := dF e2
          by_cases e3 : (t.length : Int) ≤ k4
          · have g3 := dT e3
            have BW0 : Hid (Below wr.heap.size wr (wr.alloc (.cells #[.int .i64 0, .int .i64 1, .int .i64 k2, .int .i64 0, .int .i64 k4, .int .i64 k5] 81))) := below_alloc _ _
            have F : Hid (formE t = 3) := HBAD.out (fun q => by have := q.1; simp only at this; omega)
            clear e3
            go_wp2_with (first | (go_at_call 54; refine (vLeaf_any _ _ _ _ _ _ _).mono ?_; rintro e w3 ⟨rfl, hb3⟩; rw [HLB.out]; have B3 : Hid (Below wr.heap.size wr w3) := BW0.out.trans (hb3.mono (by simp)); have X3 : Hid (Bx _ _ _ _ _ _ _ _) := X1.out w3 (by rw [World.size_alloc] at hb3; exact hb3); obtain ⟨y0, y1, y2, y3, y4, y5⟩ := X3.out.c; have yl := X3.out.lt; clear hb3))
            go_ret
            exact ⟨by rw [F.out]; rfl, HB.out.trans (B3.out.mono HB.out.size)⟩
          have g3 := dF e3
          by_cases e4 : k5 < 1
          · have g4 := dT e4
            have BW0 : Hid (Below wr.heap.size wr (wr.alloc (.cells #[.int .i64 0, .int .i64 1, .int .i64 k2, .int .i64 0, .int .i64 k4, .int .i64 k5] 81))) := below_alloc _ _
            have F : Hid (formE t = 3) := HBAD.out (fun q => by have := q.1; simp only at this; omega)
            clear e4
            go_wp2_with (first | (go_at_call 54; refine (vLeaf_any _ _ _ _ _ _ _).mono ?_; rintro e w3 ⟨rfl, hb3⟩; rw [HLB.out]; have B3 : Hid (Below wr.heap.size wr w3) := BW0.out.trans (hb3.mono (by simp)); have X3 : Hid (Bx _ _ _ _ _ _ _ _) := X1.out w3 (by rw [World.size_alloc] at hb3; exact hb3); obtain ⟨y0, y1, y2, y3, y4, y5⟩ := X3.out.c; have yl := X3.out.lt; clear hb3))
            go_ret
            exact ⟨by rw [F.out]; rfl, HB.out.trans (B3.out.mono HB.out.size)⟩
          have g4 := dF e4
          by_cases e5 : (t.length : Int) ≤ k5
          · have g5 := dT e5
            have BW0 : Hid (Below wr.heap.size wr (wr.alloc (.cells #[.int .i64 0, .int .i64 1, .int .i64 k2, .int .i64 0, .int .i64 k4, .int .i64 k5] 81))) := below_alloc _ _
            have F : Hid (formE t = 3) := HBAD.out (fun q => by have := q.1; simp only at this; omega)
            clear e5
            go_wp2_with (first | (go_at_call 54; refine (vLeaf_any _ _ _ _ _ _ _).mono ?_; rintro e w3 ⟨rfl, hb3⟩; rw [HLB.out]; have B3 : Hid (Below wr.heap.size wr w3) := BW0.out.trans (hb3.mono (by simp)); have X3 : Hid (Bx _ _ _ _ _ _ _ _) := X1.out w3 (by rw [World.size_alloc] at hb3; exact hb3); obtain ⟨y0, y1, y2, y3, y4, y5⟩ := X3.out.c; have yl := X3.out.lt; clear hb3))
            go_ret
            exact ⟨by rw [F.out]; rfl, HB.out.trans (B3.out.mono HB.out.size)⟩
          have g5 := dF e5
          by_cases e6 : k4 = k5
          · have g6 := (eqB e6).2.2
            have BW0 : Hid (Below wr.heap.size wr (wr.alloc (.cells #[.int .i64 0, .int .i64 1, .int .i64 k2, .int .i64 0, .int .i64 k4, .int .i64 k5] 81))) := below_alloc _ _
            have F : Hid (formE t = 3) := HBAD.out (fun q => by have := q.1; simp only at this; omega)
            clear e6
            go_wp2_with (first | (go_at_call 54; refine (vLeaf_any _ _ _ _ _ _ _).mono ?_; rintro e w3 ⟨rfl, hb3⟩; rw [HLB.out]; have B3 : Hid (Below wr.heap.size wr w3) := BW0.out.trans (hb3.mono (by simp)); have X3 : Hid (Bx _ _ _ _ _ _ _ _) := X1.out w3 (by rw [World.size_alloc] at hb3; exact hb3); obtain ⟨y0, y1, y2, y3, y4, y5⟩ := X3.out.c; have yl := X3.out.lt; clear hb3))
            go_ret
            exact ⟨by rw [F.out]; rfl, HB.out.trans (B3.out.mono HB.out.size)⟩
          have g6 := (neB e6).2.2
          obtain ⟨l, rfl⟩ : ∃ l : Nat, k4 = (l : Int) := ⟨k4.toNat, by omega⟩
          obtain ⟨r, rfl⟩ : ∃ r : Nat, k5 = (r : Int) := ⟨k5.toNat, by omega⟩
          have l2 : l < t.length := by omega
          have r2 : r < t.length := by omega
          have hne : l ≠ r := by omega
          have hne' : r ≠ l := by omega
          have HK1 : Hid _ := HEQ.out _ HND.out ⟨Or.inr ⟨by simp only; omega, by simp only; omega, by simp only; omega, by simp only; omega, by simp only; omega, rfl⟩, by exact Or.inr ⟨rfl, rfl, rfl⟩, by simp only; omega, by simp only; omega⟩
          have HI1 : Hid _ := HTW.out _ HND.out l r rfl rfl hne l2 r2
          have q1 := HLE.out l
          have q2 := HLE.out r
          have l0 : (0 : Int) ≤ (l : Int) := Int.natCast_nonneg _
          have r0 : (0 : Int) ≤ (r : Int) := Int.natCast_nonneg _
          have l3 : (l : Int) < (t.length : Int) := by omega
          have r3 : (r : Int) < (t.length : Int) := by omega
          have b1 : ((cntN t l j : Nat) : Int) ≤ 200000 := by omega
          have b2 : ((cntN t r j : Nat) : Int) ≤ 200000 := by omega
          have b3 : (0 : Int) ≤ ((cntN t l j : Nat) : Int) := Int.natCast_nonneg _
          have b4 : (0 : Int) ≤ ((cntN t r j : Nat) : Int) := Int.natCast_nonneg _
          have m3 : decide (t.length ≤ l) = false := dF (by omega)
          have m5 : decide (t.length ≤ r) = false := dF (by omega)
          have m6 : (l == r) = false := by simp [hne]
          have nz : w.heap.size ≠ wr.heap.size := by omega
          have nz' : wr.heap.size ≠ w.heap.size := by omega
          clear q1 q2 e2 e3 e4 e5 e6 a7
          have BW0 : Hid (Below wr.heap.size wr (wr.alloc (.cells #[.int .i64 0, .int .i64 1, .int .i64 k2, .int .i64 0, .int .i64 (l : Int), .int .i64 (r : Int)] 81))) := below_alloc _ _
          go_wp2_with (first | (go_at_call 54; refine (vLeaf_any _ _ _ _ _ _ _).mono ?_; rintro e w3 ⟨rfl, hb3⟩; rw [HLB.out]; have B3 : Hid (Below wr.heap.size wr w3) := BW0.out.trans (hb3.mono (by simp)); have X3 : Hid (Bx _ _ _ _ _ _ _ _) := X1.out w3 (by rw [World.size_alloc] at hb3; exact hb3); obtain ⟨y0, y1, y2, y3, y4, y5⟩ := X3.out.c; have yl := X3.out.lt; have z3 := B3.out.size; have HI3 : Hid (Ints w3 _ _ _) := HI.out.below hwz B3.out; have v1 := (HI3.out l l2).1; have v2 := (HI3.out r r2).1; have f1 := (HI3.out l l2).2; have f2 := (HI3.out r r2).2; clear c0 c1 c2 c3 c4 c5; clear hb3))
          exact ⟨⟨j + 1, by omega, by go_num, HK1.out, ((HB.out.trans (B3.out.mono HB.out.size)).setCell (Nat.le_refl _) _).setCell (Nat.le_refl _) _, by simp; omega, HI1.out _ HI3.out⟩, by simp [intOf]; omega⟩
        · obtain rfl : k1 = 0 := by omega
          clear a1 a2
          by_cases a5 : k2 < 0
          · have d5 := dT a5
            have BW : Hid (Below wr.heap.size wr (wr.alloc (.cells #[.int .i64 k0, .int .i64 0, .int .i64 k2, .int .i64 k3, .int .i64 k4, .int .i64 k5] 81))) := below_alloc _ _
            have F : Hid (formE t = 3) := HBAD.out (fun q => by have := q.2.2; simp only at this; omega)
            go_wp2_with fail
            go_ret
            exact ⟨by rw [F.out]; rfl, HB.out.trans (BW.out.mono HB.out.size)⟩
          by_cases a6 : 1000000 < k2
          · have d5 := dF a5
            have d6 := dT a6
            have BW : Hid (Below wr.heap.size wr (wr.alloc (.cells #[.int .i64 k0, .int .i64 0, .int .i64 k2, .int .i64 k3, .int .i64 k4, .int .i64 k5] 81))) := below_alloc _ _
            have F : Hid (formE t = 3) := HBAD.out (fun q => by have := q.2.2; simp only at this; omega)
            go_wp2_with fail
            go_ret
            exact ⟨by rw [F.out]; rfl, HB.out.trans (BW.out.mono HB.out.size)⟩
          have d5 := dF a5
          have d6 := dF a6
          have X1 : Hid (∀ (x : World) , Below (wr.heap.size + 1) (wr.alloc (.cells #[.int .i64 k0, .int .i64 0, .int .i64 k2, .int .i64 k3, .int .i64 k4, .int .i64 k5] 81)) x → Bx x wr.heap.size k0 0 k2 k3 k4 k5) := fun x hx => (bx_new (heap_alloc_at _ _ _ rfl)).below (by rw [World.size_alloc]; exact hx)
          by_cases a7 : k4 = -1 ∧ k5 = -1
          · obtain ⟨rfl, rfl⟩ := a7
            have HLB : Hid (leafB ⟨k0, 0, k2, k3, (-1), (-1)⟩ = true) := leafB_yes rfl rfl
            have HK1 : Hid _ := HEQ.out _ HND.out ⟨Or.inl ⟨rfl, rfl⟩, by exact Or.inl rfl, by simp only; omega, by simp only; omega⟩
            have HL1 : Hid _ := HLF.out _ HND.out rfl rfl
            have BW : Hid (Below wr.heap.size wr (wr.alloc (.cells #[.int .i64 k0, .int .i64 0, .int .i64 k2, .int .i64 k3, .int .i64 (-1), .int .i64 (-1)] 81))) := below_alloc _ _
            go_wp2_with (first | (go_at_call 54; refine (vLeaf_any _ _ _ _ _ _ _).mono ?_; rintro e w3 ⟨rfl, hb3⟩; rw [HLB.out]; have B3 : Hid (Below wr.heap.size wr w3) := BW.out.trans (hb3.mono (by simp)); clear hb3))
            exact ⟨⟨j + 1, by omega, by go_num, HK1.out, HB.out.trans (B3.out.mono HB.out.size), by have := B3.out.size; omega, (HI.out.below hwz B3.out).fn fun x _ => by rw [HL1.out x]⟩, by simp [intOf]; omega⟩
          have HLB : Hid (leafB ⟨k0, 0, k2, k3, k4, k5⟩ = false) := by show leafB _ = _; unfold leafB; exact dF a7
          by_cases e1 : k3 ≠ 0
          · obtain ⟨g1, g2, -⟩ := neB e1
            have BW0 : Hid (Below wr.heap.size wr (wr.alloc (.cells #[.int .i64 k0, .int .i64 0, .int .i64 k2, .int .i64 k3, .int .i64 k4, .int .i64 k5] 81))) := below_alloc _ _
            have F : Hid (formE t = 3) := HBAD.out (fun q => by have := q.1; simp only at this; omega)
            clear e1
            go_wp2_with (first | (go_at_call 54; refine (vLeaf_any _ _ _ _ _ _ _).mono ?_; rintro e w3 ⟨rfl, hb3⟩; rw [HLB.out]; have B3 : Hid (Below wr.heap.size wr w3) := BW0.out.trans (hb3.mono (by simp)); have X3 : Hid (Bx _ _ _ _ _ _ _ _) := X1.out w3 (by rw [World.size_alloc] at hb3; exact hb3); obtain ⟨y0, y1, y2, y3, y4, y5⟩ := X3.out.c; have yl := X3.out.lt; clear hb3))
            go_ret
            exact ⟨by rw [F.out]; rfl, HB.out.trans (B3.out.mono HB.out.size)⟩
          obtain rfl : k3 = 0 := by omega
          clear e1
          by_cases e2 : k4 < 1
          · have g2 := dT e2
            have BW0 : Hid (Below wr.heap.size wr (wr.alloc (.cells #[.int .i64 k0, .int .i64 0, .int .i64 k2, .int .i64 0, .int .i64 k4, .int .i64 k5] 81))) := below_alloc _ _
            have F : Hid (formE t = 3) := HBAD.out (fun q => by have := q.1; simp only at this; omega)
            clear e2
            go_wp2_with (first | (go_at_call 54; refine (vLeaf_any _ _ _ _ _ _ _).mono ?_; rintro e w3 ⟨rfl, hb3⟩; rw [HLB.out]; have B3 : Hid (Below wr.heap.size wr w3) := BW0.out.trans (hb3.mono (by simp)); have X3 : Hid (Bx _ _ _ _ _ _ _ _) := X1.out w3 (by rw [World.size_alloc] at hb3; exact hb3); obtain ⟨y0, y1, y2, y3, y4, y5⟩ := X3.out.c; have yl := X3.out.lt; clear hb3))
            go_ret
            exact ⟨by rw [F.out]; rfl, HB.out.trans (B3.out.mono HB.out.size)⟩
          have g2 := dF e2
          by_cases e3 : (t.length : Int) ≤ k4
          · have g3 := dT e3
            have BW0 : Hid (Below wr.heap.size wr (wr.alloc (.cells #[.int .i64 k0, .int .i64 0, .int .i64 k2, .int .i64 0, .int .i64 k4, .int .i64 k5] 81))) := below_alloc _ _
            have F : Hid (formE t = 3) := HBAD.out (fun q => by have := q.1; simp only at this; omega)
            clear e3
            go_wp2_with (first | (go_at_call 54; refine (vLeaf_any _ _ _ _ _ _ _).mono ?_; rintro e w3 ⟨rfl, hb3⟩; rw [HLB.out]; have B3 : Hid (Below wr.heap.size wr w3) := BW0.out.trans (hb3.mono (by simp)); have X3 : Hid (Bx _ _ _ _ _ _ _ _) := X1.out w3 (by rw [World.size_alloc] at hb3; exact hb3); obtain ⟨y0, y1, y2, y3, y4, y5⟩ := X3.out.c; have yl := X3.out.lt; clear hb3))
            go_ret
            exact ⟨by rw [F.out]; rfl, HB.out.trans (B3.out.mono HB.out.size)⟩
          have g3 := dF e3
          by_cases e4 : k5 < 1
          · have g4 := dT e4
            have BW0 : Hid (Below wr.heap.size wr (wr.alloc (.cells #[.int .i64 k0, .int .i64 0, .int .i64 k2, .int .i64 0, .int .i64 k4, .int .i64 k5] 81))) := below_alloc _ _
            have F : Hid (formE t = 3) := HBAD.out (fun q => by have := q.1; simp only at this; omega)
            clear e4
            go_wp2_with (first | (go_at_call 54; refine (vLeaf_any _ _ _ _ _ _ _).mono ?_; rintro e w3 ⟨rfl, hb3⟩; rw [HLB.out]; have B3 : Hid (Below wr.heap.size wr w3) := BW0.out.trans (hb3.mono (by simp)); have X3 : Hid (Bx _ _ _ _ _ _ _ _) := X1.out w3 (by rw [World.size_alloc] at hb3; exact hb3); obtain ⟨y0, y1, y2, y3, y4, y5⟩ := X3.out.c; have yl := X3.out.lt; clear hb3))
            go_ret
            exact ⟨by rw [F.out]; rfl, HB.out.trans (B3.out.mono HB.out.size)⟩
          have g4 := dF e4
          by_cases e5 : (t.length : Int) ≤ k5
          · have g5 := dT e5
            have BW0 : Hid (Below wr.heap.size wr (wr.alloc (.cells #[.int .i64 k0, .int .i64 0, .int .i64 k2, .int .i64 0, .int .i64 k4, .int .i64 k5] 81))) := below_alloc _ _
            have F : Hid (formE t = 3) := HBAD.out (fun q => by have := q.1; simp only at this; omega)
            clear e5
            go_wp2_with (first | (go_at_call 54; refine (vLeaf_any _ _ _ _ _ _ _).mono ?_; rintro e w3 ⟨rfl, hb3⟩; rw [HLB.out]; have B3 : Hid (Below wr.heap.size wr w3) := BW0.out.trans (hb3.mono (by simp)); have X3 : Hid (Bx _ _ _ _ _ _ _ _) := X1.out w3 (by rw [World.size_alloc] at hb3; exact hb3); obtain ⟨y0, y1, y2, y3, y4, y5⟩ := X3.out.c; have yl := X3.out.lt; clear hb3))
            go_ret
            exact ⟨by rw [F.out]; rfl, HB.out.trans (B3.out.mono HB.out.size)⟩
          have g5 := dF e5
          by_cases e6 : k4 = k5
          · have g6 := (eqB e6).2.2
            have BW0 : Hid (Below wr.heap.size wr (wr.alloc (.cells #[.int .i64 k0, .int .i64 0, .int .i64 k2, .int .i64 0, .int .i64 k4, .int .i64 k5] 81))) := below_alloc _ _
            have F : Hid (formE t = 3) := HBAD.out (fun q => by have := q.1; simp only at this; omega)
            clear e6
            go_wp2_with (first | (go_at_call 54; refine (vLeaf_any _ _ _ _ _ _ _).mono ?_; rintro e w3 ⟨rfl, hb3⟩; rw [HLB.out]; have B3 : Hid (Below wr.heap.size wr w3) := BW0.out.trans (hb3.mono (by simp)); have X3 : Hid (Bx _ _ _ _ _ _ _ _) := X1.out w3 (by rw [World.size_alloc] at hb3; exact hb3); obtain ⟨y0, y1, y2, y3, y4, y5⟩ := X3.out.c; have yl := X3.out.lt; clear hb3))
            go_ret
            exact ⟨by rw [F.out]; rfl, HB.out.trans (B3.out.mono HB.out.size)⟩
          have g6 := (neB e6).2.2
          obtain ⟨l, rfl⟩ : ∃ l : Nat, k4 = (l : Int) := ⟨k4.toNat, by omega⟩
          obtain ⟨r, rfl⟩ : ∃ r : Nat, k5 = (r : Int) := ⟨k5.toNat, by omega⟩
          have l2 : l < t.length := by omega
          have r2 : r < t.length := by omega
          have hne : l ≠ r := by omega
          have hne' : r ≠ l := by omega
          have HK1 : Hid _ := HEQ.out _ HND.out ⟨Or.inr ⟨by simp only; omega, by simp only; omega, by simp only; omega, by simp only; omega, by simp only; omega, rfl⟩, by exact Or.inl rfl, by simp only; omega, by simp only; omega⟩
          have HI1 : Hid _ := HTW.out _ HND.out l r rfl rfl hne l2 r2
          have q1 := HLE.out l
          have q2 := HLE.out r
          have l0 : (0 : Int) ≤ (l : Int) := Int.natCast_nonneg _
          have r0 : (0 : Int) ≤ (r : Int) := Int.natCast_nonneg _
          have l3 : (l : Int) < (t.length : Int) := by omega
          have r3 : (r : Int) < (t.length : Int) := by omega
          have b1 : ((cntN t l j : Nat) : Int) ≤ 200000 := by omega
          have b2 : ((cntN t r j : Nat) : Int) ≤ 200000 := by omega
          have b3 : (0 : Int) ≤ ((cntN t l j : Nat) : Int) := Int.natCast_nonneg _
          have b4 : (0 : Int) ≤ ((cntN t r j : Nat) : Int) := Int.natCast_nonneg _
          have m3 : decide (t.length ≤ l) = false := dF (by omega)
          have m5 : decide (t.length ≤ r) = false := dF (by omega)
          have m6 : (l == r) = false := by simp [hne]
          have nz : w.heap.size ≠ wr.heap.size := by omega
          have nz' : wr.heap.size ≠ w.heap.size := by omega
          clear q1 q2 e2 e3 e4 e5 e6 a7
          have BW0 : Hid (Below wr.heap.size wr (wr.alloc (.cells #[.int .i64 k0, .int .i64 0, .int .i64 k2, .int .i64 0, .int .i64 (l : Int), .int .i64 (r : Int)] 81))) := below_alloc _ _
          go_wp2_with (first | (go_at_call 54; refine (vLeaf_any _ _ _ _ _ _ _).mono ?_; rintro e w3 ⟨rfl, hb3⟩; rw [HLB.out]; have B3 : Hid (Below wr.heap.size wr w3) := BW0.out.trans (hb3.mono (by simp)); have X3 : Hid (Bx _ _ _ _ _ _ _ _) := X1.out w3 (by rw [World.size_alloc] at hb3; exact hb3); obtain ⟨y0, y1, y2, y3, y4, y5⟩ := X3.out.c; have yl := X3.out.lt; have z3 := B3.out.size; have HI3 : Hid (Ints w3 _ _ _) := HI.out.below hwz B3.out; have v1 := (HI3.out l l2).1; have v2 := (HI3.out r r2).1; have f1 := (HI3.out l l2).2; have f2 := (HI3.out r r2).2; clear c0 c1 c2 c3 c4 c5; clear hb3))
          exact ⟨⟨j + 1, by omega, by go_num, HK1.out, ((HB.out.trans (B3.out.mono HB.out.size)).setCell (Nat.le_refl _) _).setCell (Nat.le_refl _) _, by simp; omega, HI1.out _ HI3.out⟩, by simp [intOf]; omega⟩
      · obtain rfl : j = t.length := by omega
        have HB : Hid (Below w.heap.size w wr) := hbw
        have HI : Hid (Ints _ _ _ _) := hI
        have HK : Hid (∀ k, k < t.length → NodeOk (ndAt t k) t.length) := hok
        have HZ : Hid (cntN t 0 t.length = 0) := cnt_zero _ hok
        clear hbw hI hok
        have hbr : b < wr.heap.size := by omega
        go_wp2_with fail
        go_loopw [6] (fun i wx => ∃ j : Nat, 1 ≤ j ∧ j ≤ t.length ∧ i = .int .i64 j ∧ (∀ c, 1 ≤ c → c < j → cntN t c t.length = 1) ∧ Below wr.heap.size wr wx) (fun i _ => t.length - (intOf i).toNat)
        case atStart => exact ⟨1, Nat.le_refl _, by omega, rfl, fun c h1 h2 => by omega, Below.refl _ _⟩
        case round =>
          obtain ⟨j, hj1, hj, rfl, hone, hbx⟩ := hrel
          by_cases hlt : j < t.length
          · have v1 := ((HI.out.below hwz hbx) j hlt).1
            have HX : Hid (Below _ _ _) := hbx
            have HO : Hid (∀ c, 1 ≤ c → c < j → cntN t c t.length = 1) := hone
            have j0 : (0 : Int) ≤ (j : Int) := Int.natCast_nonneg _
            have j1 : (j : Int) < (t.length : Int) := by omega
            clear hbx hone
            by_cases hc : cntN t j t.length = 1
            · have HO1 : Hid (∀ c, 1 ≤ c → c < j + 1 → cntN t c t.length = 1) := by
                intro c h1 h2
                by_cases e : c = j
                · rw [e]; exact hc
                · exact HO.out c h1 (by omega)
              have hd : (((cntN t j t.length : Nat) : Int) != 1) = false := by simp; omega
              have hd2 : decide (((cntN t j t.length : Nat) : Int) ≠ 1) = false := by simp; omega
              clear hc
              go_wp2_with fail
              exact ⟨⟨j + 1, by omega, by omega, by go_num, HO1.out, HX.out⟩, by simp [intOf]; omega⟩
            · have F : Hid (formE t = 3) := formE_not hbig (fun q => hc (q.good.one j (by omega) (by omega)))
              have hd : (((cntN t j t.length : Nat) : Int) != 1) = true := by simp; omega
              have hd2 : decide (((cntN t j t.length : Nat) : Int) ≠ 1) = true := by simp; omega
              clear hc
              go_wp2_with fail
              go_ret
              exact ⟨by rw [F.out]; rfl, HB.out.trans (HX.out.mono HB.out.size)⟩
          · have hg : Good t := ⟨HK.out, fun c h1 h2 => hone c h1 (by omega)⟩
            obtain ⟨L, hT, _, hLn⟩ := good_tree hg hpos
            have F : Hid (formE t = _) := formE_whole hbig hpos hg hT
            have HT : Hid (Tree _ _ _) := hT
            have HN : Hid (NodesAt _ _ _ _ _) := (HA.out.below HB.out).below hbx
            have HX : Hid (Below w.heap.size w _) := HB.out.trans (hbx.mono HB.out.size)
            have v0 := ((HI.out.below hwz hbx) 0 hpos).1
            have hx := HX.out.size
            have hxl : w.heap.size < _ := Nat.lt_of_lt_of_le hwz hbx.size
            have j2 : (t.length : Int) ≤ (j : Int) := by omega
            have z1 : (0 : Int) < (t.length : Int) := by omega
            rw [HZ.out] at v0
            clear hbx hone hg hT
            by_cases e : L.length = t.length
            · have F1 : Hid (formE t = 0) := by show formE t = 0; rw [F.out, if_pos e]
              have HLL : Hid (L.length = t.length) := e
              clear e
              go_wp2_with (first | (go_at_call 55; refine (vOrder_any _ b o c t 0 L _ HN.out HT.out (by omega)).mono ?_; rintro e w5 ⟨v5, rfl, ho5, hb5⟩; obtain ⟨bs5, cp5, rfl⟩ := own_slice ho5; rw [HLL.out]; have B5 : Hid (Below w.heap.size w w5) := HX.out.trans (hb5.mono HX.out.size); clear ho5 hb5))
              go_ret
              exact ⟨by rw [F1.out]; rfl, B5.out⟩
            · have F1 : Hid (formE t = 3) := by show formE t = 3; rw [F.out, if_neg e]
              obtain ⟨d1, d2, d3⟩ := neB (a := (L.length : Int)) (b := (t.length : Int)) (by omega)
              go_wp2_with (first | (go_at_call 55; refine (vOrder_any _ b o c t 0 L _ HN.out HT.out (by omega)).mono ?_; rintro e w5 ⟨v5, rfl, ho5, hb5⟩; obtain ⟨bs5, cp5, rfl⟩ := own_slice ho5; have B5 : Hid (Below w.heap.size w w5) := HX.out.trans (hb5.mono HX.out.size); clear ho5 hb5))
              go_ret
              exact ⟨by rw [F1.out]; rfl, B5.out⟩
end Go.Proofs.Ythdfpddijocfkaa
