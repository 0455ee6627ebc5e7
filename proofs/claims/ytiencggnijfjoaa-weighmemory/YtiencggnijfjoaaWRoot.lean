
/- Layer 17: sentinel and Root of the reference. -/

import Derived.Test.YtiencggnijfjoaaWChk

import Derived.Test.YtiencggnijfjoaaTRoot

namespace Go.Proofs.Ytiencggnijfjoaa

open Go.RowKit

attribute [local go_sem ↓] Go.wp_at_zero Go.wp_at_succ

set_option maxRecDepth 100000 in
theorem vSent_any (a0 a1 a2 a3 a4 a5 : Int) (w : World) :
    Calls Try.prog 64 #[.agg #[.int .i64 a0, .int .i64 a1, .int .i64 a2, .int .i64 a3, .int .i64 a4, .int .i64 a5]] w fun e w' => e = .returned (.bool (endB ⟨a0, a1, a2, a3, a4, a5⟩)) ∧ Below w.heap.size w w' := by
  have B0 : Hid (Below w.heap.size w (w.alloc (.cells #[.int .i64 a0, .int .i64 a1, .int .i64 a2, .int .i64 a3, .int .i64 a4, .int .i64 a5] 54))) := below_alloc _ _
  have X1 : Hid (∀ (x : World), Below (w.heap.size + 1) (w.alloc (.cells #[.int .i64 a0, .int .i64 a1, .int .i64 a2, .int .i64 a3, .int .i64 a4, .int .i64 a5] 54)) x → Bx x w.heap.size a0 a1 a2 a3 a4 a5) := fun x hx => (bx_new (heap_alloc_at _ _ _ rfl)).below (by rw [World.size_alloc]; exact hx)
  cases hl : leafB ⟨a0, a1, a2, a3, a4, a5⟩
  · have HLB : Hid (leafB ⟨a0, a1, a2, a3, a4, a5⟩ = false) := hl
    have F : Hid (endB ⟨a0, a1, a2, a3, a4, a5⟩ = false) := by show endB _ = _; unfold endB; rw [hl]; simp
    clear hl
    go_enter Try.func64, Try.ntmps64
    go_wp2_with (first | (go_at_call 48; refine (vLeaf_any _ _ _ _ _ _ _).mono ?_; rintro e w3 ⟨rfl, hb3⟩; rw [HLB.out]; have B3 : Hid (Below w.heap.size w w3) := B0.out.trans (hb3.mono (by simp)); clear hb3))
    go_ret
    exact ⟨by rw [F.out]; rfl, B3.out⟩
  · have HLB : Hid (leafB ⟨a0, a1, a2, a3, a4, a5⟩ = true) := hl
    by_cases h1 : a1 = 1
    · have F : Hid (endB ⟨a0, a1, a2, a3, a4, a5⟩ = (a2 == 1)) := by show endB _ = _; unfold endB sentB; rw [hl]; by_cases q : a2 = 1 <;> simp [h1, q]
      have d : (a1 == 1) = true := by simp [h1]
      clear hl h1
      go_enter Try.func64, Try.ntmps64
      go_wp2_with (first | (go_at_call 48; refine (vLeaf_any _ _ _ _ _ _ _).mono ?_; rintro e w3 ⟨rfl, hb3⟩; rw [HLB.out]; have B3 : Hid (Below w.heap.size w w3) := B0.out.trans (hb3.mono (by simp)); obtain ⟨y0, y1, y2, y3, y4, y5⟩ := (X1.out w3 (by rw [World.size_alloc] at hb3; exact hb3)).c; clear hb3))
      go_ret
      exact ⟨by rw [F.out]; rfl, B3.out⟩
    · have F : Hid (endB ⟨a0, a1, a2, a3, a4, a5⟩ = false) := by show endB _ = _; unfold endB sentB; simp [h1]
      have d : (a1 == 1) = false := by simp [h1]
      clear hl h1
      go_enter Try.func64, Try.ntmps64
      go_wp2_with (first | (go_at_call 48; refine (vLeaf_any _ _ _ _ _ _ _).mono ?_; rintro e w3 ⟨rfl, hb3⟩; rw [HLB.out]; have B3 : Hid (Below w.heap.size w w3) := B0.out.trans (hb3.mono (by simp)); obtain ⟨y0, y1, y2, y3, y4, y5⟩ := (X1.out w3 (by rw [World.size_alloc] at hb3; exact hb3)).c; clear hb3))
      go_ret
      exact ⟨by rw [F.out]; rfl, B3.out⟩
/-- Root's answer of the reference: -1 where there is none. -/
noncomputable def vX (t : NL) : Int := if (rootR t).2 = 0 then (rootR t).1 else -1
set_option maxRecDepth 100000 in
set_option maxHeartbeats 4000000 in
theorem vRoot_any (base : Option Addr) (b o c : Nat) (t : NL) (w : World) (h : NodesAt w base b o t) (he : formE t = 0) :
    Calls Try.prog 39 #[.slice base t.length c] w fun e w' => e = .returned (.tuple #[.int .i64 (vX t), .bool (crB t)]) ∧ Below w.heap.size w w' := by
  have HA : Hid (NodesAt _ _ _ _ _) := h
  clear h
  obtain ⟨hbig, hf⟩ := formE_ok he
  have hpos := hf.pos
  obtain rfl : base = some ⟨b, o, none⟩ := HA.out.base (by omega)
  have hbl := HA.out.lt (by omega)
  have tp : (0 : Int) < (t.length : Int) := by omega
  obtain ⟨c0, c1, c2, c3, c4, c5⟩ := HA.out.cells 0 hpos
  simp only [Nat.zero_mul, Nat.add_zero] at c0 c1 c2 c3 c4 c5
  cases hl0 : leafB (ndAt t 0)
  · obtain ⟨l, r, hl, hr, hll, hrl⟩ := inner_lr hf hpos hl0
    have l0 : (0 : Int) ≤ (l : Int) := Int.natCast_nonneg _
    have l1 : (l : Int) < (t.length : Int) := by omega
    have r0' : (0 : Int) ≤ (r : Int) := Int.natCast_nonneg _
    have r1' : (r : Int) < (t.length : Int) := by omega
    have eL : (ndAt t 0).l.toNat = l := by rw [hl, Int.toNat_natCast]
    have eR : (ndAt t 0).r.toNat = r := by rw [hr, Int.toNat_natCast]
    rw [hl] at c4
    rw [hr] at c5
    have L0 : Hid (leafB ⟨(ndAt t 0).key, (ndAt t 0).inf, (ndAt t 0).wt, (ndAt t 0).val, (l : Int), (r : Int)⟩ = false) := by show leafB _ = _; rw [← hl, ← hr]; exact hl0
    have B01 : Hid (Below w.heap.size w (w.alloc (.cells #[.int .i64 (ndAt t 0).key, .int .i64 (ndAt t 0).inf, .int .i64 (ndAt t 0).wt, .int .i64 (ndAt t 0).val, .int .i64 (l : Int), .int .i64 (r : Int)] 54))) := below_alloc _ _
    have X1 : Hid (∀ z : World, Below (w.heap.size + 1) (w.alloc (.cells #[.int .i64 (ndAt t 0).key, .int .i64 (ndAt t 0).inf, .int .i64 (ndAt t 0).wt, .int .i64 (ndAt t 0).val, .int .i64 (l : Int), .int .i64 (r : Int)] 54)) z → Bx z w.heap.size ((ndAt t 0).key) ((ndAt t 0).inf) ((ndAt t 0).wt) ((ndAt t 0).val) (l : Int) (r : Int)) := fun z hz => (bx_new (heap_alloc_at _ _ _ rfl)).below (by rw [World.size_alloc]; exact hz)
    by_cases q1 : (ndAt t 0).inf = 1
    · have d1 : ((ndAt t 0).inf != 1) = false := by simp [q1]
      by_cases q2 : (ndAt t 0).wt = 1
      · have d2 : ((ndAt t 0).wt != 1) = false := by simp [q2]
        cases h3 : endB (ndAt t r)
        · have S0 : Hid (endB ⟨(ndAt t r).key, (ndAt t r).inf, (ndAt t r).wt, (ndAt t r).val, (ndAt t r).l, (ndAt t r).r⟩ = false) := h3
          have e0 : archB t 0 = false := by unfold archB; rw [eR, h3]; simp
          have HF : rootR t = (0, 3) := by unfold rootR; rw [if_neg (by simp [he]), if_pos e0]
          have VX : Hid (vX t = -1) := by show vX t = _; unfold vX; rw [HF]; rfl
          have CB : Hid (crB t = false) := by show crB t = _; unfold crB; rw [HF]; rfl
          clear HF
          clear he hf hl0 hl hr eL eR q1 q2 h3 e0
          go_enter Try.func39, Try.ntmps39
          go_wp2_with (first | (go_at_call 48; have hq := L0; refine (vLeaf_any _ _ _ _ _ _ _).mono ?_; rintro e w2 ⟨rfl, hb2⟩; rw [L0.out]; have B2 : Hid (Below w.heap.size w w2) := B01.out.trans (hb2.mono (by simp)); have z2 := B2.out.size; have Y2 : Hid (Bx _ _ _ _ _ _ _ _) := X1.out w2 (by rw [World.size_alloc] at hb2; exact hb2); obtain ⟨y0, y1, y2, y3, y4, y5⟩ := Y2.out.c; have yl := Y2.out.lt; obtain ⟨r0, r1, r2, r3, r4, r5⟩ := (HA.out.below B2.out).cells r hrl; have br2 : b < w2.heap.size := (by omega); clear hb2 hq L0 c0 c1 c2 c3 c4 c5) | (go_at_call 64; have hq := S0; refine (vSent_any _ _ _ _ _ _ _).mono ?_; rintro e w3 ⟨rfl, hb3⟩; rw [S0.out]; have B3 : Hid (Below w.heap.size w w3) := B2.out.trans (hb3.mono B2.out.size); have z3 := B3.out.size; have Y3 : Hid (Bx _ _ _ _ _ _ _ _) := Y2.out.below hb3; clear y0 y1 y2 y3 y4 y5 yl r0 r1 r2 r3 r4 r5; obtain ⟨y0, y1, y2, y3, y4, y5⟩ := Y3.out.c; have yl := Y3.out.lt; obtain ⟨m0, m1, m2, m3, m4, m5⟩ := (HA.out.below B3.out).cells l hll; have br3 : b < w3.heap.size := (by omega); clear hb3 hq S0))
          go_ret2
          exact ⟨by rw [VX.out, CB.out]; rfl, B3.out⟩
        · have S0 : Hid (endB ⟨(ndAt t r).key, (ndAt t r).inf, (ndAt t r).wt, (ndAt t r).val, (ndAt t r).l, (ndAt t r).r⟩ = true) := h3
          have e0 : archB t 0 = true := by unfold archB sentB; rw [eR, h3, hl0]; simp [q1, q2]
          cases h4 : endB (ndAt t l)
          · have S1 : Hid (endB ⟨(ndAt t l).key, (ndAt t l).inf, (ndAt t l).wt, (ndAt t l).val, (ndAt t l).l, (ndAt t l).r⟩ = false) := h4
            have g4 : ¬ endB (ndAt t l) = true := by simp [h4]
            have g0 : ¬ archB t 0 = false := by simp [e0]
            cases hl1 : leafB (ndAt t l)
            · obtain ⟨x, y, hx, hy, hxl, hyl⟩ := inner_lr hf hll hl1
              have x0 : (0 : Int) ≤ (x : Int) := Int.natCast_nonneg _
              have x1 : (x : Int) < (t.length : Int) := by omega
              have y0' : (0 : Int) ≤ (y : Int) := Int.natCast_nonneg _
              have y1' : (y : Int) < (t.length : Int) := by omega
              have eX : (ndAt t l).l.toNat = x := by rw [hx, Int.toNat_natCast]
              have eY : (ndAt t l).r.toNat = y := by rw [hy, Int.toNat_natCast]
              have HX4 : Hid ((ndAt t l).l = (x : Int)) := hx
              have HY4 : Hid ((ndAt t l).r = (y : Int)) := hy
              have L1 : Hid (leafB ⟨(ndAt t l).key, (ndAt t l).inf, (ndAt t l).wt, (ndAt t l).val, (x : Int), (y : Int)⟩ = false) := by show leafB _ = _; rw [← hx, ← hy]; exact hl1
              by_cases q3 : (ndAt t l).inf = 1
              · have d3 : ((ndAt t l).inf != 1) = false := by simp [q3]
                by_cases q4 : (ndAt t l).wt = 1
                · have d4 : ((ndAt t l).wt != 1) = false := by simp [q4]
                  cases h5 : endB (ndAt t y)
                  · have S2 : Hid (endB ⟨(ndAt t y).key, (ndAt t y).inf, (ndAt t y).wt, (ndAt t y).val, (ndAt t y).l, (ndAt t y).r⟩ = false) := h5
                    have e1 : archB t l = false := by unfold archB; rw [eY, h5]; simp
                    have HF : rootR t = (0, 3) := by unfold rootR; rw [if_neg (by simp [he]), if_neg g0, eL, if_neg g4, if_pos e1]
                    have VX : Hid (vX t = -1) := by show vX t = _; unfold vX; rw [HF]; rfl
                    have CB : Hid (crB t = false) := by show crB t = _; unfold crB; rw [HF]; rfl
                    clear HF
                    clear he hf hl0 hl1 hl hr eL eR eX eY q1 q2 h3 h4 e0 g4 g0 hx hy q3 q4 h5 e1
                    go_enter Try.func39, Try.ntmps39
                    go_wp2_with (first | (go_at_call 48; have hq := L0; refine (vLeaf_any _ _ _ _ _ _ _).mono ?_; rintro e w2 ⟨rfl, hb2⟩; rw [L0.out]; have B2 : Hid (Below w.heap.size w w2) := B01.out.trans (hb2.mono (by simp)); have z2 := B2.out.size; have Y2 : Hid (Bx _ _ _ _ _ _ _ _) := X1.out w2 (by rw [World.size_alloc] at hb2; exact hb2); obtain ⟨y0, y1, y2, y3, y4, y5⟩ := Y2.out.c; have yl := Y2.out.lt; obtain ⟨r0, r1, r2, r3, r4, r5⟩ := (HA.out.below B2.out).cells r hrl; have br2 : b < w2.heap.size := (by omega); clear hb2 hq L0 c0 c1 c2 c3 c4 c5) | (go_at_call 64; have hq := S0; refine (vSent_any _ _ _ _ _ _ _).mono ?_; rintro e w3 ⟨rfl, hb3⟩; rw [S0.out]; have B3 : Hid (Below w.heap.size w w3) := B2.out.trans (hb3.mono B2.out.size); have z3 := B3.out.size; have Y3 : Hid (Bx _ _ _ _ _ _ _ _) := Y2.out.below hb3; clear y0 y1 y2 y3 y4 y5 yl r0 r1 r2 r3 r4 r5; obtain ⟨y0, y1, y2, y3, y4, y5⟩ := Y3.out.c; have yl := Y3.out.lt; obtain ⟨m0, m1, m2, m3, m4, m5⟩ := (HA.out.below B3.out).cells l hll; have br3 : b < w3.heap.size := (by omega); clear hb3 hq S0) | (go_at_call 64; have hq := S1; refine (vSent_any _ _ _ _ _ _ _).mono ?_; rintro e w4 ⟨rfl, hb4⟩; rw [S1.out]; have B4 : Hid (Below w.heap.size w w4) := B3.out.trans (hb4.mono B3.out.size); have z4 := B4.out.size; have Y4 : Hid (Bx _ _ _ _ _ _ _ _) := Y3.out.below hb4; clear y0 y1 y2 y3 y4 y5 yl m0 m1 m2 m3 m4 m5; obtain ⟨y0, y1, y2, y3, y4, y5⟩ := Y4.out.c; have yl := Y4.out.lt; obtain ⟨m0, m1, m2, m3, m4, m5⟩ := (HA.out.below B4.out).cells l hll; have br4 : b < w4.heap.size := (by omega); rw [HX4.out] at m4; rw [HY4.out] at m5; clear hb4 hq S1) | (go_at_call 48; have hq := L1; refine (vLeaf_any _ _ _ _ _ _ _).mono ?_; rintro e w5 ⟨rfl, hb5⟩; rw [L1.out]; have B5 : Hid (Below w.heap.size w w5) := B4.out.trans (((below_alloc w4 _).trans (hb5.mono (by simp))).mono B4.out.size); have z5 := B5.out.size; have Y5 : Hid (Bx w5 w4.heap.size ((ndAt t l).key) ((ndAt t l).inf) ((ndAt t l).wt) ((ndAt t l).val) (x : Int) (y : Int)) := (bx_new (heap_alloc_at w4 _ _ rfl)).below hb5; clear y0 y1 y2 y3 y4 y5 yl m0 m1 m2 m3 m4 m5; obtain ⟨y0, y1, y2, y3, y4, y5⟩ := Y5.out.c; have yl := Y5.out.lt; obtain ⟨r0, r1, r2, r3, r4, r5⟩ := (HA.out.below B5.out).cells y hyl; have br5 : b < w5.heap.size := (by omega); clear hb5 hq L1) | (go_at_call 64; have hq := S2; refine (vSent_any _ _ _ _ _ _ _).mono ?_; rintro e w6 ⟨rfl, hb6⟩; rw [S2.out]; have B6 : Hid (Below w.heap.size w w6) := B5.out.trans (hb6.mono B5.out.size); have z6 := B6.out.size; have Y6 : Hid (Bx _ _ _ _ _ _ _ _) := Y5.out.below hb6; clear y0 y1 y2 y3 y4 y5 yl r0 r1 r2 r3 r4 r5; obtain ⟨y0, y1, y2, y3, y4, y5⟩ := Y6.out.c; have yl := Y6.out.lt; clear hb6 hq S2))
                    go_ret2
                    exact ⟨by rw [VX.out, CB.out]; rfl, B6.out⟩
                  · have S2 : Hid (endB ⟨(ndAt t y).key, (ndAt t y).inf, (ndAt t y).wt, (ndAt t y).val, (ndAt t y).l, (ndAt t y).r⟩ = true) := h5
                    have e1 : archB t l = true := by unfold archB sentB; rw [eY, h5, hl1]; simp [q3, q4]
                    obtain ⟨M, hM, hMN, hMl, hMa⟩ := form_at hf x hxl
                    have HM : Hid (Tree t x M) := hM
                    have HMP : Hid (0 < M.length) := hM.pos
                    have HMA : Hid (∀ z ∈ M, z < t.length) := hMa
                    have hM1 : M.length ≤ 100000 := by omega
                    have FY : Hid ((∀ k, k < M.length → (ndAt t (M.getD k 0)).inf = 0) → rootR t = ((x : Int), 0)) := by
                      intro q
                      show rootR t = _
                      unfold rootR
                      rw [if_neg (by simp [he]), if_neg g0, eL, if_neg g4, if_neg (by simp [e1]), eX, theL_of hM, if_pos, hx]
                      intro z hz
                      obtain ⟨k, hk, rfl⟩ := List.getElem_of_mem hz
                      have := q k hk
                      rwa [List.getD_eq_getElem?_getD, List.getElem?_eq_getElem hk] at this
                    have FN : Hid (∀ k, k < M.length → (ndAt t (M.getD k 0)).inf ≠ 0 → rootR t = (0, 3)) := by
                      intro k hk q
                      show rootR t = _
                      unfold rootR
                      rw [if_neg (by simp [he]), if_neg g0, eL, if_neg g4, if_neg (by simp [e1]), eX, theL_of hM, if_neg]
                      intro z
                      apply q
                      have := z (M[k]) (List.getElem_mem hk)
                      rwa [List.getD_eq_getElem?_getD, List.getElem?_eq_getElem hk]
                    clear he hf hl0 hl1 hl hr eL eR eX eY q1 q2 h3 h4 e0 g4 g0 hx hy q3 q4 h5 e1 hM hMN hMa
                    go_enter Try.func39, Try.ntmps39
                    go_wp2_with (first | (go_at_call 48; have hq := L0; refine (vLeaf_any _ _ _ _ _ _ _).mono ?_; rintro e w2 ⟨rfl, hb2⟩; rw [L0.out]; have B2 : Hid (Below w.heap.size w w2) := B01.out.trans (hb2.mono (by simp)); have z2 := B2.out.size; have Y2 : Hid (Bx _ _ _ _ _ _ _ _) := X1.out w2 (by rw [World.size_alloc] at hb2; exact hb2); obtain ⟨y0, y1, y2, y3, y4, y5⟩ := Y2.out.c; have yl := Y2.out.lt; obtain ⟨r0, r1, r2, r3, r4, r5⟩ := (HA.out.below B2.out).cells r hrl; have br2 : b < w2.heap.size := (by omega); clear hb2 hq L0 c0 c1 c2 c3 c4 c5) | (go_at_call 64; have hq := S0; refine (vSent_any _ _ _ _ _ _ _).mono ?_; rintro e w3 ⟨rfl, hb3⟩; rw [S0.out]; have B3 : Hid (Below w.heap.size w w3) := B2.out.trans (hb3.mono B2.out.size); have z3 := B3.out.size; have Y3 : Hid (Bx _ _ _ _ _ _ _ _) := Y2.out.below hb3; clear y0 y1 y2 y3 y4 y5 yl r0 r1 r2 r3 r4 r5; obtain ⟨y0, y1, y2, y3, y4, y5⟩ := Y3.out.c; have yl := Y3.out.lt; obtain ⟨m0, m1, m2, m3, m4, m5⟩ := (HA.out.below B3.out).cells l hll; have br3 : b < w3.heap.size := (by omega); clear hb3 hq S0) | (go_at_call 64; have hq := S1; refine (vSent_any _ _ _ _ _ _ _).mono ?_; rintro e w4 ⟨rfl, hb4⟩; rw [S1.out]; have B4 : Hid (Below w.heap.size w w4) := B3.out.trans (hb4.mono B3.out.size); have z4 := B4.out.size; have Y4 : Hid (Bx _ _ _ _ _ _ _ _) := Y3.out.below hb4; clear y0 y1 y2 y3 y4 y5 yl m0 m1 m2 m3 m4 m5; obtain ⟨y0, y1, y2, y3, y4, y5⟩ := Y4.out.c; have yl := Y4.out.lt; obtain ⟨m0, m1, m2, m3, m4, m5⟩ := (HA.out.below B4.out).cells l hll; have br4 : b < w4.heap.size := (by omega); rw [HX4.out] at m4; rw [HY4.out] at m5; clear hb4 hq S1) | (go_at_call 48; have hq := L1; refine (vLeaf_any _ _ _ _ _ _ _).mono ?_; rintro e w5 ⟨rfl, hb5⟩; rw [L1.out]; have B5 : Hid (Below w.heap.size w w5) := B4.out.trans (((below_alloc w4 _).trans (hb5.mono (by simp))).mono B4.out.size); have z5 := B5.out.size; have Y5 : Hid (Bx w5 w4.heap.size ((ndAt t l).key) ((ndAt t l).inf) ((ndAt t l).wt) ((ndAt t l).val) (x : Int) (y : Int)) := (bx_new (heap_alloc_at w4 _ _ rfl)).below hb5; clear y0 y1 y2 y3 y4 y5 yl m0 m1 m2 m3 m4 m5; obtain ⟨y0, y1, y2, y3, y4, y5⟩ := Y5.out.c; have yl := Y5.out.lt; obtain ⟨r0, r1, r2, r3, r4, r5⟩ := (HA.out.below B5.out).cells y hyl; have br5 : b < w5.heap.size := (by omega); clear hb5 hq L1) | (go_at_call 64; have hq := S2; refine (vSent_any _ _ _ _ _ _ _).mono ?_; rintro e w6 ⟨rfl, hb6⟩; rw [S2.out]; have B6 : Hid (Below w.heap.size w w6) := B5.out.trans (hb6.mono B5.out.size); have z6 := B6.out.size; have Y6 : Hid (Bx _ _ _ _ _ _ _ _) := Y5.out.below hb6; clear y0 y1 y2 y3 y4 y5 yl r0 r1 r2 r3 r4 r5; obtain ⟨y0, y1, y2, y3, y4, y5⟩ := Y6.out.c; have yl := Y6.out.lt; clear hb6 hq S2))
                    refine (vOrder_any _ b o c t x M _ (HA.out.below B6.out) HM.out (by omega)).mono ?_
                    rintro e w7 ⟨v7, rfl, ho7, hb7⟩
                    obtain ⟨bs7, cp7, g7, rfl, -, -, hp7⟩ := pls_of_owns ho7
                    have P7 : Hid (PlsAt _ _ _ _) := hp7
                    have B7 : Hid (Below w.heap.size w w7) := B6.out.trans (hb7.mono B6.out.size)
                    have Y7 : Hid (Bx _ _ _ _ _ _ _ _) := Y6.out.below hb7
                    clear ho7 hp7 hb7 y0 y1 y2 y3 y4 y5 yl
                    go_wp2_with fail
                    go_loopw [7] (fun i wr => ∃ m : Nat, m ≤ M.length ∧ i = .int .i64 m ∧ (∀ k, k < m → (ndAt t (M.getD k 0)).inf = 0) ∧ Below w7.heap.size w7 wr) (fun i _ => M.length - (intOf i).toNat)
                    case atStart => exact ⟨0, Nat.zero_le _, rfl, fun k hk => absurd hk (Nat.not_lt_zero _), Below.refl _ _⟩
                    case round =>
                      obtain ⟨m, hm, rfl, hall, hb⟩ := hrel
                      have HB : Hid (Below _ _ _) := hb
                      have HALL : Hid (∀ k, k < m → (ndAt t (M.getD k 0)).inf = 0) := hall
                      have hz := hb.size
                      have BW : Hid (Below w.heap.size w wr) := B7.out.trans (hb.mono B7.out.size)
                      have bl : b < wr.heap.size := by have := BW.out.size; omega
                      by_cases hlm : m < M.length
                      · obtain rfl : bs7 = some ⟨g7, 0, none⟩ := P7.out.base (by omega)
                        have hg7 := P7.out.lt (by omega)
                        have gl : g7 < wr.heap.size := (by omega)
                        have m0 : (0 : Int) ≤ (m : Int) := Int.natCast_nonneg _
                        have m1 : (m : Int) < (M.length : Int) := by omega
                        have e1 := (P7.out.below hb).cells m hlm
                        have hy : M.getD m 0 < t.length := HMA.out _ (by rw [List.getD_eq_getElem?_getD, List.getElem?_eq_getElem hlm]; exact List.getElem_mem hlm)
                        have e2 := ((HA.out.below BW.out).cells (M.getD m 0) hy).2.1
                        have HNO : Hid ((ndAt t (M.getD m 0)).inf ≠ 0 → rootR t = (0, 3)) := FN.out m hlm
                        have HYES : Hid ((ndAt t (M.getD m 0)).inf = 0 → ∀ k, k < m + 1 → (ndAt t (M.getD k 0)).inf = 0) := by
                          intro q k hk
                          by_cases e : k = m
                          · rw [e]; exact q
                          · exact HALL.out k (by omega)
                        generalize M.getD m 0 = u at *
                        have u0 : (0 : Int) ≤ (u : Int) := Int.natCast_nonneg _
                        have u1 : (u : Int) < (t.length : Int) := by omega
                        clear hall hb
                        generalize (ndAt t u).inf = k1 at *
                        by_cases g : k1 = 0
                        · have d : (k1 != 0) = false := by simp [g]
                          have HYY : Hid _ := HYES.out g
                          clear g HYES HNO
                          go_wp2_with fail
                          exact ⟨⟨m + 1, by omega, by go_num, HYY.out, HB.out⟩, by simp [intOf]; omega⟩
                        · have d : (k1 != 0) = true := by simp [g]
                          have HF := HNO.out g
                          have VX : Hid (vX t = -1) := by show vX t = _; unfold vX; rw [HF]; rfl
                          have CB : Hid (crB t = false) := by show crB t = _; unfold crB; rw [HF]; rfl
                          clear g HYES HNO HF
                          go_wp2_with fail
                          go_ret2
                          exact ⟨by rw [VX.out, CB.out]; rfl, BW.out⟩
                      · obtain rfl : m = M.length := by omega
                        have HF := FY.out hall
                        have VX : Hid (vX t = (x : Int)) := by show vX t = _; unfold vX; rw [HF]; rfl
                        have CB : Hid (crB t = true) := by show crB t = _; unfold crB; rw [HF]; rfl
                        have Y8 : Hid (Bx _ _ _ _ _ _ _ _) := Y7.out.below hb
                        obtain ⟨y0, y1, y2, y3, y4, y5⟩ := Y8.out.c
                        have yl := Y8.out.lt
                        clear hall hb HF
                        go_wp2_with fail
                        go_ret2
                        exact ⟨by rw [VX.out, CB.out]; rfl, BW.out⟩
                · have d4 : ((ndAt t l).wt != 1) = true := by simp [q4]
                  have e1 : archB t l = false := by unfold archB sentB; simp [q4]
                  have HF : rootR t = (0, 3) := by unfold rootR; rw [if_neg (by simp [he]), if_neg g0, eL, if_neg g4, if_pos e1]
                  have VX : Hid (vX t = -1) := by show vX t = _; unfold vX; rw [HF]; rfl
                  have CB : Hid (crB t = false) := by show crB t = _; unfold crB; rw [HF]; rfl
                  clear HF
                  clear he hf hl0 hl1 hl hr eL eR eX eY q1 q2 h3 h4 e0 g4 g0 hx hy q3 q4 e1
                  go_enter Try.func39, Try.ntmps39
                  go_wp2_with (first | (go_at_call 48; have hq := L0; refine (vLeaf_any _ _ _ _ _ _ _).mono ?_; rintro e w2 ⟨rfl, hb2⟩; rw [L0.out]; have B2 : Hid (Below w.heap.size w w2) := B01.out.trans (hb2.mono (by simp)); have z2 := B2.out.size; have Y2 : Hid (Bx _ _ _ _ _ _ _ _) := X1.out w2 (by rw [World.size_alloc] at hb2; exact hb2); obtain ⟨y0, y1, y2, y3, y4, y5⟩ := Y2.out.c; have yl := Y2.out.lt; obtain ⟨r0, r1, r2, r3, r4, r5⟩ := (HA.out.below B2.out).cells r hrl; have br2 : b < w2.heap.size := (by omega); clear hb2 hq L0 c0 c1 c2 c3 c4 c5) | (go_at_call 64; have hq := S0; refine (vSent_any _ _ _ _ _ _ _).mono ?_; rintro e w3 ⟨rfl, hb3⟩; rw [S0.out]; have B3 : Hid (Below w.heap.size w w3) := B2.out.trans (hb3.mono B2.out.size); have z3 := B3.out.size; have Y3 : Hid (Bx _ _ _ _ _ _ _ _) := Y2.out.below hb3; clear y0 y1 y2 y3 y4 y5 yl r0 r1 r2 r3 r4 r5; obtain ⟨y0, y1, y2, y3, y4, y5⟩ := Y3.out.c; have yl := Y3.out.lt; obtain ⟨m0, m1, m2, m3, m4, m5⟩ := (HA.out.below B3.out).cells l hll; have br3 : b < w3.heap.size := (by omega); clear hb3 hq S0) | (go_at_call 64; have hq := S1; refine (vSent_any _ _ _ _ _ _ _).mono ?_; rintro e w4 ⟨rfl, hb4⟩; rw [S1.out]; have B4 : Hid (Below w.heap.size w w4) := B3.out.trans (hb4.mono B3.out.size); have z4 := B4.out.size; have Y4 : Hid (Bx _ _ _ _ _ _ _ _) := Y3.out.below hb4; clear y0 y1 y2 y3 y4 y5 yl m0 m1 m2 m3 m4 m5; obtain ⟨y0, y1, y2, y3, y4, y5⟩ := Y4.out.c; have yl := Y4.out.lt; obtain ⟨m0, m1, m2, m3, m4, m5⟩ := (HA.out.below B4.out).cells l hll; have br4 : b < w4.heap.size := (by omega); rw [HX4.out] at m4; rw [HY4.out] at m5; clear hb4 hq S1) | (go_at_call 48; have hq := L1; refine (vLeaf_any _ _ _ _ _ _ _).mono ?_; rintro e w5 ⟨rfl, hb5⟩; rw [L1.out]; have B5 : Hid (Below w.heap.size w w5) := B4.out.trans (((below_alloc w4 _).trans (hb5.mono (by simp))).mono B4.out.size); have z5 := B5.out.size; have Y5 : Hid (Bx w5 w4.heap.size ((ndAt t l).key) ((ndAt t l).inf) ((ndAt t l).wt) ((ndAt t l).val) (x : Int) (y : Int)) := (bx_new (heap_alloc_at w4 _ _ rfl)).below hb5; clear y0 y1 y2 y3 y4 y5 yl m0 m1 m2 m3 m4 m5; obtain ⟨y0, y1, y2, y3, y4, y5⟩ := Y5.out.c; have yl := Y5.out.lt; obtain ⟨r0, r1, r2, r3, r4, r5⟩ := (HA.out.below B5.out).cells y hyl; have br5 : b < w5.heap.size := (by omega); clear hb5 hq L1))
                  go_ret2
                  exact ⟨by rw [VX.out, CB.out]; rfl, B5.out⟩
              · have d3 : ((ndAt t l).inf != 1) = true := by simp [q3]
                have e1 : archB t l = false := by unfold archB sentB; simp [q3]
                have HF : rootR t = (0, 3) := by unfold rootR; rw [if_neg (by simp [he]), if_neg g0, eL, if_neg g4, if_pos e1]
                have VX : Hid (vX t = -1) := by show vX t = _; unfold vX; rw [HF]; rfl
                have CB : Hid (crB t = false) := by show crB t = _; unfold crB; rw [HF]; rfl
                clear HF
                clear he hf hl0 hl1 hl hr eL eR eX eY q1 q2 h3 h4 e0 g4 g0 hx hy q3 e1
                go_enter Try.func39, Try.ntmps39
                go_wp2_with (first | (go_at_call 48; have hq := L0; refine (vLeaf_any _ _ _ _ _ _ _).mono ?_; rintro e w2 ⟨rfl, hb2⟩; rw [L0.out]; have B2 : Hid (Below w.heap.size w w2) := B01.out.trans (hb2.mono (by simp)); have z2 := B2.out.size; have Y2 : Hid (Bx _ _ _ _ _ _ _ _) := X1.out w2 (by rw [World.size_alloc] at hb2; exact hb2); obtain ⟨y0, y1, y2, y3, y4, y5⟩ := Y2.out.c; have yl := Y2.out.lt; obtain ⟨r0, r1, r2, r3, r4, r5⟩ := (HA.out.below B2.out).cells r hrl; have br2 : b < w2.heap.size := (by omega); clear hb2 hq L0 c0 c1 c2 c3 c4 c5) | (go_at_call 64; have hq := S0; refine (vSent_any _ _ _ _ _ _ _).mono ?_; rintro e w3 ⟨rfl, hb3⟩; rw [S0.out]; have B3 : Hid (Below w.heap.size w w3) := B2.out.trans (hb3.mono B2.out.size); have z3 := B3.out.size; have Y3 : Hid (Bx _ _ _ _ _ _ _ _) := Y2.out.below hb3; clear y0 y1 y2 y3 y4 y5 yl r0 r1 r2 r3 r4 r5; obtain ⟨y0, y1, y2, y3, y4, y5⟩ := Y3.out.c; have yl := Y3.out.lt; obtain ⟨m0, m1, m2, m3, m4, m5⟩ := (HA.out.below B3.out).cells l hll; have br3 : b < w3.heap.size := (by omega); clear hb3 hq S0) | (go_at_call 64; have hq := S1; refine (vSent_any _ _ _ _ _ _ _).mono ?_; rintro e w4 ⟨rfl, hb4⟩; rw [S1.out]; have B4 : Hid (Below w.heap.size w w4) := B3.out.trans (hb4.mono B3.out.size); have z4 := B4.out.size; have Y4 : Hid (Bx _ _ _ _ _ _ _ _) := Y3.out.below hb4; clear y0 y1 y2 y3 y4 y5 yl m0 m1 m2 m3 m4 m5; obtain ⟨y0, y1, y2, y3, y4, y5⟩ := Y4.out.c; have yl := Y4.out.lt; obtain ⟨m0, m1, m2, m3, m4, m5⟩ := (HA.out.below B4.out).cells l hll; have br4 : b < w4.heap.size := (by omega); rw [HX4.out] at m4; rw [HY4.out] at m5; clear hb4 hq S1) | (go_at_call 48; have hq := L1; refine (vLeaf_any _ _ _ _ _ _ _).mono ?_; rintro e w5 ⟨rfl, hb5⟩; rw [L1.out]; have B5 : Hid (Below w.heap.size w w5) := B4.out.trans (((below_alloc w4 _).trans (hb5.mono (by simp))).mono B4.out.size); have z5 := B5.out.size; have Y5 : Hid (Bx w5 w4.heap.size ((ndAt t l).key) ((ndAt t l).inf) ((ndAt t l).wt) ((ndAt t l).val) (x : Int) (y : Int)) := (bx_new (heap_alloc_at w4 _ _ rfl)).below hb5; clear y0 y1 y2 y3 y4 y5 yl m0 m1 m2 m3 m4 m5; obtain ⟨y0, y1, y2, y3, y4, y5⟩ := Y5.out.c; have yl := Y5.out.lt; obtain ⟨r0, r1, r2, r3, r4, r5⟩ := (HA.out.below B5.out).cells y hyl; have br5 : b < w5.heap.size := (by omega); clear hb5 hq L1))
                go_ret2
                exact ⟨by rw [VX.out, CB.out]; rfl, B5.out⟩
            · have L1 : Hid (leafB ⟨(ndAt t l).key, (ndAt t l).inf, (ndAt t l).wt, (ndAt t l).val, (ndAt t l).l, (ndAt t l).r⟩ = true) := hl1
              have e1 : archB t l = false := by unfold archB; rw [hl1]; simp
              have HF : rootR t = (0, 3) := by unfold rootR; rw [if_neg (by simp [he]), if_neg g0, eL, if_neg g4, if_pos e1]
              have VX : Hid (vX t = -1) := by show vX t = _; unfold vX; rw [HF]; rfl
              have CB : Hid (crB t = false) := by show crB t = _; unfold crB; rw [HF]; rfl
              clear HF
              clear he hf hl0 hl1 hl hr eL eR q1 q2 h3 h4 e0 g4 g0 e1
              go_enter Try.func39, Try.ntmps39
              go_wp2_with (first | (go_at_call 48; have hq := L0; refine (vLeaf_any _ _ _ _ _ _ _).mono ?_; rintro e w2 ⟨rfl, hb2⟩; rw [L0.out]; have B2 : Hid (Below w.heap.size w w2) := B01.out.trans (hb2.mono (by simp)); have z2 := B2.out.size; have Y2 : Hid (Bx _ _ _ _ _ _ _ _) := X1.out w2 (by rw [World.size_alloc] at hb2; exact hb2); obtain ⟨y0, y1, y2, y3, y4, y5⟩ := Y2.out.c; have yl := Y2.out.lt; obtain ⟨r0, r1, r2, r3, r4, r5⟩ := (HA.out.below B2.out).cells r hrl; have br2 : b < w2.heap.size := (by omega); clear hb2 hq L0 c0 c1 c2 c3 c4 c5) | (go_at_call 64; have hq := S0; refine (vSent_any _ _ _ _ _ _ _).mono ?_; rintro e w3 ⟨rfl, hb3⟩; rw [S0.out]; have B3 : Hid (Below w.heap.size w w3) := B2.out.trans (hb3.mono B2.out.size); have z3 := B3.out.size; have Y3 : Hid (Bx _ _ _ _ _ _ _ _) := Y2.out.below hb3; clear y0 y1 y2 y3 y4 y5 yl r0 r1 r2 r3 r4 r5; obtain ⟨y0, y1, y2, y3, y4, y5⟩ := Y3.out.c; have yl := Y3.out.lt; obtain ⟨m0, m1, m2, m3, m4, m5⟩ := (HA.out.below B3.out).cells l hll; have br3 : b < w3.heap.size := (by omega); clear hb3 hq S0) | (go_at_call 64; have hq := S1; refine (vSent_any _ _ _ _ _ _ _).mono ?_; rintro e w4 ⟨rfl, hb4⟩; rw [S1.out]; have B4 : Hid (Below w.heap.size w w4) := B3.out.trans (hb4.mono B3.out.size); have z4 := B4.out.size; have Y4 : Hid (Bx _ _ _ _ _ _ _ _) := Y3.out.below hb4; clear y0 y1 y2 y3 y4 y5 yl m0 m1 m2 m3 m4 m5; obtain ⟨y0, y1, y2, y3, y4, y5⟩ := Y4.out.c; have yl := Y4.out.lt; obtain ⟨m0, m1, m2, m3, m4, m5⟩ := (HA.out.below B4.out).cells l hll; have br4 : b < w4.heap.size := (by omega); clear hb4 hq S1) | (go_at_call 48; have hq := L1; refine (vLeaf_any _ _ _ _ _ _ _).mono ?_; rintro e w5 ⟨rfl, hb5⟩; rw [L1.out]; have B5 : Hid (Below w.heap.size w w5) := B4.out.trans (((below_alloc w4 _).trans (hb5.mono (by simp))).mono B4.out.size); have z5 := B5.out.size; have Y5 : Hid (Bx w5 w4.heap.size ((ndAt t l).key) ((ndAt t l).inf) ((ndAt t l).wt) ((ndAt t l).val) ((ndAt t l).l) ((ndAt t l).r)) := (bx_new (heap_alloc_at w4 _ _ rfl)).below hb5; clear y0 y1 y2 y3 y4 y5 yl m0 m1 m2 m3 m4 m5; obtain ⟨y0, y1, y2, y3, y4, y5⟩ := Y5.out.c; have yl := Y5.out.lt; clear hb5 hq L1))
              go_ret2
              exact ⟨by rw [VX.out, CB.out]; rfl, B5.out⟩
          · have S1 : Hid (endB ⟨(ndAt t l).key, (ndAt t l).inf, (ndAt t l).wt, (ndAt t l).val, (ndAt t l).l, (ndAt t l).r⟩ = true) := h4
            have HF : rootR t = (0, 4) := by unfold rootR; rw [if_neg (by simp [he]), if_neg (by simp [e0]), eL, if_pos h4]
            have VX : Hid (vX t = -1) := by show vX t = _; unfold vX; rw [HF]; rfl
            have CB : Hid (crB t = true) := by show crB t = _; unfold crB; rw [HF]; rfl
            clear HF
            clear he hf hl0 hl hr eL eR q1 q2 h3 h4 e0
            go_enter Try.func39, Try.ntmps39
            go_wp2_with (first | (go_at_call 48; have hq := L0; refine (vLeaf_any _ _ _ _ _ _ _).mono ?_; rintro e w2 ⟨rfl, hb2⟩; rw [L0.out]; have B2 : Hid (Below w.heap.size w w2) := B01.out.trans (hb2.mono (by simp)); have z2 := B2.out.size; have Y2 : Hid (Bx _ _ _ _ _ _ _ _) := X1.out w2 (by rw [World.size_alloc] at hb2; exact hb2); obtain ⟨y0, y1, y2, y3, y4, y5⟩ := Y2.out.c; have yl := Y2.out.lt; obtain ⟨r0, r1, r2, r3, r4, r5⟩ := (HA.out.below B2.out).cells r hrl; have br2 : b < w2.heap.size := (by omega); clear hb2 hq L0 c0 c1 c2 c3 c4 c5) | (go_at_call 64; have hq := S0; refine (vSent_any _ _ _ _ _ _ _).mono ?_; rintro e w3 ⟨rfl, hb3⟩; rw [S0.out]; have B3 : Hid (Below w.heap.size w w3) := B2.out.trans (hb3.mono B2.out.size); have z3 := B3.out.size; have Y3 : Hid (Bx _ _ _ _ _ _ _ _) := Y2.out.below hb3; clear y0 y1 y2 y3 y4 y5 yl r0 r1 r2 r3 r4 r5; obtain ⟨y0, y1, y2, y3, y4, y5⟩ := Y3.out.c; have yl := Y3.out.lt; obtain ⟨m0, m1, m2, m3, m4, m5⟩ := (HA.out.below B3.out).cells l hll; have br3 : b < w3.heap.size := (by omega); clear hb3 hq S0) | (go_at_call 64; have hq := S1; refine (vSent_any _ _ _ _ _ _ _).mono ?_; rintro e w4 ⟨rfl, hb4⟩; rw [S1.out]; have B4 : Hid (Below w.heap.size w w4) := B3.out.trans (hb4.mono B3.out.size); have z4 := B4.out.size; have Y4 : Hid (Bx _ _ _ _ _ _ _ _) := Y3.out.below hb4; clear y0 y1 y2 y3 y4 y5 yl m0 m1 m2 m3 m4 m5; obtain ⟨y0, y1, y2, y3, y4, y5⟩ := Y4.out.c; have yl := Y4.out.lt; obtain ⟨m0, m1, m2, m3, m4, m5⟩ := (HA.out.below B4.out).cells l hll; have br4 : b < w4.heap.size := (by omega); clear hb4 hq S1))
            go_ret2
            exact ⟨by rw [VX.out, CB.out]; rfl, B4.out⟩
      · have d2 : ((ndAt t 0).wt != 1) = true := by simp [q2]
        have e0 : archB t 0 = false := by unfold archB sentB; simp [q2]
        have HF : rootR t = (0, 3) := by unfold rootR; rw [if_neg (by simp [he]), if_pos e0]
        have VX : Hid (vX t = -1) := by show vX t = _; unfold vX; rw [HF]; rfl
        have CB : Hid (crB t = false) := by show crB t = _; unfold crB; rw [HF]; rfl
        clear HF
        clear he hf hl0 hl hr eL eR e0 q1 q2
        go_enter Try.func39, Try.ntmps39
        go_wp2_with (first | (go_at_call 48; have hq := L0; refine (vLeaf_any _ _ _ _ _ _ _).mono ?_; rintro e w2 ⟨rfl, hb2⟩; rw [L0.out]; have B2 : Hid (Below w.heap.size w w2) := B01.out.trans (hb2.mono (by simp)); have z2 := B2.out.size; have Y2 : Hid (Bx _ _ _ _ _ _ _ _) := X1.out w2 (by rw [World.size_alloc] at hb2; exact hb2); obtain ⟨y0, y1, y2, y3, y4, y5⟩ := Y2.out.c; have yl := Y2.out.lt; obtain ⟨r0, r1, r2, r3, r4, r5⟩ := (HA.out.below B2.out).cells r hrl; have br2 : b < w2.heap.size := (by omega); clear hb2 hq L0 c0 c1 c2 c3 c4 c5))
        go_ret2
        exact ⟨by rw [VX.out, CB.out]; rfl, B2.out⟩
    · have d1 : ((ndAt t 0).inf != 1) = true := by simp [q1]
      have e0 : archB t 0 = false := by unfold archB sentB; simp [q1]
      have HF : rootR t = (0, 3) := by unfold rootR; rw [if_neg (by simp [he]), if_pos e0]
      have VX : Hid (vX t = -1) := by show vX t = _; unfold vX; rw [HF]; rfl
      have CB : Hid (crB t = false) := by show crB t = _; unfold crB; rw [HF]; rfl
      clear HF
      clear he hf hl0 hl hr eL eR e0 q1
      go_enter Try.func39, Try.ntmps39
      go_wp2_with (first | (go_at_call 48; have hq := L0; refine (vLeaf_any _ _ _ _ _ _ _).mono ?_; rintro e w2 ⟨rfl, hb2⟩; rw [L0.out]; have B2 : Hid (Below w.heap.size w w2) := B01.out.trans (hb2.mono (by simp)); have z2 := B2.out.size; have Y2 : Hid (Bx _ _ _ _ _ _ _ _) := X1.out w2 (by rw [World.size_alloc] at hb2; exact hb2); obtain ⟨y0, y1, y2, y3, y4, y5⟩ := Y2.out.c; have yl := Y2.out.lt; obtain ⟨r0, r1, r2, r3, r4, r5⟩ := (HA.out.below B2.out).cells r hrl; have br2 : b < w2.heap.size := (by omega); clear hb2 hq L0 c0 c1 c2 c3 c4 c5))
      go_ret2
      exact ⟨by rw [VX.out, CB.out]; rfl, B2.out⟩
  · have L0 : Hid (leafB ⟨(ndAt t 0).key, (ndAt t 0).inf, (ndAt t 0).wt, (ndAt t 0).val, (ndAt t 0).l, (ndAt t 0).r⟩ = true) := hl0
    have B01 : Hid (Below w.heap.size w (w.alloc (.cells #[.int .i64 (ndAt t 0).key, .int .i64 (ndAt t 0).inf, .int .i64 (ndAt t 0).wt, .int .i64 (ndAt t 0).val, .int .i64 (ndAt t 0).l, .int .i64 (ndAt t 0).r] 54))) := below_alloc _ _
    have X1 : Hid (∀ z : World, Below (w.heap.size + 1) (w.alloc (.cells #[.int .i64 (ndAt t 0).key, .int .i64 (ndAt t 0).inf, .int .i64 (ndAt t 0).wt, .int .i64 (ndAt t 0).val, .int .i64 (ndAt t 0).l, .int .i64 (ndAt t 0).r] 54)) z → Bx z w.heap.size ((ndAt t 0).key) ((ndAt t 0).inf) ((ndAt t 0).wt) ((ndAt t 0).val) ((ndAt t 0).l) ((ndAt t 0).r)) := fun z hz => (bx_new (heap_alloc_at _ _ _ rfl)).below (by rw [World.size_alloc]; exact hz)
    have e0 : archB t 0 = false := by unfold archB; rw [hl0]; simp
    have HF : rootR t = (0, 3) := by unfold rootR; rw [if_neg (by simp [he]), if_pos e0]
    have VX : Hid (vX t = -1) := by show vX t = _; unfold vX; rw [HF]; rfl
    have CB : Hid (crB t = false) := by show crB t = _; unfold crB; rw [HF]; rfl
    clear HF
    clear he hf hl0 e0
    go_enter Try.func39, Try.ntmps39
    go_wp2_with (first | (go_at_call 48; have hq := L0; refine (vLeaf_any _ _ _ _ _ _ _).mono ?_; rintro e w2 ⟨rfl, hb2⟩; rw [L0.out]; have B2 : Hid (Below w.heap.size w w2) := B01.out.trans (hb2.mono (by simp)); have z2 := B2.out.size; have Y2 : Hid (Bx _ _ _ _ _ _ _ _) := X1.out w2 (by rw [World.size_alloc] at hb2; exact hb2); obtain ⟨y0, y1, y2, y3, y4, y5⟩ := Y2.out.c; have yl := Y2.out.lt; clear hb2 hq L0 c0 c1 c2 c3 c4 c5))
    go_ret2
    exact ⟨by rw [VX.out, CB.out]; rfl, B2.out⟩
end Go.Proofs.Ytiencggnijfjoaa
