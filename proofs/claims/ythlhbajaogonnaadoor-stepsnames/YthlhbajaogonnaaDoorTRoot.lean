
/- Layer 16: the root of the keys, and parts, of both. -/

import Derived.Test.YthlhbajaogonnaaDoorTNorm

import Derived.Test.YthlhbajaogonnaaDoorTBt

namespace Go.Proofs.YthlhbajaogonnaaDoor

open Go.RowKit

attribute [local go_sem ↓] Go.wp_at_zero Go.wp_at_succ

def sentB (n : NdD) : Bool := decide (n.inf = 1 ∧ n.wt = 1)
def endB (n : NdD) : Bool := sentB n && leafB n
def archB (t : NL) (p : Nat) : Bool := sentB (ndAt t p) && (!leafB (ndAt t p) && endB (ndAt t (ndAt t p).r.toNat))
open Classical in
/-- Root's answer: the place and the error. -/
noncomputable def rootR (t : NL) : Int × Int :=
  if formE t ≠ 0 then (0, formE t)
  else if archB t 0 = false then (0, 3)
  else if endB (ndAt t (ndAt t 0).l.toNat) = true then (0, 4)
  else if archB t (ndAt t 0).l.toNat = false then (0, 3)
  else if ∀ x ∈ theL t (ndAt t (ndAt t 0).l.toNat).l.toNat, (ndAt t x).inf = 0 then ((ndAt t (ndAt t 0).l.toNat).l, 0) else (0, 3)
noncomputable def crX (t : NL) : Int := if (rootR t).2 = 4 then -1 else (rootR t).1
noncomputable def crB (t : NL) : Bool := decide ((rootR t).2 ≠ 3)
theorem box6 {w : World} {b : Nat} {v0 v1 v2 v3 v4 v5 : Value} {T : TypeId} (h : w.heap[b]? = some (.cells #[v0, v1, v2, v3, v4, v5] T)) : b < w.heap.size ∧ w.cell? ⟨b, 0, none⟩ = some v0 ∧ w.cell? ⟨b, 1, none⟩ = some v1 ∧ w.cell? ⟨b, 2, none⟩ = some v2 ∧ w.cell? ⟨b, 3, none⟩ = some v3 ∧ w.cell? ⟨b, 4, none⟩ = some v4 ∧ w.cell? ⟨b, 5, none⟩ = some v5 := by
  refine ⟨(Array.getElem?_eq_some_iff.1 h).1, ?_, ?_, ?_, ?_, ?_, ?_⟩ <;> simp [World.cell?, h]
theorem inner_lr {t : NL} (hf : InForm t) {p : Nat} (hp : p < t.length) (h : leafB (ndAt t p) = false) : ∃ l r : Nat, (ndAt t p).l = (l : Int) ∧ (ndAt t p).r = (r : Int) ∧ l < t.length ∧ r < t.length := by
  rcases (hf.good.node p hp).1 with ⟨h1, h2⟩ | h1
  · rw [leafB_yes h1 h2] at h; cases h
  · exact ⟨(ndAt t p).l.toNat, (ndAt t p).r.toNat, by omega, by omega, by omega, by omega⟩
theorem leaf_lr {t : NL} (hf : InForm t) {p : Nat} (hp : p < t.length) : (ndAt t p).l = -1 → (ndAt t p).r = -1 := by
  intro h
  rcases (hf.good.node p hp).1 with ⟨h1, h2⟩ | h1
  · exact h2
  · omega
theorem leafB_r {t : NL} (hf : InForm t) {p : Nat} (hp : p < t.length) : rleafB (ndAt t p) = leafB (ndAt t p) := by
  by_cases h : (ndAt t p).l = -1
  · rw [rleafB_yes h, leafB_yes h (leaf_lr hf hp h)]
  · rw [rleafB_no h, leafB_no h]
theorem sent_tt {n : NdD} (h1 : n.inf = 1) (h2 : n.wt = 1) : sentB n = true := by simp [sentB, h1, h2]
set_option maxRecDepth 100000 in
theorem isSentinel_any (a0 a1 a2 a3 a4 a5 : Int) (w : World) :
    Calls Tryd.prog 47 #[.agg #[.int .i64 a0, .int .i64 a1, .int .i64 a2, .int .i64 a3, .int .i64 a4, .int .i64 a5]] w fun e w' => e = .returned (.bool (sentB ⟨a0, a1, a2, a3, a4, a5⟩)) ∧ Below w.heap.size w w' := by
  by_cases h1 : a1 = 1
  · by_cases h2 : a2 = 1
    · have F : Hid (sentB ⟨a0, a1, a2, a3, a4, a5⟩ = true) := sent_tt h1 h2
      subst h1 h2
      go_enter Tryd.func47, Tryd.ntmps47
      go_wp2
      go_ret
      exact ⟨by rw [F.out]; rfl, below_alloc _ _⟩
    · have F : Hid (sentB ⟨a0, a1, a2, a3, a4, a5⟩ = false) := by show sentB _ = _; simp [sentB, h2]
      subst h1
      have hd : (a2 == 1) = false := by simp [h2]
      go_enter Tryd.func47, Tryd.ntmps47
      go_wp2
      go_ret
      exact ⟨by rw [F.out]; rfl, below_alloc _ _⟩
  · have F : Hid (sentB ⟨a0, a1, a2, a3, a4, a5⟩ = false) := by show sentB _ = _; simp [sentB, h1]
    have hd : (a1 == 1) = false := by simp [h1]
    go_enter Tryd.func47, Tryd.ntmps47
    go_wp2
    go_ret
    exact ⟨by rw [F.out]; rfl, below_alloc _ _⟩
set_option maxRecDepth 100000 in
theorem isEnd_any (a0 a1 a2 a3 a4 a5 : Int) (w : World) :
    Calls Tryd.prog 45 #[.agg #[.int .i64 a0, .int .i64 a1, .int .i64 a2, .int .i64 a3, .int .i64 a4, .int .i64 a5]] w fun e w' => e = .returned (.bool (endB ⟨a0, a1, a2, a3, a4, a5⟩)) ∧ Below w.heap.size w w' := by
  have HF : Hid (endB ⟨a0, a1, a2, a3, a4, a5⟩ = (sentB ⟨a0, a1, a2, a3, a4, a5⟩ && leafB ⟨a0, a1, a2, a3, a4, a5⟩)) := rfl
  cases hs : sentB ⟨a0, a1, a2, a3, a4, a5⟩
  all_goals
    have HS : Hid _ := hs
    rw [hs] at HF
    clear hs
    go_enter Tryd.func45, Tryd.ntmps45
    go_wp2_with (first | (go_at_call 47; refine (isSentinel_any _ _ _ _ _ _ _).mono ?_; rintro e w1 ⟨rfl, hb1⟩; rw [HS.out]; obtain ⟨q, q0, q1, q2, q3, q4, q5⟩ := box6 ((hb1.block w.heap.size (by simp)).trans (heap_alloc_at _ _ _ rfl)); have B1 : Hid (Below w.heap.size w w1) := (below_alloc w _).trans (hb1.mono (by simp)); clear hb1) | (go_at_call 43; refine (isLeaf_any _ _ _ _ _ _ _).mono ?_; rintro e w2 ⟨rfl, hb2⟩; have B2 : Hid (Below w.heap.size w w2) := B1.out.trans (hb2.mono B1.out.size); clear hb2))
    go_ret
    exact ⟨by rw [HF.out]; rfl, by first | exact B2.out | exact B1.out⟩
set_option maxRecDepth 100000 in
theorem isArch_any (b o c : Nat) (t : NL) (p : Nat) (w : World) (h : NodesAt w (some ⟨b, o, none⟩) b o t) (hf : InForm t) (hp : p < t.length) :
    Calls Tryd.prog 44 #[.slice (some ⟨b, o, none⟩) t.length c, .int .i64 (p : Int)] w fun e w' => e = .returned (.bool (archB t p)) ∧ Below w.heap.size w w' := by
  have HA : Hid (NodesAt _ _ _ _ _) := h
  have hbl := h.lt (by omega)
  have p0 : (0 : Int) ≤ (p : Int) := Int.natCast_nonneg _
  have p1 : (p : Int) < (t.length : Int) := by omega
  obtain ⟨c0, c1, c2, c3, c4, c5⟩ := h.cells p hp
  have HF : Hid (archB t p = (sentB (ndAt t p) && (!leafB (ndAt t p) && endB (ndAt t (ndAt t p).r.toNat)))) := rfl
  cases hs : sentB (ndAt t p)
  · have HS : Hid (sentB ⟨(ndAt t p).key, (ndAt t p).inf, (ndAt t p).wt, (ndAt t p).val, (ndAt t p).l, (ndAt t p).r⟩ = false) := hs
    rw [hs] at HF
    clear hs h
    go_enter Tryd.func44, Tryd.ntmps44
    go_wp2_with (first | (go_at_call 47; refine (isSentinel_any _ _ _ _ _ _ _).mono ?_; rintro e w1 ⟨rfl, hb1⟩; rw [HS.out]; have HBX : Hid _ := (hb1.block w.heap.size (by simp)).trans (heap_alloc_at _ _ _ rfl); obtain ⟨q, q0, q1, q2, q3, q4, q5⟩ := box6 HBX.out; have B1 : Hid (Below w.heap.size w w1) := (below_alloc w _).trans (hb1.mono (by simp)); have hz1 := hb1.size; simp only [World.size_alloc] at hz1; clear hb1))
    go_ret
    exact ⟨by rw [HF.out]; rfl, B1.out⟩
  · have HS : Hid (sentB ⟨(ndAt t p).key, (ndAt t p).inf, (ndAt t p).wt, (ndAt t p).val, (ndAt t p).l, (ndAt t p).r⟩ = true) := hs
    rw [hs] at HF
    clear hs
    cases hl : leafB (ndAt t p)
    · have HLF : Hid (leafB ⟨(ndAt t p).key, (ndAt t p).inf, (ndAt t p).wt, (ndAt t p).val, (ndAt t p).l, (ndAt t p).r⟩ = false) := hl
      rw [hl] at HF
      obtain ⟨l, r, hl', hr', hll, hrl⟩ := inner_lr hf hp hl
      rw [hr', Int.toNat_natCast] at HF
      have r0 : (0 : Int) ≤ (r : Int) := Int.natCast_nonneg _
      have r1 : (r : Int) < (t.length : Int) := by omega
      have HR : Hid _ := hr'
      clear hl h hl' hr'
      go_enter Tryd.func44, Tryd.ntmps44
      go_wp2_with (first | (go_at_call 47; refine (isSentinel_any _ _ _ _ _ _ _).mono ?_; rintro e w1 ⟨rfl, hb1⟩; rw [HS.out]; have HBX : Hid _ := (hb1.block w.heap.size (by simp)).trans (heap_alloc_at _ _ _ rfl); obtain ⟨q, q0, q1, q2, q3, q4, q5⟩ := box6 HBX.out; have B1 : Hid (Below w.heap.size w w1) := (below_alloc w _).trans (hb1.mono (by simp)); have hz1 := hb1.size; simp only [World.size_alloc] at hz1; clear hb1) | (go_at_call 43; have hq := B1; refine (isLeaf_any _ _ _ _ _ _ _).mono ?_; rintro e w2 ⟨rfl, hb2⟩; rw [HLF.out]; obtain ⟨q, q0, q1, q2, q3, q4, q5⟩ := box6 ((hb2.block w.heap.size (by omega)).trans HBX.out); rw [HR.out] at q5; have B2 : Hid (Below w.heap.size w w2) := B1.out.trans (hb2.mono B1.out.size); obtain ⟨d0, d1, d2, d3, d4, d5⟩ := (HA.out.below B2.out).cells r hrl; clear hb2) | (go_at_call 45; refine (isEnd_any _ _ _ _ _ _ _).mono ?_; rintro e w3 ⟨rfl, hb3⟩; have B3 : Hid (Below w.heap.size w w3) := B2.out.trans (hb3.mono B2.out.size); clear hb3))
      go_ret
      exact ⟨by rw [HF.out]; rfl, B3.out⟩
    · have HLF : Hid (leafB ⟨(ndAt t p).key, (ndAt t p).inf, (ndAt t p).wt, (ndAt t p).val, (ndAt t p).l, (ndAt t p).r⟩ = true) := hl
      rw [hl] at HF
      clear hl h
      go_enter Tryd.func44, Tryd.ntmps44
      go_wp2_with (first | (go_at_call 47; refine (isSentinel_any _ _ _ _ _ _ _).mono ?_; rintro e w1 ⟨rfl, hb1⟩; rw [HS.out]; have HBX : Hid _ := (hb1.block w.heap.size (by simp)).trans (heap_alloc_at _ _ _ rfl); obtain ⟨q, q0, q1, q2, q3, q4, q5⟩ := box6 HBX.out; have B1 : Hid (Below w.heap.size w w1) := (below_alloc w _).trans (hb1.mono (by simp)); have hz1 := hb1.size; simp only [World.size_alloc] at hz1; clear hb1) | (go_at_call 43; refine (isLeaf_any _ _ _ _ _ _ _).mono ?_; rintro e w2 ⟨rfl, hb2⟩; rw [HLF.out]; have B2 : Hid (Below w.heap.size w w2) := B1.out.trans (hb2.mono B1.out.size); clear hb2))
      go_ret
      exact ⟨by rw [HF.out]; rfl, B2.out⟩
set_option maxRecDepth 100000 in
set_option maxHeartbeats 1000000 in
theorem Root_any (base : Option Addr) (b o c : Nat) (t : NL) (w : World) (h : NodesAt w base b o t) :
    Calls Tryd.prog 36 #[.slice base t.length c] w fun e w' => e = .returned (.tuple #[.int .i64 (rootR t).1, .int .i64 (rootR t).2]) ∧ Below w.heap.size w w' := by
  have HA : Hid (NodesAt _ _ _ _ _) := h
  clear h
  by_cases he : formE t = 0
  · obtain ⟨hbig, hf⟩ := formE_ok he
    have hpos := hf.pos
    obtain rfl : base = some ⟨b, o, none⟩ := HA.out.base (by omega)
    have hbl := HA.out.lt (by omega)
    have HE : Hid (formE t = 0) := he
    have HIF : Hid (InForm t) := hf
    have B0 : Hid (Below w.heap.size w w) := Below.refl _ _
    have tp : (0 : Int) < (t.length : Int) := by omega
    cases ha : archB t 0
    · have A0 : Hid _ := ha
      have F : Hid (rootR t = (0, 3)) := by show rootR t = _; unfold rootR; rw [if_neg (by simp [he]), if_pos ha]
      clear ha he hf
      go_enter Tryd.func36, Tryd.ntmps36
      go_wp2_with (first | (go_at_call 34; refine (check_any _ b o c t _ HA.out).mono ?_; rintro e w1 ⟨rfl, hb1⟩; rw [HE.out]; have B1 : Hid (Below w.heap.size w w1) := hb1; have hz1 := hb1.size; clear hb1) | (go_at_call 44; have hq := A0; refine (isArch_any b o c t 0 _ (HA.out.below B1.out) HIF.out hpos).mono ?_; rintro e w2 ⟨rfl, hb2⟩; rw [A0.out]; have B2 : Hid (Below w.heap.size w w2) := B1.out.trans (hb2.mono B1.out.size); have hz2 := B2.out.size; clear hb2 hq A0))
      go_ret2
      exact ⟨by rw [F.out]; rfl, B2.out⟩
    · have A0 : Hid _ := ha
      have hlf : leafB (ndAt t 0) = false := by
        unfold archB at ha
        cases q : leafB (ndAt t 0)
        · rfl
        · rw [q] at ha; simp at ha
      obtain ⟨l, r, hl', hr', hll, hrl⟩ := inner_lr hf hpos hlf
      have HL0 : Hid _ := hl'
      have HLL : Hid _ := leaf_lr hf hll
      have l0 : (0 : Int) ≤ (l : Int) := Int.natCast_nonneg _
      have l1 : (l : Int) < (t.length : Int) := by omega
      have eL : (ndAt t 0).l.toNat = l := by rw [hl', Int.toNat_natCast]
      cases hb : endB (ndAt t l)
      · have A1 : Hid (endB ⟨(ndAt t l).key, (ndAt t l).inf, (ndAt t l).wt, (ndAt t l).val, (ndAt t l).l, (ndAt t l).r⟩ = false) := hb
        cases hc : archB t l
        · have A2 : Hid _ := hc
          have F : Hid (rootR t = (0, 3)) := by show rootR t = _; unfold rootR; rw [if_neg (by simp [he]), if_neg (by simp [ha]), eL, if_neg (by simp [hb]), if_pos hc]
          clear ha he hf hb hc hl' hr' hlf eL
          go_enter Tryd.func36, Tryd.ntmps36
          go_wp2_with (first | (go_at_call 34; refine (check_any _ b o c t _ HA.out).mono ?_; rintro e w1 ⟨rfl, hb1⟩; rw [HE.out]; have B1 : Hid (Below w.heap.size w w1) := hb1; have hz1 := hb1.size; clear hb1) | (go_at_call 44; have hq := A0; refine (isArch_any b o c t 0 _ (HA.out.below B1.out) HIF.out hpos).mono ?_; rintro e w2 ⟨rfl, hb2⟩; rw [A0.out]; have B2 : Hid (Below w.heap.size w w2) := B1.out.trans (hb2.mono B1.out.size); have hz2 := B2.out.size; have f4 : w2.cell? ⟨b, o + 4, none⟩ = some (.int .i64 (l : Int)) := (by have := ((HA.out.below B2.out).cells 0 hpos).2.2.2.2.1; rw [HL0.out] at this; simpa using this); obtain ⟨d0, d1, d2, d3, d4, d5⟩ := (HA.out.below B2.out).cells l hll; clear hb2 hq A0) | (go_at_call 45; refine (isEnd_any _ _ _ _ _ _ _).mono ?_; rintro e w3 ⟨rfl, hb3⟩; rw [A1.out]; have B3 : Hid (Below w.heap.size w w3) := B2.out.trans (hb3.mono B2.out.size); have hz3 := B3.out.size; clear hb3) | (go_at_call 44; have hq := B3; refine (isArch_any b o c t l _ (HA.out.below B3.out) HIF.out hll).mono ?_; rintro e w4 ⟨rfl, hb4⟩; rw [A2.out]; have B4 : Hid (Below w.heap.size w w4) := B3.out.trans (hb4.mono B3.out.size); have hz4 := B4.out.size; clear hb4))
          go_ret2
          exact ⟨by rw [F.out]; rfl, B4.out⟩
        · have A2 : Hid _ := hc
          have hlf2 : leafB (ndAt t l) = false := by
            unfold archB at hc
            cases q : leafB (ndAt t l)
            · rfl
            · rw [q] at hc; simp at hc
          obtain ⟨x, y, hx', hy', hxl, hyl⟩ := inner_lr hf hll hlf2
          have HX : Hid _ := hx'
          have x0 : (0 : Int) ≤ (x : Int) := Int.natCast_nonneg _
          have x1 : (x : Int) < (t.length : Int) := by omega
          obtain ⟨M, hM, hMN, hMl, hMa⟩ := form_at hf x hxl
          have HM : Hid (Tree t x M) := hM
          have HMP : Hid (0 < M.length) := hM.pos
          have HMA : Hid _ := hMa
          have eX : (ndAt t l).l.toNat = x := by rw [hx', Int.toNat_natCast]
          have FY : Hid ((∀ k, k < M.length → (ndAt t (M.getD k 0)).inf = 0) → rootR t = ((x : Int), 0)) := by
            intro q
            show rootR t = _
            unfold rootR
            rw [if_neg (by simp [he]), if_neg (by simp [ha]), eL, if_neg (by simp [hb]), if_neg (by simp [hc]), eX, theL_of hM, if_pos, hx']
            intro z hz
            obtain ⟨k, hk, rfl⟩ := List.getElem_of_mem hz
            have := q k hk
            rwa [List.getD_eq_getElem?_getD, List.getElem?_eq_getElem hk] at this
          have FN : Hid (∀ k, k < M.length → (ndAt t (M.getD k 0)).inf ≠ 0 → rootR t = (0, 3)) := by
            intro k hk q
            show rootR t = _
            unfold rootR
            rw [if_neg (by simp [he]), if_neg (by simp [ha]), eL, if_neg (by simp [hb]), if_neg (by simp [hc]), eX, theL_of hM, if_neg]
            intro z
            apply q
            have := z (M[k]) (List.getElem_mem hk)
            rwa [List.getD_eq_getElem?_getD, List.getElem?_eq_getElem hk]
          clear ha he hf hb hc hl' hr' hlf eL hlf2 hx' hy' hM hMN hMa eX
          go_enter Tryd.func36, Tryd.ntmps36
          go_wp2_with (first | (go_at_call 34; refine (check_any _ b o c t _ HA.out).mono ?_; rintro e w1 ⟨rfl, hb1⟩; rw [HE.out]; have B1 : Hid (Below w.heap.size w w1) := hb1; have hz1 := hb1.size; clear hb1) | (go_at_call 44; have hq := A0; refine (isArch_any b o c t 0 _ (HA.out.below B1.out) HIF.out hpos).mono ?_; rintro e w2 ⟨rfl, hb2⟩; rw [A0.out]; have B2 : Hid (Below w.heap.size w w2) := B1.out.trans (hb2.mono B1.out.size); have hz2 := B2.out.size; have f4 : w2.cell? ⟨b, o + 4, none⟩ = some (.int .i64 (l : Int)) := (by have := ((HA.out.below B2.out).cells 0 hpos).2.2.2.2.1; rw [HL0.out] at this; simpa using this); obtain ⟨d0, d1, d2, d3, d4, d5⟩ := (HA.out.below B2.out).cells l hll; clear hb2 hq A0) | (go_at_call 45; refine (isEnd_any _ _ _ _ _ _ _).mono ?_; rintro e w3 ⟨rfl, hb3⟩; rw [A1.out]; have B3 : Hid (Below w.heap.size w w3) := B2.out.trans (hb3.mono B2.out.size); have hz3 := B3.out.size; clear hb3) | (go_at_call 44; have hq := B3; refine (isArch_any b o c t l _ (HA.out.below B3.out) HIF.out hll).mono ?_; rintro e w4 ⟨rfl, hb4⟩; rw [A2.out]; have B4 : Hid (Below w.heap.size w w4) := B3.out.trans (hb4.mono B3.out.size); have hz4 := B4.out.size; have f5 : w4.cell? ⟨b, o + l * 6 + 4, none⟩ = some (.int .i64 (x : Int)) := (by have := ((HA.out.below B4.out).cells l hll).2.2.2.2.1; rwa [HX.out] at this); clear hb4) | (go_at_call 42; refine (order_any _ b o c t x M _ (HA.out.below B4.out) HM.out (by omega)).mono ?_; rintro e w5 ⟨v5, rfl, ho5, hb5⟩; obtain ⟨g5, c5, rfl, hg5, hgl5, -, -, hc5, -⟩ := owns_some ho5 HMP.out; have RW : Hid (∀ k, k < M.length → w5.cell? ⟨g5, k, none⟩ = some (.int .i64 ((M.getD k 0 : Nat) : Int))) := fun k hk => (hc5 k (by omega)).trans (natC_get M k hk); have B5 : Hid (Below w.heap.size w w5) := B4.out.trans (hb5.mono B4.out.size); have hz5 := B5.out.size; clear hb5 ho5 hc5))
          go_loopw [39] (fun i wr => ∃ m : Nat, m ≤ M.length ∧ i = .int .i64 m ∧ (∀ k, k < m → (ndAt t (M.getD k 0)).inf = 0) ∧ Below w5.heap.size w5 wr) (fun i _ => M.length - (intOf i).toNat)
          case atStart => exact ⟨0, Nat.zero_le _, rfl, fun k hk => absurd hk (Nat.not_lt_zero _), Below.refl _ _⟩
          case round =>
            obtain ⟨m, hm, rfl, hall, hb⟩ := hrel
            have HB : Hid (Below _ _ _) := hb
            have HALL : Hid _ := hall
            have hz := hb.size
            have gl : g5 < wr.heap.size := by omega
            have bl : b < wr.heap.size := by omega
            have BW : Hid (Below w.heap.size w wr) := B5.out.trans (hb.mono B5.out.size)
            by_cases hlm : m < M.length
            · have m0 : (0 : Int) ≤ (m : Int) := Int.natCast_nonneg _
              have m1 : (m : Int) < (M.length : Int) := by omega
              have e1 := (hb.cell (p := ⟨g5, m, none⟩) hgl5).trans (RW.out m hlm)
              have hy : M.getD m 0 < t.length := HMA.out _ (by rw [List.getD_eq_getElem?_getD, List.getElem?_eq_getElem hlm]; exact List.getElem_mem hlm)
              have e2 := ((HA.out.below BW.out).cells (M.getD m 0) hy).2.1
              have HNO : Hid _ := FN.out m hlm
              have HYES : Hid ((ndAt t (M.getD m 0)).inf = 0 → ∀ k, k < m + 1 → (ndAt t (M.getD k 0)).inf = 0) := by
                intro q k hk
                by_cases e : k = m
                · rw [e]; exact q
                · exact HALL.out k (by omega)
              generalize M.getD m 0 = y at *
              have y0 : (0 : Int) ≤ (y : Int) := Int.natCast_nonneg _
              have y1 : (y : Int) < (t.length : Int) := by omega
              clear hall hb
              generalize (ndAt t y).inf = k1 at *
              by_cases g : k1 = 0
              · have d : (k1 != 0) = false := by simp [g]
                have HYY : Hid _ := HYES.out g
                clear g HYES HNO
                go_wp2_with fail
                exact ⟨⟨m + 1, by omega, by go_num, HYY.out, HB.out⟩, by simp [intOf]; omega⟩
              · have d : (k1 != 0) = true := by simp [g]
                have F : Hid _ := HNO.out g
                clear g HYES HNO
                go_wp2_with fail
                go_ret2
                exact ⟨by rw [F.out]; rfl, BW.out⟩
            · obtain rfl : m = M.length := by omega
              have F : Hid _ := FY.out hall
              clear hall hb
              go_wp2_with fail
              go_ret2
              exact ⟨by rw [F.out]; rfl, BW.out⟩
      · have A1 : Hid (endB ⟨(ndAt t l).key, (ndAt t l).inf, (ndAt t l).wt, (ndAt t l).val, (ndAt t l).l, (ndAt t l).r⟩ = true) := hb
        have F : Hid (rootR t = (0, 4)) := by show rootR t = _; unfold rootR; rw [if_neg (by simp [he]), if_neg (by simp [ha]), eL, if_pos hb]
        clear ha he hf hb hl' hr' hlf eL
        go_enter Tryd.func36, Tryd.ntmps36
        go_wp2_with (first | (go_at_call 34; refine (check_any _ b o c t _ HA.out).mono ?_; rintro e w1 ⟨rfl, hb1⟩; rw [HE.out]; have B1 : Hid (Below w.heap.size w w1) := hb1; have hz1 := hb1.size; clear hb1) | (go_at_call 44; have hq := A0; refine (isArch_any b o c t 0 _ (HA.out.below B1.out) HIF.out hpos).mono ?_; rintro e w2 ⟨rfl, hb2⟩; rw [A0.out]; have B2 : Hid (Below w.heap.size w w2) := B1.out.trans (hb2.mono B1.out.size); have hz2 := B2.out.size; have f4 : w2.cell? ⟨b, o + 4, none⟩ = some (.int .i64 (l : Int)) := (by have := ((HA.out.below B2.out).cells 0 hpos).2.2.2.2.1; rw [HL0.out] at this; simpa using this); obtain ⟨d0, d1, d2, d3, d4, d5⟩ := (HA.out.below B2.out).cells l hll; clear hb2 hq A0) | (go_at_call 45; refine (isEnd_any _ _ _ _ _ _ _).mono ?_; rintro e w3 ⟨rfl, hb3⟩; rw [A1.out]; have B3 : Hid (Below w.heap.size w w3) := B2.out.trans (hb3.mono B2.out.size); have hz3 := B3.out.size; clear hb3))
        go_ret2
        exact ⟨by rw [F.out]; rfl, B3.out⟩
  · have F : Hid (rootR t = (0, formE t)) := by show rootR t = _; unfold rootR; rw [if_pos he]
    obtain ⟨e1, e2⟩ := e_ne he
    clear he
    go_enter Tryd.func36, Tryd.ntmps36
    go_wp2_with (first | (go_at_call 34; refine (check_any _ b o c t _ HA.out).mono ?_; rintro e w1 ⟨rfl, hb1⟩; have HB1 : Hid _ := hb1; clear hb1))
    go_ret2
    exact ⟨by rw [F.out]; rfl, HB1.out⟩
theorem rootR_cases {t : NL} (he : formE t = 0) : rootR t = (0, 3) ∨ rootR t = (0, 4) ∨ ∃ x : Nat, rootR t = ((x : Int), 0) ∧ x < t.length := by
  obtain ⟨-, hf⟩ := formE_ok he
  unfold rootR
  rw [if_neg (by simp [he])]
  split
  · exact Or.inl rfl
  · rename_i h1
    split
    · exact Or.inr (Or.inl rfl)
    · split
      · exact Or.inl rfl
      · rename_i h2 h3
        split
        · refine Or.inr (Or.inr ?_)
          have k1 : leafB (ndAt t 0) = false := by
            unfold archB at h1
            cases q : leafB (ndAt t 0)
            · rfl
            · rw [q] at h1; simp at h1
          obtain ⟨l, r, hl', hr', hll, hrl⟩ := inner_lr hf hf.pos k1
          rw [hl', Int.toNat_natCast] at h3
          have k2 : leafB (ndAt t l) = false := by
            unfold archB at h3
            cases q : leafB (ndAt t l)
            · rfl
            · rw [q] at h3; simp at h3
          obtain ⟨x, y, hx', hy', hxl, hyl⟩ := inner_lr hf hll k2
          exact ⟨x, by rw [hl', Int.toNat_natCast, hx'], hxl⟩
        · exact Or.inl rfl
open Classical in
/-- Sub's answer. -/
noncomputable def subL (t : NL) (p : Int) : NL := if formE t = 0 ∧ 0 ≤ p ∧ p < t.length then partL t (theL t p.toNat) else []
open Classical in
noncomputable def subE (t : NL) (p : Int) : Int := if formE t ≠ 0 then formE t else if 0 ≤ p ∧ p < t.length then 0 else 1
end Go.Proofs.YthlhbajaogonnaaDoor
