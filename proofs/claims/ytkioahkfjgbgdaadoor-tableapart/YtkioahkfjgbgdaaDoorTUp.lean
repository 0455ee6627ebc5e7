
/- Layer 16: each place's parent; lists of numbers held against one another. -/

import Derived.Test.YtkioahkfjgbgdaaDoorTNorm

namespace Go.Proofs.YtkioahkfjgbgdaaDoor

open Go.RowKit

attribute [local go_sem ↓] Go.wp_at_zero Go.wp_at_succ

/-- A slice of numbers. -/
structure IsAt (w : World) (base : Option Addr) (g : Nat) (L : List Int) : Prop where
  base : L.length ≠ 0 → base = some ⟨g, 0, none⟩
  lt : L.length ≠ 0 → g < w.heap.size
  cells : ∀ i, i < L.length → w.cell? ⟨g, i, none⟩ = some (.int .i64 (L.getD i 0))
  len : L.length ≤ maxLen
theorem IsAt.below {w w' : World} {base : Option Addr} {g : Nat} {L : List Int} (h : IsAt w base g L) (hb : Below w.heap.size w w') : IsAt w' base g L :=
  ⟨h.base, fun hn => Nat.lt_of_lt_of_le (h.lt hn) hb.size, fun i hi => (hb.cell (p := ⟨g, i, none⟩) (h.lt (by omega))).trans (h.cells i hi), h.len⟩
theorem IsAt.none (w : World) : IsAt w none 0 [] := ⟨fun h => absurd rfl h, fun h => absurd rfl h, fun i hi => by simp at hi, by simp⟩
theorem PlsAt.ints {w : World} {base : Option Addr} {g : Nat} {L : List Nat} (h : PlsAt w base g L) : IsAt w base g (L.map fun x : Nat => (x : Int)) := by
  refine ⟨by simpa using h.base, by simpa using h.lt, fun i hi => ?_, by simpa using h.len⟩
  simp at hi
  rw [h.cells i hi]
  simp [List.getD_eq_getElem?_getD, List.getElem?_eq_getElem hi]
theorem Ints.isAt {w : World} {g n : Nat} {f : Nat → Int} (h : Ints w g n f) (hg : g < w.heap.size) (hn : n ≤ maxLen) : IsAt w (some ⟨g, 0, none⟩) g ((List.range n).map f) := by
  refine ⟨fun _ => rfl, fun _ => hg, fun i hi => ?_, by simpa using hn⟩
  simp at hi
  rw [(h i hi).1]
  simp [List.getD_eq_getElem?_getD, List.getElem?_range hi]
def isEq (a b : List Int) : Bool := decide (a = b)
theorem is_ext {a b : List Int} (hl : a.length = b.length) (h : ∀ i, i < a.length → a.getD i 0 = b.getD i 0) : a = b := by
  apply List.ext_getElem hl
  intro i h1 h2
  have := h i h1
  simpa [List.getD_eq_getElem?_getD, List.getElem?_eq_getElem h1, List.getElem?_eq_getElem h2] using this
set_option maxRecDepth 100000 in
set_option maxHeartbeats 1000000 in
theorem ints_any (ba bb : Option Addr) (ga ca gb cb : Nat) (a b : List Int) (w : World) (ha : IsAt w ba ga a) (hb : IsAt w bb gb b) :
    Calls Tryd.prog 19 #[.slice ba a.length ca, .slice bb b.length cb] w fun e w' => e = .returned (.bool (isEq a b)) ∧ Below w.heap.size w w' := by
  have la := ha.len
  have lb := hb.len
  unfold maxLen at la lb
  have HA : Hid _ := ha
  have HB : Hid _ := hb
  clear ha hb
  by_cases hl : a.length = b.length
  · have hd : ((a.length : Int) != (b.length : Int)) = false := by simp [hl]
    have HL : Hid _ := hl
    clear hl
    go_enter Tryd.func19, Tryd.ntmps19
    go_wp2_with fail
    go_loopw [5] (fun i wr => ∃ j : Nat, j ≤ a.length ∧ i = .int .i64 j ∧ (∀ k, k < j → a.getD k 0 = b.getD k 0) ∧ Below w.heap.size w wr) (fun i _ => a.length - (intOf i).toNat)
    case atStart => exact ⟨0, Nat.zero_le _, rfl, fun k hk => by omega, Below.refl _ _⟩
    case round =>
      obtain ⟨j, hj, rfl, hall, hbw⟩ := hrel
      have HAL : Hid _ := hall
      clear hall
      by_cases hlt : j < a.length
      · have hlb : j < b.length := by have := HL.out; omega
        obtain rfl : ba = some ⟨ga, 0, none⟩ := HA.out.base (by omega)
        obtain rfl : bb = some ⟨gb, 0, none⟩ := HB.out.base (by omega)
        have c0 := (HA.out.below hbw).cells j hlt
        have c1 := (HB.out.below hbw).cells j hlb
        have j0 : (0 : Int) ≤ (j : Int) := Int.natCast_nonneg _
        have j1 : (j : Int) < (a.length : Int) := by omega
        have j2 : (j : Int) < (b.length : Int) := by omega
        by_cases hq : a.getD j 0 = b.getD j 0
        · have HQ : Hid _ := hq
          have hx : (a.getD j 0 != b.getD j 0) = false := by rw [hq]; exact bne_self_eq_false _
          have hx2 : decide (a.getD j 0 ≠ b.getD j 0) = false := decide_eq_false (fun q => q hq)
          clear hq
          generalize a.getD j 0 = x at c0 hx hx2
          generalize b.getD j 0 = y at c1 hx hx2
          go_wp2_with fail
          go_quiet (fail)
          go_wp2_with fail
          refine ⟨⟨j + 1, by omega, by go_num, fun k hk => ?_, below_drewN hbw _⟩, by simp [intOf]; omega⟩
          by_cases e : k = j
          · subst e; exact HQ.out
          · exact HAL.out k (by omega)
        · have F : Hid (isEq a b = false) := by
            show isEq a b = false
            unfold isEq
            simp only [decide_eq_false_iff_not]
            intro h
            exact hq (by rw [h])
          have hx : (a.getD j 0 != b.getD j 0) = true := by simp only [bne_iff_ne]; exact hq
          have hx2 : decide (a.getD j 0 ≠ b.getD j 0) = true := decide_eq_true hq
          clear hq
          generalize a.getD j 0 = x at c0 hx hx2
          generalize b.getD j 0 = y at c1 hx hx2
          go_wp2_with fail
          go_quiet (fail)
          go_wp2_with fail
          go_ret
          exact ⟨by rw [F.out]; rfl, below_drewN hbw _⟩
      · have F : Hid (isEq a b = true) := by
          show isEq a b = true
          unfold isEq
          simp only [decide_eq_true_eq]
          exact is_ext HL.out (fun i hi => HAL.out i (by omega))
        go_wp2_with fail
        go_ret
        exact ⟨by rw [F.out]; rfl, hbw⟩
  · have hd : ((a.length : Int) != (b.length : Int)) = true := by simp; omega
    have F : Hid (isEq a b = false) := by
      show isEq a b = false
      unfold isEq
      simp only [decide_eq_false_iff_not]
      intro h
      exact hl (by rw [h])
    clear hl
    go_enter Tryd.func19, Tryd.ntmps19
    go_wp2_with fail
    go_ret
    exact ⟨by rw [F.out]; rfl, Below.refl _ _⟩

/-- Each place's parent, behind i nodes. -/
def upN (t : NL) : Nat → Nat → Int
  | 0, x => if x = 0 then -1 else 0
  | i + 1, x => if (ndAt t i).l = (x : Int) ∨ (ndAt t i).r = (x : Int) then (i : Int) else upN t i x
theorem up_leaf {t : NL} {j : Nat} (hl : (ndAt t j).l = -1) (hr : (ndAt t j).r = -1) (x : Nat) : upN t (j + 1) x = upN t j x := by
  simp only [upN, hl, hr]
  rw [if_neg (by omega)]
theorem up_inner {t : NL} {j l r : Nat} (hl : (ndAt t j).l = (l : Int)) (hr : (ndAt t j).r = (r : Int)) (x : Nat) : upN t (j + 1) x = if x = r then (j : Int) else if x = l then (j : Int) else upN t j x := by
  simp only [upN, hl, hr]
  by_cases h1 : x = r
  · rw [if_pos (Or.inr (by omega)), if_pos h1]
  · by_cases h2 : x = l
    · rw [if_pos (Or.inl (by omega)), if_neg h1, if_pos h2]
    · rw [if_neg (by omega), if_neg h1, if_neg h2]
theorem ups_two {w : World} {g n l r : Nat} {t : NL} {j : Nat} (h : Ints w g n (fun x => upN t j x)) (hl : (ndAt t j).l = (l : Int)) (hr : (ndAt t j).r = (r : Int)) (h1 : l < n) (h2 : r < n) :
    Ints ((w.setCell ⟨g, l, none⟩ (.int .i64 (j : Int))).setCell ⟨g, r, none⟩ (.int .i64 (j : Int))) g n (fun x => upN t (j + 1) x) :=
  ((h.set l _ h1).set r _ h2).fn fun x _ => (up_inner hl hr x).symm
theorem Ints.drew {w : World} {g n : Nat} {f : Nat → Int} (h : Ints w g n f) : Ints w.drew g n f := h
def upL (t : NL) : List Int := (List.range t.length).map (upN t t.length)
theorem upL_length (t : NL) : (upL t).length = t.length := by simp [upL]

set_option maxRecDepth 100000 in
set_option maxHeartbeats 1000000 in
theorem parents_any (base : Option Addr) (b o c : Nat) (t : NL) (w : World) (h : NodesAt w base b o t) (hpos : 0 < t.length) (hbig : t.length ≤ 1000000) (hg : ∀ i, i < t.length → NodeOk (ndAt t i) t.length) :
    Calls Tryd.prog 29 #[.slice base t.length c] w fun e w' => ∃ g, e = .returned (.slice (some ⟨g, 0, none⟩) t.length t.length) ∧ Ints w' g t.length (fun x => upN t t.length x) ∧ w.heap.size ≤ g ∧ g < w'.heap.size ∧ Below w.heap.size w w' := by
  obtain rfl : base = some ⟨b, o, none⟩ := h.base (by omega)
  have hbl := h.lt (by omega)
  have HA : Hid _ := h
  have HG : Hid (∀ i, i < t.length → NodeOk (ndAt t i) t.length) := hg
  have hp0 : (0 : Int) < (t.length : Int) := by omega
  clear h hg
  have hmi := run_make_known (P := Tryd.prog) 29 3 (.int .i64 0) 1 8 ins_under in_info t.length (by omega) (by omega)
  have Z0 : Hid (Ints (w.alloc (.cells (Array.replicate t.length (.int .i64 0)) 3)) w.heap.size t.length (fun _ => 0)) := zeros_ints w 3 t.length
  have z1 : (w.alloc (.cells (madeCells #[.int .i64 0] t.length) 3)).cell? ⟨w.heap.size, 0, none⟩ = some (.int .i64 0) := by rw [made_zeros]; exact (Z0.out 0 hpos).1
  have z2 : (w.alloc (.cells (madeCells #[.int .i64 0] t.length) 3)).frozen? ⟨w.heap.size, 0, none⟩ = false := by rw [made_zeros]; exact (Z0.out 0 hpos).2
  go_enter Tryd.func29, Tryd.ntmps29
  go_wp2_with fail
  go_loopw [13] (fun i wr => ∃ j : Nat, j ≤ t.length ∧ i = .int .i64 j ∧ Below w.heap.size w wr ∧ w.heap.size < wr.heap.size ∧ Ints wr w.heap.size t.length (fun x => upN t j x)) (fun i _ => t.length - (intOf i).toNat)
  case atStart =>
    refine ⟨0, Nat.zero_le _, rfl, ?_, ?_, ?_⟩
    · exact below_alloc _ _
    · simp
    · rw [made_zeros]
      have hq := Z0.out.set 0 (-1) hpos
      rw [World.setCell_alloc_at (hn := rfl)] at hq
      exact hq.fn fun x _ => rfl
  case round =>
    obtain ⟨j, hj, rfl, hbw, hwz, hI⟩ := hrel
    by_cases hlt : j < t.length
    · have HC : Hid _ := (HA.out.below hbw).cells j hlt
      have j0 : (0 : Int) ≤ (j : Int) := Int.natCast_nonneg _
      have j1 : (j : Int) < (t.length : Int) := by omega
      have hbr : b < wr.heap.size := by omega
      have HB : Hid _ := hbw
      have HI : Hid (Ints _ _ _ _) := hI
      clear hbw hI
      rcases (HG.out j hlt).cases with ⟨hl, hr⟩ | ⟨l, r, hl, hr, l1, l2, r1, r2, hne⟩
      · have HLF : Hid _ := leafB_yes (n := ndAt t j) hl hr
        have HI1 : Hid (∀ x, upN t (j + 1) x = upN t j x) := up_leaf hl hr
        clear hl hr
        generalize ndAt t j = nd at HC HLF
        obtain ⟨k0, k1, k2, k3, k4, k5⟩ := nd
        simp only at HC
        obtain ⟨c0, c1, c2, c3, c4, c5⟩ := HC.out
        go_wp2_with (first | (go_at_call 36; refine (isLeaf_any _ _ _ _ _ _ _).mono ?_; rintro e w3 ⟨rfl, hb3⟩; rw [HLF.out]; have HB3 : Hid (Below wr.heap.size wr w3) := (below_alloc wr _).trans (hb3.mono (by simp)); clear hb3))
        exact ⟨⟨j + 1, by omega, by go_num, HB.out.trans (HB3.out.mono HB.out.size), by have := HB3.out.size; omega, (HI.out.below hwz HB3.out).fn fun x _ => (HI1.out x).symm⟩, by simp [intOf]; omega⟩
      · have HLF : Hid _ := leafB_no (n := ndAt t j) (by omega)
        have HI1 : Hid _ := fun (W : World) (h : Ints W w.heap.size t.length (fun x => upN t j x)) => ups_two h hl hr l2 r2
        have l0 : (0 : Int) ≤ (l : Int) := Int.natCast_nonneg _
        have r0 : (0 : Int) ≤ (r : Int) := Int.natCast_nonneg _
        have l3 : (l : Int) < (t.length : Int) := by omega
        have r3 : (r : Int) < (t.length : Int) := by omega
        have hne' : r ≠ l := fun q => hne q.symm
        clear l1 r1
        generalize ndAt t j = nd at HC HLF hl hr
        obtain ⟨k0, k1, k2, k3, k4, k5⟩ := nd
        simp only at HC hl hr
        subst hl hr
        obtain ⟨c0, c1, c2, c3, c4, c5⟩ := HC.out
        go_wp2_with (first | (go_at_call 36; refine (isLeaf_any _ _ _ _ _ _ _).mono ?_; rintro e w3 ⟨rfl, hb3⟩; rw [HLF.out]; have hz3 := hb3.size; simp only [World.size_alloc] at hz3; have z4 : w3.cell? ⟨wr.heap.size, 4, none⟩ = some (.int .i64 (l : Int)) := (hb3.cell (p := ⟨wr.heap.size, 4, none⟩) (by simp)).trans (cell_new wr _ _ 4); have z5 : w3.cell? ⟨wr.heap.size, 5, none⟩ = some (.int .i64 (r : Int)) := (hb3.cell (p := ⟨wr.heap.size, 5, none⟩) (by simp)).trans (cell_new wr _ _ 5); have HB3 : Hid (Below wr.heap.size wr w3) := (below_alloc wr _).trans (hb3.mono (by simp)); have HI3 : Hid (Ints w3 _ _ _) := HI.out.below hwz HB3.out; have v1 := (HI3.out l l2).1; have v2 := (HI3.out r r2).1; have f1 := (HI3.out l l2).2; have f2 := (HI3.out r r2).2; clear hb3))
        go_region
        go_wp2_with fail
        exact ⟨⟨j + 1, by omega, by go_num, (((HB.out.trans (HB3.out.mono HB.out.size)).setCell (Nat.le_refl _) _).setCell (Nat.le_refl _) _).drew, by have := HB3.out.size; show w.heap.size < ((w3.setCell _ _).setCell _ _).heap.size; simp; omega, (HI1.out _ HI3.out).drew⟩, by simp [intOf]; omega⟩
    · obtain rfl : j = t.length := by omega
      have HB : Hid _ := hbw
      have HI : Hid (Ints _ _ _ _) := hI
      clear hbw hI
      go_wp2_with fail
      go_ret
      exact ⟨_, rfl, HI.out, Nat.le_refl _, hwz, HB.out⟩
open Classical in
noncomputable def parL (t : NL) : List Int := if formE t = 0 then upL t else []
set_option maxRecDepth 100000 in
theorem Parents_any (base : Option Addr) (b o c : Nat) (t : NL) (w : World) (h : NodesAt w base b o t) :
    Calls Tryd.prog 11 #[.slice base t.length c] w fun e w' => ∃ a n cp g, e = .returned (.tuple #[.slice a n cp, .int .i64 (formE t)]) ∧ n = (parL t).length ∧ IsAt w' a g (parL t) ∧ Below w.heap.size w w' := by
  have HA : Hid _ := h
  clear h
  by_cases he : formE t = 0
  · obtain ⟨hb, hf⟩ := formE_ok he
    have F : Hid (parL t = upL t) := by show parL t = _; unfold parL; rw [if_pos he]
    have HE : Hid _ := he
    have HF : Hid _ := hf
    obtain ⟨e1, e2⟩ := e_eq he
    clear he hf
    go_enter Tryd.func11, Tryd.ntmps11
    go_wp2_with (first | (go_at_call 23; refine (check_any _ b o c t _ HA.out).mono ?_; rintro e w1 ⟨rfl, hb1⟩; have HB1 : Hid _ := hb1; clear hb1) | (go_at_call 29; refine (parents_any _ b o c t _ (HA.out.below HB1.out) HF.out.pos (by omega) HF.out.good.node).mono ?_; rintro e w2 ⟨g, rfl, hI, -, hgl, hb2⟩; have HI : Hid (Ints _ _ _ _) := hI; have HB2 : Hid _ := HB1.out.trans (hb2.mono HB1.out.size); have HGL : Hid _ := hgl; clear hI hgl hb2))
    go_ret2
    exact ⟨_, _, _, g, by rw [HE.out]; rfl, by rw [F.out, upL_length], by rw [F.out]; exact HI.out.isAt HGL.out (by unfold maxLen; omega), HB2.out⟩
  · have F : Hid (parL t = []) := by show parL t = _; unfold parL; rw [if_neg he]
    obtain ⟨e1, e2⟩ := e_ne he
    clear he
    go_enter Tryd.func11, Tryd.ntmps11
    go_wp2_with (first | (go_at_call 23; refine (check_any _ b o c t _ HA.out).mono ?_; rintro e w1 ⟨rfl, hb1⟩; have HB1 : Hid _ := hb1; clear hb1))
    go_ret2
    exact ⟨_, _, _, 0, rfl, by rw [F.out]; rfl, by rw [F.out]; exact IsAt.none _, HB1.out⟩
end Go.Proofs.YtkioahkfjgbgdaaDoor
