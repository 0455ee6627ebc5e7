
/- Layer 16: isTree and Check. -/

import Derived.Test.YthdfpddijocfkaaTNode

namespace Go.Proofs.Ythdfpddijocfkaa

open Go.RowKit

attribute [local go_sem ↓] Go.wp_at_zero Go.wp_at_succ

theorem cnt_le (t : NL) (c : Nat) : ∀ i, cntN t c i ≤ 2 * i
  | 0 => Nat.le_refl _
  | i + 1 => by
    have := cnt_le t c i
    simp only [cntN]
    split <;> split <;> omega
theorem cnt_leaf {t : NL} {j : Nat} (hl : (ndAt t j).l = -1) (hr : (ndAt t j).r = -1) (x : Nat) : cntN t x (j + 1) = cntN t x j := by
  simp only [cntN, hl, hr]
  rw [if_neg (by omega)]
  rfl
theorem cnt_inner {t : NL} {j l r : Nat} (hl : (ndAt t j).l = (l : Int)) (hr : (ndAt t j).r = (r : Int)) (hne : l ≠ r) (x : Nat) : ((cntN t x (j + 1) : Nat) : Int) = if x = r then (cntN t r j : Int) + 1 else if x = l then (cntN t l j : Int) + 1 else (cntN t x j : Int) := by
  simp only [cntN, hl, hr]
  by_cases h1 : x = r
  · subst h1; rw [if_neg (by omega), if_pos rfl, if_pos rfl]; omega
  · by_cases h2 : x = l
    · subst h2; rw [if_pos rfl, if_neg (by omega), if_neg h1, if_pos rfl]; omega
    · rw [if_neg (by omega), if_neg (by omega), if_neg h1, if_neg h2]; omega
theorem Ints.fn {w : World} {g n : Nat} {f f' : Nat → Int} (h : Ints w g n f) (e : ∀ j, j < n → f j = f' j) : Ints w g n f' := fun j hj => ⟨by rw [← e j hj]; exact (h j hj).1, (h j hj).2⟩
theorem ints_two {w : World} {g n l r : Nat} {t : NL} {j : Nat} (h : Ints w g n (fun x => ((cntN t x j : Nat) : Int))) (hl : (ndAt t j).l = (l : Int)) (hr : (ndAt t j).r = (r : Int)) (hne : l ≠ r) (h1 : l < n) (h2 : r < n) :
    Ints ((w.setCell ⟨g, l, none⟩ (.int .i64 ((cntN t l j : Int) + 1))).setCell ⟨g, r, none⟩ (.int .i64 ((cntN t r j : Int) + 1))) g n (fun x => ((cntN t x (j + 1) : Nat) : Int)) :=
  ((h.set l _ h1).set r _ h2).fn fun x _ => (cnt_inner hl hr hne x).symm
theorem NodeOk.cases {n : NdD} {m : Nat} (h : NodeOk n m) : (n.l = -1 ∧ n.r = -1) ∨ ∃ l r : Nat, n.l = (l : Int) ∧ n.r = (r : Int) ∧ 1 ≤ l ∧ l < m ∧ 1 ≤ r ∧ r < m ∧ l ≠ r := by
  rcases h.1 with h | ⟨h1, h2, h3, h4, h5, _⟩
  · exact Or.inl h
  · exact Or.inr ⟨n.l.toNat, n.r.toNat, by omega, by omega, by omega, by omega, by omega, by omega, by omega⟩
theorem made_zeros (n : Nat) : madeCells #[Value.int .i64 0] n = Array.replicate n (Value.int .i64 0) := by
  apply Array.ext
  · simp [madeCells]
  · intro i h1 h2
    simp [madeCells, Nat.mod_one]
theorem nat_beq (a b : Nat) : (((a : Nat) : Int) == ((b : Nat) : Int)) = decide (a = b) := by
  by_cases h : a = b
  · subst h; simp
  · rw [decide_eq_false h]; exact beq_eq_false_iff_ne.2 (by omega)
open Classical in
noncomputable def treeB (t : NL) : Bool := decide (InForm t)
theorem treeB_no {t : NL} (h : ¬ InForm t) : treeB t = false := by unfold treeB; simp [h]
theorem treeB_yes {t : NL} (h : InForm t) : treeB t = true := by unfold treeB; simp [h]
theorem treeB_of {t : NL} {L : List Nat} (hp : 0 < t.length) (hg : Good t) (hT : Tree t 0 L) : treeB t = decide (L.length = t.length) := by
  by_cases e : L.length = t.length
  · rw [treeB_yes ⟨hp, hg, L, hT, e⟩, decide_eq_true e]
  · rw [treeB_no (fun h => by obtain ⟨L', h1, h2⟩ := h.whole; rw [hT.det h1] at e; exact e h2), decide_eq_false e]

set_option maxRecDepth 100000 in
set_option maxHeartbeats 1000000 in
theorem isTree_any (base : Option Addr) (b o c : Nat) (t : NL) (w : World) (h : NodesAt w base b o t) (hbig : t.length ≤ 100000) :
    Calls Try.prog 59 #[.slice base t.length c] w fun e w' => e = .returned (.bool (treeB t)) ∧ Below w.heap.size w w' := by
  by_cases h0 : t.length = 0
  · have F : Hid (treeB t = false) := treeB_no (fun q => by have := q.pos; omega)
    rw [h0]
    clear h0 h hbig
    go_enter Try.func59, Try.ntmps59
    go_wp2_with fail
    go_ret
    exact ⟨by rw [F.out]; rfl, Below.refl _ _⟩
  · obtain rfl : base = some ⟨b, o, none⟩ := h.base h0
    have hbl := h.lt h0
    have HA : Hid _ := h
    have hpos : 0 < t.length := by omega
    have hpz : (((t.length : Nat) : Int) == 0) = false := beq_eq_false_iff_ne.2 (by omega)
    clear h h0
    have hmi := run_make_known (P := Try.prog) 23 3 (.int .i64 0) 1 8 ins_under in_info t.length (by omega) (by omega)
    go_enter Try.func59, Try.ntmps59
    go_wp2_with fail
    go_loopw [16] (fun i wr => ∃ j : Nat, j ≤ t.length ∧ i = .int .i64 j ∧ (∀ k, k < j → NodeOk (ndAt t k) t.length) ∧ Below w.heap.size w wr ∧ w.heap.size < wr.heap.size ∧ Ints wr w.heap.size t.length (fun x => ((cntN t x j : Nat) : Int))) (fun i _ => t.length - (intOf i).toNat)
    case atStart =>
      refine ⟨0, Nat.zero_le _, rfl, fun k hk => by omega, below_alloc _ _, by simp, ?_⟩
      have := zeros_ints w 3 t.length
      rw [made_zeros]
      exact this
    case round =>
      obtain ⟨j, hj, rfl, hok, hbw, hwz, hI⟩ := hrel
      by_cases hlt : j < t.length
      · have HC : Hid _ := (HA.out.below hbw).cells j hlt
        have j0 : (0 : Int) ≤ (j : Int) := Int.natCast_nonneg _
        have j1 : (j : Int) < (t.length : Int) := by omega
        have hbr : b < wr.heap.size := by omega
        have HB : Hid _ := hbw
        have HI : Hid (Ints _ _ _ _) := hI
        have HK : Hid (∀ k, k < j → NodeOk (ndAt t k) t.length) := hok
        clear hbw hI hok
        by_cases hn : NodeOk (ndAt t j) t.length
        · have HN : Hid _ := nodeB_yes hn
          have HK1 : Hid (∀ k, k < j + 1 → NodeOk (ndAt t k) t.length) := by
            intro k hk
            by_cases e : k = j
            · rw [e]; exact hn
            · exact HK.out k (by omega)
          rcases hn.cases with ⟨hl, hr⟩ | ⟨l, r, hl, hr, l1, l2, r1, r2, hne⟩
          · have HLF : Hid _ := leafB_yes (n := ndAt t j) hl hr
            have HI1 : Hid (∀ x, cntN t x (j + 1) = cntN t x j) := cnt_leaf hl hr
            clear hn hl hr
            generalize ndAt t j = nd at HC HN HLF
            obtain ⟨k0, k1, k2, k3, k4, k5⟩ := nd
            simp only at HC
            obtain ⟨c0, c1, c2, c3, c4, c5⟩ := HC.out
            go_wp2_with (first | (go_at_call 69; refine (isNode_any _ _ _ _ _ _ _ _).mono ?_; rintro e w2 ⟨rfl, hb2⟩; rw [HN.out]; have hz2 := hb2.size; simp only [World.size_alloc] at hz2; have y0 : w2.cell? ⟨wr.heap.size, 0, none⟩ = some (.int .i64 k0) := (hb2.cell (p := ⟨wr.heap.size, 0, none⟩) (by simp)).trans (cell_new wr _ _ 0); have y1 : w2.cell? ⟨wr.heap.size, 1, none⟩ = some (.int .i64 k1) := (hb2.cell (p := ⟨wr.heap.size, 1, none⟩) (by simp)).trans (cell_new wr _ _ 1); have y2 : w2.cell? ⟨wr.heap.size, 2, none⟩ = some (.int .i64 k2) := (hb2.cell (p := ⟨wr.heap.size, 2, none⟩) (by simp)).trans (cell_new wr _ _ 2); have y3 : w2.cell? ⟨wr.heap.size, 3, none⟩ = some (.int .i64 k3) := (hb2.cell (p := ⟨wr.heap.size, 3, none⟩) (by simp)).trans (cell_new wr _ _ 3); have y4 : w2.cell? ⟨wr.heap.size, 4, none⟩ = some (.int .i64 k4) := (hb2.cell (p := ⟨wr.heap.size, 4, none⟩) (by simp)).trans (cell_new wr _ _ 4); have y5 : w2.cell? ⟨wr.heap.size, 5, none⟩ = some (.int .i64 k5) := (hb2.cell (p := ⟨wr.heap.size, 5, none⟩) (by simp)).trans (cell_new wr _ _ 5); have HB2 : Hid _ := (below_alloc wr _).trans (hb2.mono (by simp)); clear hb2) | (go_at_call 70; refine (isLeaf_any _ _ _ _ _ _ _).mono ?_; rintro e w3 ⟨rfl, hb3⟩; rw [HLF.out]; have HB3 : Hid _ := HB2.out.trans (hb3.mono HB2.out.size); clear hb3))
            exact ⟨⟨j + 1, by omega, by go_num, HK1.out, HB.out.trans (HB3.out.mono HB.out.size), by have := HB3.out.size; omega, (HI.out.below hwz HB3.out).fn fun x _ => by rw [HI1.out x]⟩, by simp [intOf]; omega⟩
          · have HLF : Hid _ := leafB_no (n := ndAt t j) (by omega)
            have HI1 : Hid _ := fun (W : World) (h : Ints W w.heap.size t.length (fun x => ((cntN t x j : Nat) : Int))) => ints_two h hl hr hne l2 r2
            have q1 := cnt_le t l j
            have q2 := cnt_le t r j
            have l0 : (0 : Int) ≤ (l : Int) := Int.natCast_nonneg _
            have r0 : (0 : Int) ≤ (r : Int) := Int.natCast_nonneg _
            have l3 : (l : Int) < (t.length : Int) := by omega
            have r3 : (r : Int) < (t.length : Int) := by omega
            have b1 : ((cntN t l j : Nat) : Int) ≤ 200000 := by omega
            have b2 : ((cntN t r j : Nat) : Int) ≤ 200000 := by omega
            have b3 : (0 : Int) ≤ ((cntN t l j : Nat) : Int) := Int.natCast_nonneg _
            have b4 : (0 : Int) ≤ ((cntN t r j : Nat) : Int) := Int.natCast_nonneg _
            have hne' : r ≠ l := fun q => hne q.symm
            clear hn q1 q2 l1 r1
            generalize ndAt t j = nd at HC HN HLF hl hr
            obtain ⟨k0, k1, k2, k3, k4, k5⟩ := nd
            simp only at HC hl hr
            subst hl hr
            obtain ⟨c0, c1, c2, c3, c4, c5⟩ := HC.out
            go_wp2_with (first | (go_at_call 69; refine (isNode_any _ _ _ _ _ _ _ _).mono ?_; rintro e w2 ⟨rfl, hb2⟩; rw [HN.out]; have hz2 := hb2.size; simp only [World.size_alloc] at hz2; have y0 : w2.cell? ⟨wr.heap.size, 0, none⟩ = some (.int .i64 k0) := (hb2.cell (p := ⟨wr.heap.size, 0, none⟩) (by simp)).trans (cell_new wr _ _ 0); have y1 : w2.cell? ⟨wr.heap.size, 1, none⟩ = some (.int .i64 k1) := (hb2.cell (p := ⟨wr.heap.size, 1, none⟩) (by simp)).trans (cell_new wr _ _ 1); have y2 : w2.cell? ⟨wr.heap.size, 2, none⟩ = some (.int .i64 k2) := (hb2.cell (p := ⟨wr.heap.size, 2, none⟩) (by simp)).trans (cell_new wr _ _ 2); have y3 : w2.cell? ⟨wr.heap.size, 3, none⟩ = some (.int .i64 k3) := (hb2.cell (p := ⟨wr.heap.size, 3, none⟩) (by simp)).trans (cell_new wr _ _ 3); have y4 : w2.cell? ⟨wr.heap.size, 4, none⟩ = some (.int .i64 (l : Int)) := (hb2.cell (p := ⟨wr.heap.size, 4, none⟩) (by simp)).trans (cell_new wr _ _ 4); have y5 : w2.cell? ⟨wr.heap.size, 5, none⟩ = some (.int .i64 (r : Int)) := (hb2.cell (p := ⟨wr.heap.size, 5, none⟩) (by simp)).trans (cell_new wr _ _ 5); have HB2 : Hid _ := (below_alloc wr _).trans (hb2.mono (by simp)); clear hb2) | (go_at_call 70; refine (isLeaf_any _ _ _ _ _ _ _).mono ?_; rintro e w3 ⟨rfl, hb3⟩; rw [HLF.out]; have z4 : w3.cell? ⟨wr.heap.size, 4, none⟩ = some (.int .i64 (l : Int)) := (hb3.cell (p := ⟨wr.heap.size, 4, none⟩) hz2).trans y4; have z5 : w3.cell? ⟨wr.heap.size, 5, none⟩ = some (.int .i64 (r : Int)) := (hb3.cell (p := ⟨wr.heap.size, 5, none⟩) hz2).trans y5; have HB3 : Hid _ := HB2.out.trans (hb3.mono HB2.out.size); have HI3 : Hid (Ints w3 _ _ _) := HI.out.below hwz HB3.out; have v1 := (HI3.out l l2).1; have v2 := (HI3.out r r2).1; have f1 := (HI3.out l l2).2; have f2 := (HI3.out r r2).2; have hz3 := HB3.out.size; clear hb3 y0 y1 y2 y3 y4 y5))
            exact ⟨⟨j + 1, by omega, by go_num, HK1.out, ((HB.out.trans (HB3.out.mono HB.out.size)).setCell (Nat.le_refl _) _).setCell (Nat.le_refl _) _, by simp; omega, HI1.out _ HI3.out⟩, by simp [intOf]; omega⟩
        · have HN : Hid _ := nodeB_no hn
          have F : Hid (treeB t = false) := treeB_no (fun q => hn (q.good.node j hlt))
          clear hn
          generalize ndAt t j = nd at HC HN
          obtain ⟨k0, k1, k2, k3, k4, k5⟩ := nd
          simp only at HC
          obtain ⟨c0, c1, c2, c3, c4, c5⟩ := HC.out
          go_wp2_with (first | (go_at_call 69; refine (isNode_any _ _ _ _ _ _ _ _).mono ?_; rintro e w2 ⟨rfl, hb2⟩; rw [HN.out]; have HB2 : Hid _ := (below_alloc wr _).trans (hb2.mono (by simp)); clear hb2))
          go_ret
          exact ⟨by rw [F.out]; rfl, HB.out.trans (HB2.out.mono HB.out.size)⟩
      · obtain rfl : j = t.length := by omega
        have HB : Hid _ := hbw
        have HI : Hid (Ints _ _ _ _) := hI
        have HK : Hid (∀ k, k < t.length → NodeOk (ndAt t k) t.length) := hok
        clear hbw hI hok
        have hp1 : (1 : Int) ≤ (t.length : Int) := by omega
        have hbr : b < wr.heap.size := by omega
        rcases Nat.lt_or_ge 1 t.length with hp2 | hp2
        · have hp3 : (1 : Int) < (t.length : Int) := by omega
          go_wp2_with fail
          go_loopw [46] (fun i wx => ∃ j : Nat, j + 1 ≤ t.length ∧ i = .int .i64 j ∧ (∀ c, 1 ≤ c → c < j + 1 → cntN t c t.length = 1) ∧ Below wr.heap.size wr wx) (fun i _ => t.length - (intOf i).toNat)
          case atStart => exact ⟨0, by omega, rfl, fun c h1 h2 => by omega, Below.refl _ _⟩
          case round =>
            obtain ⟨j, hj, rfl, hone, hbx⟩ := hrel
            by_cases hlt : j + 1 < t.length
            · have v1 := ((HI.out.below hwz hbx) (1 + j) (by omega)).1
              have HX : Hid _ := hbx
              have HO : Hid (∀ c, 1 ≤ c → c < j + 1 → cntN t c t.length = 1) := hone
              have j0 : (0 : Int) ≤ (j : Int) := Int.natCast_nonneg _
              have j1 : (j : Int) < ((t.length - 1 : Nat) : Int) := by omega
              have j2 : j < t.length - 1 := by omega
              clear hbx hone
              by_cases hc : cntN t (1 + j) t.length = 1
              · have HO1 : Hid (∀ c, 1 ≤ c → c < j + 1 + 1 → cntN t c t.length = 1) := by
                  intro c h1 h2
                  by_cases e : c = 1 + j
                  · rw [e]; exact hc
                  · exact HO.out c h1 (by omega)
                have hd : (((cntN t (1 + j) t.length : Nat) : Int) != 1) = false := by simp; omega
                have hd2 : decide (((cntN t (1 + j) t.length : Nat) : Int) ≠ 1) = false := by simp; omega
                clear hc
                go_wp2_with fail
                exact ⟨⟨j + 1, by omega, by go_num, HO1.out, HX.out⟩, by simp [intOf]; omega⟩
              · have F : Hid (treeB t = false) := treeB_no (fun q => hc (q.good.one (1 + j) (by omega) (by omega)))
                have hd : (((cntN t (1 + j) t.length : Nat) : Int) != 1) = true := by simp; omega
                have hd2 : decide (((cntN t (1 + j) t.length : Nat) : Int) ≠ 1) = true := by simp; omega
                clear hc
                go_wp2_with fail
                go_ret
                exact ⟨by rw [F.out]; rfl, HB.out.trans (HX.out.mono HB.out.size)⟩
            · have hg : Good t := ⟨HK.out, fun c h1 h2 => hone c h1 (by omega)⟩
              obtain ⟨L, hT, _, hLn⟩ := good_tree hg hpos
              have F : Hid _ := treeB_of hpos hg hT
              have HT : Hid _ := hT
              have HX : Hid _ := hbx
              have HN : Hid _ := (HA.out.below HB.out).below hbx
              have j2 : t.length - 1 ≤ j := by omega
              have j3 : ((t.length - 1 : Nat) : Int) ≤ (j : Int) := by omega
              clear hbx hone hg hT
              go_wp2_with (first | (go_at_call 71; refine (order_any _ b o c t 0 L _ HN.out HT.out (by omega)).mono ?_; rintro e w5 ⟨v, rfl, hown, hb5⟩; obtain ⟨g5, c5, rfl, _⟩ := owns_some hown HT.out.pos))
              go_ret
              exact ⟨by rw [F.out, ← nat_beq]; rfl, (HB.out.trans (HX.out.mono HB.out.size)).trans (hb5.mono (Nat.le_trans HB.out.size HX.out.size))⟩
        · have hp3 : (t.length : Int) ≤ 1 := by omega
          go_wp2_with fail
          go_loopw [46] (fun i wx => i = .int .i64 0 ∧ Below wr.heap.size wr wx) (fun _ _ => 0)
          case atStart => exact ⟨rfl, Below.refl _ _⟩
          case round =>
            obtain ⟨rfl, hbx⟩ := hrel
            have hg : Good t := ⟨HK.out, fun c h1 h2 => by omega⟩
            obtain ⟨L, hT, _, hLn⟩ := good_tree hg hpos
            have F : Hid _ := treeB_of hpos hg hT
            have HT : Hid _ := hT
            have HX : Hid _ := hbx
            have HN : Hid _ := (HA.out.below HB.out).below hbx
            clear hbx hg hT
            go_wp2_with (first | (go_at_call 71; refine (order_any _ b o c t 0 L _ HN.out HT.out (by omega)).mono ?_; rintro e w5 ⟨v, rfl, hown, hb5⟩; obtain ⟨g5, c5, rfl, _⟩ := owns_some hown HT.out.pos))
            go_ret
            exact ⟨by rw [F.out, ← nat_beq]; rfl, (HB.out.trans (HX.out.mono HB.out.size)).trans (hb5.mono (Nat.le_trans HB.out.size HX.out.size))⟩

theorem formE_tree {t : NL} (h : t.length ≤ 100000) : formE t = if treeB t = true then 0 else 3 := by
  by_cases hf : InForm t
  · rw [formE_of h hf, if_pos (treeB_yes hf)]
  · rw [formE_not h hf, if_neg (by rw [treeB_no hf]; simp)]
set_option maxRecDepth 100000 in
theorem check_any (base : Option Addr) (b o c : Nat) (t : NL) (w : World) (h : NodesAt w base b o t) :
    Calls Try.prog 43 #[.slice base t.length c] w fun e w' => e = .returned (.int .i64 (formE t)) ∧ Below w.heap.size w w' := by
  have hm := h.len
  unfold maxLen at hm
  rcases Nat.lt_or_ge 100000 t.length with hb | hb
  · have F : Hid (formE t = 2) := formE_big hb
    have hb' : (100000 : Int) < (t.length : Int) := by omega
    go_enter Try.func43, Try.ntmps43
    go_wp2_with fail
    go_ret
    exact ⟨by rw [F.out]; rfl, Below.refl _ _⟩
  · have hb' : (t.length : Int) ≤ 100000 := by omega
    have HA : Hid _ := h
    have F : Hid _ := formE_tree hb
    cases ht : treeB t with
    | true =>
      have F1 : Hid (formE t = 0) := by show formE t = 0; rw [F.out, ht]; rfl
      go_enter Try.func43, Try.ntmps43
      go_wp2_with (go_at_call 59; refine (isTree_any _ b o c t _ HA.out hb).mono ?_; rintro e w1 ⟨rfl, hb1⟩; rw [ht])
      go_ret
      exact ⟨by rw [F1.out]; rfl, hb1⟩
    | false =>
      have F1 : Hid (formE t = 3) := by show formE t = 3; rw [F.out, ht]; rfl
      go_enter Try.func43, Try.ntmps43
      go_wp2_with (go_at_call 59; refine (isTree_any _ b o c t _ HA.out hb).mono ?_; rintro e w1 ⟨rfl, hb1⟩; rw [ht])
      go_ret
      exact ⟨by rw [F1.out]; rfl, hb1⟩
end Go.Proofs.Ythdfpddijocfkaa
