/- WordApart, walked. -/
import Derived.Test.YtffnoaafmaeihaaGreatAP1
import Derived.Test.YtffnoaafmaeihaaGreatDoesProof
import Derived.BigQuiet
namespace Go.Proofs.YtffnoaafmaeihaaGreat
open Go.RowKit
attribute [local go_sem ↓] Go.wp_at_zero Go.wp_at_succ

def inc (f : Nat → Int) : Nat → Int := fun i => IntKind.u64.wrap (f i + 1)
theorem inc_u64 (f : Nat → Int) (i : Nat) : U64 (inc f i) := by
  unfold inc U64
  have := IntKind.wrap_u64 (f i + 1)
  constructor <;> omega
theorem pad_lt {f : Nat → Int} {n i : Nat} (h : i < n) : pad f n i = f i := by unfold pad; rw [if_pos h]
theorem pad_u64 {f : Nat → Int} {n : Nat} (h : ∀ i, i < n → U64 (f i)) (i : Nat) : U64 (pad f n i) := by
  unfold pad
  split
  · rename_i q; exact h i q
  · exact ⟨by omega, by omega⟩

theorem ract_info : (Tryz.prog.info? 45).map (fun i => (i.zero, i.size, i.bytes)) = some (some (.agg #[.int .i64 0, .int .u64 0, .int .u64 0]), 3, 24) := by kernel_rfl
theorem racts_under : Tryz.prog.underlying 23 = some (.slice 45) := by kernel_rfl
theorem owns_form {w : World} {B : Nat} {e : TypeId} {sz : Nat} {v : Value} {n : Nat} {xs : List Value} (h : w.ownsRow B e sz v n xs) : ∃ a c, v = .slice a n c := by
  obtain ⟨_, h⟩ := h
  rcases h with ⟨rfl, rfl⟩ | ⟨g, cap, cur, rfl, _⟩
  · exact ⟨_, _, rfl⟩
  · exact ⟨_, _, rfl⟩
theorem owns_set {w : World} {B : Nat} {e : TypeId} {sz : Nat} {v : Value} {n : Nat} {xs : List Value} (h : w.ownsRow B e sz v n xs) {b o : Nat} {u : Value} (hb : b < B) : (w.setCell ⟨b, o, none⟩ u).ownsRow B e sz v n xs := by
  obtain ⟨h1, h⟩ := h
  rcases h with ⟨rfl, rfl⟩ | ⟨g, cap, cur, rfl, hg, hh, rest⟩
  · exact ⟨h1, Or.inl ⟨rfl, rfl⟩⟩
  · exact ⟨h1, Or.inr ⟨g, cap, cur, rfl, hg, by rw [Below.heap_setCell _ _ _ _ (by simp; omega)]; exact hh, rest⟩⟩
theorem OutsAt.low {w w' : World} {base : Option Addr} {g n B : Nat} {O : Nat → Int} {V : Nat → Bool} (h : OutsAt w base g n O V) (hb : Below B w w') (hg : n ≠ 0 → g < B) : OutsAt w' base g n O V :=
  ⟨h.base, fun hn => Nat.lt_of_lt_of_le (h.lt hn) hb.size, fun j hj => ⟨(hb.cell (p := ⟨g, _, none⟩) (hg (by omega))).trans (h.cells j hj).1, (hb.cell (p := ⟨g, _, none⟩) (hg (by omega))).trans (h.cells j hj).2⟩⟩
theorem Row3.low {w w' : World} {g m B : Nat} {K A C : Nat → Int} (h : Row3 w g m K A C) (hb : Below B w w') (hg : g < B) : Row3 w' g m K A C := fun i hi =>
  ⟨⟨(hb.cell (p := ⟨g, _, none⟩) hg).trans (h i hi).1.1, (hb.cell (p := ⟨g, _, none⟩) hg).trans (h i hi).1.2.1, (hb.cell (p := ⟨g, _, none⟩) hg).trans (h i hi).1.2.2⟩, (hb.frozen (p := ⟨g, _, none⟩) hg).trans (h i hi).2⟩

set_option maxRecDepth 100000 in
set_option maxHeartbeats 4000000 in
theorem apart_any (k start : Int) (hs : U64 start) (ab ao n cap : Nat) (dk da db : Nat → Int) (w : World) (base : Option Addr) (h : Acts w base ab ao n dk da db) (hbytes : n * 24 ≤ 140737488351232) :
    Calls Tryz.prog 4 #[.int .i64 k, .int .u64 start, .slice base n cap] w fun e w' => e = .returned (.bool true) ∧ Below w.heap.size w w' := by
  obtain ⟨i0, hi0, hz0, hz1, hz2⟩ := info_parts act_info
  have HA : Hid _ := h
  have hlen := h.len
  unfold maxLen at hlen
  have HD : Hid _ := fun (W : World) (b : Option Addr) (g c : Nat) (hW : Acts W b g 0 n dk da db) => Do_uni k start hs g 0 n c dk da db W b hW
  have HT : Hid _ := fun (W : World) (b : Option Addr) (g c : Nat) (hW : Acts W b g 0 n dk da db) => Steps_uni k start hs g 0 n c dk da db W b hW
  have HR : Hid _ := fun (W : World) (hW : Acts W base ab ao n dk da db) => refDo_uni k start hs ab ao n cap dk da db W base hW
  have HS : Hid _ := fun (W : World) (hW : Acts W base ab ao n dk da db) => refSteps_uni k start hs ab ao n cap dk da db W base hW
  have HD2 : Hid _ := fun (W : World) (b : Option Addr) (g c : Nat) (hW : Acts W b g 0 n dk (inc da) db) => Do_uni k start hs g 0 n c dk (inc da) db W b hW
  have HR2 : Hid _ := fun (W : World) (b : Option Addr) (g c : Nat) (hW : Acts W b g 0 n dk (inc da) db) => refDo_uni k start hs g 0 n c dk (inc da) db W b hW
  have hm := dM_le k n dk
  have mm : dM k n dk ≤ n := by unfold dM; split <;> omega
  generalize dM k n dk = m at *
  generalize dS k start n dk da db = S at *
  generalize dO k start dk da db = O at *
  generalize dV k start dk da db = V at *
  generalize dN k start dk da db = M at *
  generalize dS k start n dk (inc da) db = S2 at *
  generalize dO k start dk (inc da) db = O2 at *
  generalize dV k start dk (inc da) db = V2 at *
  generalize rowErr k n dk = E at *
  clear h hs
  have q0 : (S != S) = false := by simp
  have q1 : (E != E) = false := by simp
  have q2 : (S2 == S2) = true := by simp
  have q3 : (E == E) = true := by simp
  have hm1 : ∀ w : World, (Instr.makeSlice 32 (.int .i64 ((n : Int) + 5)) (.int .i64 ((n : Int) + 5))).run Tryz.prog w = .ok (.slice (some ⟨w.heap.size, 0, none⟩) (n + 5) (n + 5)) (w.alloc (.cells (madeCells #[.int .i64 0, .int .u64 0, .int .u64 0] ((n + 5) * 3)) 42)) := fun w => by
    have := run_make_known (P := Tryz.prog) 32 42 (.agg #[.int .i64 0, .int .u64 0, .int .u64 0]) 3 24 acts_under act_info (n + 5) (by omega) (by omega) w
    simpa [Value.cells] using this
  go_enter Tryz.func4, Tryz.ntmps4
  have han := act_neq
  go_wp2_with (first | (go_at_call 5; refine (known_any _).mono ?_; rintro e w1 ⟨rfl, hb1⟩))
  have B1 : Hid _ := hb1
  have s1 := hb1.size
  clear hb1 hm1
  refine (our_acts ab ao n cap dk da db _ base (HA.out.below (B1.out.alloc s1 _)) (by omega)).mono ?_
  rintro e w2 ⟨b2, c2, g2, rfl, hb2, ha2⟩
  have s2 := hb2.size
  simp only [World.size_alloc] at s2
  have G2 : Hid (w2.heap[w1.heap.size]? = some (.cells (madeCells #[.int .i64 0, .int .u64 0, .int .u64 0] ((n + 5) * 3)).toList.toArray 42 (0, 0))) := by
    show w2.heap[w1.heap.size]? = _
    rw [hb2.block _ (by simp), heap_alloc_new]
  have B2 : Hid (Below w.heap.size w w2) := (B1.out.alloc s1 _).trans (hb2.mono (by simp; omega))
  have N2 : Hid (n ≠ 0 → ∃ ad, b2 = some ad ∧ ∀ j v, (actCells dk da db n)[j]? = some v → w2.cell? (ad.add j) = some v) := fun q => acts_news ha2 q
  clear hb2 ha2
  have n5 : (n : Int) ≤ (n : Int) + 5 := by omega
  have nn0 : (0 : Int) ≤ (n : Int) := Int.natCast_nonneg _
  have hsz3 : (Tryz.prog.info? 42).map (·.size) = some 3 := by kernel_rfl
  have HSZ : Hid _ := hsz3
  clear hsz3
  have PU : Hid (∀ i, i < n + 5 → U64 (pad da n i) ∧ U64 (pad db n i)) := fun i _ => ⟨pad_u64 (fun i hi => (HA.out.u64 i hi).1) i, pad_u64 (fun i hi => (HA.out.u64 i hi).2) i⟩
  have HO0 : Hid (∀ W : World, w.heap.size ≤ W.heap.size → (W.alloc (.cells #[] 42)).ownsRow w.heap.size 42 3 (.slice (some ⟨W.heap.size, 0, none⟩) 0 0) 0 []) := fun W hW => ⟨rfl, Or.inr ⟨W.heap.size, 0, #[], rfl, hW, heap_alloc_new _ _, Nat.le_refl _, by unfold maxLen; omega, rfl, rfl⟩⟩
  obtain ⟨w3, hcp, hg3, s3, hb3⟩ := run_copy_head (P := Tryz.prog) (w := w2) 32 32 3 42 3 acts_under HSZ.out b2 (n + 5) (n + 5) n c2 w1.heap.size (by omega) _ 42 G2.out (actCells dk da db n) (actCells_length _ _ _ _) N2.out (by simp [actCells_length, size_madeCells]; omega) (actCells_one _ _ _ _) w.heap.size w B2.out (by omega)
  have R3 : Hid (Row3 w3 w1.heap.size (n + 5) (pad dk n) (pad da n) (pad db n)) := row3_of_block hg3
  have B3 : Hid (Below w.heap.size w w3) := hb3
  have A3 : Hid (Acts (w3.alloc (.cells #[] 42)) (some ⟨w1.heap.size, 0, none⟩) w1.heap.size 0 (n + 5) (pad dk n) (pad da n) (pad db n)) := (R3.out.acts (by omega) (Nat.le_refl _) PU.out (by unfold maxLen; omega)).below ((Below.refl _ _).alloc (Nat.le_refl _) _)
  have N3 : Hid (∀ ad, some (⟨w1.heap.size, 0, none⟩ : Addr) = some ad → ∀ j v, (actCells (pad dk n) (pad da n) (pad db n) (n + 5))[j]? = some v → (w3.alloc (.cells #[] 42)).cell? (ad.add j) = some v) := fun ad q => by
    obtain ⟨ad', e, z⟩ := acts_news A3.out (by omega)
    rw [e] at q; cases q; exact z
  have s3a : w3.heap.size ≤ w2.heap.size := by omega
  have s3b : w2.heap.size ≤ w3.heap.size := by omega
  clear hg3 hb3 s3
  go_wp2_with (first
    | (at_builtin; go_must (refine wpList_append_all (by rfl) _ _ _ (by rfl) w.heap.size 42 i0 _ 3 24 acts_under hi0 hz0 hz1 hz2 rfl (by omega) _ 0 [] (by rfl) (HO0.out _ (by omega)) (some ⟨w1.heap.size, 0, none⟩) (n + 5) (n + 5) (actCells (pad dk n) (pad da n) (pad db n) (n + 5)) (by rfl) (fun q => by cases q) (actCells_length _ _ _ _) N3.out (actCells_one _ _ _ _) (by unfold maxLen; omega) (by omega) (by simp; omega) ?_); intro v4 w4 hown4 hgrow4 hnl4; obtain ⟨b4, c4, g4, rfl, _, ha4⟩ := acts_of_owns (n := n + 5) (by simpa using hown4) PU.out (by unfold maxLen; omega); have F4 : Hid (Off w3.heap.size (w3.alloc (.cells #[] 42)) w4) := ⟨hgrow4.os, hgrow4.tape, hgrow4.output, hgrow4.size, fun k hk hn => hgrow4.block k hk (by simp [Value.ownBlock]; omega)⟩; have W4 : Hid (Acts w4 b4 g4 0 (n + 5) (pad dk n) (pad da n) (pad db n)) := ha4; clear hown4 hgrow4 hnl4 ha4))
  have s4 := F4.out.size
  simp only [World.size_alloc] at s4
  have g0 : w1.heap.size < w4.heap.size := by omega
  have R4 : Hid (Row3 w4 w1.heap.size (n + 5) (pad dk n) (pad da n) (pad db n)) := (R3.out.below (by omega) ((Below.refl _ _).alloc (Nat.le_refl _) _)).off (by simp; omega) F4.out (by omega)
  have B4 : Hid (Below w.heap.size w w4) := (B3.out.alloc (by omega) _).trans (F4.out.below (by omega) (by simp; omega))
  clear F4 R3 B3 A3 N3 N2 B2 G2 HO0 hcp
  have ACT : Hid (∀ W : World, Row3 W w1.heap.size (n + 5) (pad dk n) (pad da n) (pad db n) → w1.heap.size < W.heap.size → Acts W (some ⟨w1.heap.size, 0, none⟩) w1.heap.size 0 n dk da db) := fun W hR hg => (hR.acts hg (by omega) (fun i hi => PU.out i (by omega)) (by unfold maxLen; omega)).congr (fun i hi => ⟨pad_lt hi, pad_lt hi, pad_lt hi⟩)
  refine Calls.mono (HD.out _ _ _ (n + 5) (ACT.out _ R4.out g0)) ?_
  rintro e w5 ⟨ba, ca, ga, rfl, hb5, hga, ga0, hra⟩
  have s5 := hb5.size
  have B5 : Hid (Below w.heap.size w w5) := B4.out.trans (hb5.mono B4.out.size)
  have R5 : Hid (Row3 w5 w1.heap.size (n + 5) (pad dk n) (pad da n) (pad db n)) := R4.out.below g0 hb5
  have W5 : Hid (Acts w5 b4 g4 0 (n + 5) (pad dk n) (pad da n) (pad db n)) := W4.out.below hb5
  have GA : Hid _ := hga
  have RA5 : Hid (Row2 _ _ _ _ _) := hra
  clear hb5 hga hra R4 W4 B4
  go_wp2_with fail
  refine Calls.mono (HD.out _ _ _ (n + 5) (ACT.out _ R5.out (by omega))) ?_
  rintro e w6 ⟨bb, cb, gb, rfl, hb6, hgb, gb0, hrb⟩
  have s6 := hb6.size
  have B6 : Hid (Below w.heap.size w w6) := B5.out.trans (hb6.mono B5.out.size)
  have R6 : Hid (Row3 w6 w1.heap.size (n + 5) (pad dk n) (pad da n) (pad db n)) := R5.out.below (by omega) hb6
  have W6 : Hid (Acts w6 b4 g4 0 (n + 5) (pad dk n) (pad da n) (pad db n)) := W5.out.below hb6
  have RA6 : Hid (Row2 w6 ga m O V) := RA5.out.below (fun q => (GA.out q).2.2) hb6
  have GB : Hid _ := hgb
  have OB6 : Hid (OutsAt w6 bb gb m O V) := hrb.outs (fun q => (hgb q).1) (fun q => (hgb q).2.2)
  clear hb6 hgb hrb R5 W5 B5 RA5
  go_wp2_with fail
  refine Calls.mono (HT.out _ _ _ (n + 5) (ACT.out _ R6.out (by omega))) ?_
  rintro e w7 ⟨bs, cs, gs, rfl, hb7, hgs, gs0, hrs⟩
  have s7 := hb7.size
  have B7 : Hid (Below w.heap.size w w7) := B6.out.trans (hb7.mono B6.out.size)
  have R7 : Hid (Row3 w7 w1.heap.size (n + 5) (pad dk n) (pad da n) (pad db n)) := R6.out.below (by omega) hb7
  have W7 : Hid (Acts w7 b4 g4 0 (n + 5) (pad dk n) (pad da n) (pad db n)) := W6.out.below hb7
  have RA7 : Hid (Row2 w7 ga m O V) := RA6.out.below (fun q => by have := (GA.out q).2.2; omega) hb7
  have OB7 : Hid (OutsAt w7 bb gb m O V) := OB6.out.below hb7
  have GS : Hid _ := hgs
  have RS7 : Hid (Row1 w7 gs m M) := hrs
  clear hb7 hgs hrs R6 W6 B6 RA6 OB6
  go_wp2_with fail
  refine Calls.mono (HT.out _ _ _ (n + 5) (ACT.out _ R7.out (by omega))) ?_
  rintro e w8 ⟨bt, ct, gt, rfl, hb8, hgt, gt0, hrt⟩
  have s8 := hb8.size
  have B8 : Hid (Below w.heap.size w w8) := B7.out.trans (hb8.mono B7.out.size)
  have R8 : Hid (Row3 w8 w1.heap.size (n + 5) (pad dk n) (pad da n) (pad db n)) := R7.out.below (by omega) hb8
  have W8 : Hid (Acts w8 b4 g4 0 (n + 5) (pad dk n) (pad da n) (pad db n)) := W7.out.below hb8
  have RA8 : Hid (Row2 w8 ga m O V) := RA7.out.below (fun q => by have := (GA.out q).2.2; omega) hb8
  have OB8 : Hid (OutsAt w8 bb gb m O V) := OB7.out.below hb8
  have RS8 : Hid (Row1 w8 gs m M) := RS7.out.below (fun q => (GS.out q).2.2) hb8
  have GT : Hid _ := hgt
  have NT8 : Hid (NumsAt w8 bt gt m M) := hrt.nums (fun q => (hgt q).1) (fun q => (hgt q).2.2)
  clear hb8 hgt hrt R7 W7 B7 RA7 OB7 RS7 HD HT
  go_wp2_with fail
  go_loopw [20] (fun i wr => ∃ j : Nat, j ≤ n + 5 ∧ i = .int .i64 j ∧ Below w8.heap.size w8 wr) (fun i _ => n + 5 - (intOf i).toNat)
  case atStart => exact ⟨0, Nat.zero_le _, rfl, Below.refl _ _⟩
  case round =>
    obtain ⟨j, hj, rfl, hbw⟩ := hrel
    have HW : Hid _ := hbw
    by_cases hlt : j < n + 5
    · obtain rfl : b4 = some ⟨g4, 0, none⟩ := W8.out.base (by omega)
      obtain ⟨⟨x0, x1, x2⟩, _⟩ := (R8.out.below (by omega) hbw) j hlt
      obtain ⟨y0, y1, y2⟩ := (W8.out.below hbw).cells j hlt
      simp only [Nat.zero_add] at y0 y1 y2
      have j0 : (0 : Int) ≤ (j : Int) := Int.natCast_nonneg _
      have j1 : (j : Int) < (n : Int) + 5 := by omega
      have zx : w1.heap.size < wr.heap.size := by have := hbw.size; omega
      have zy : g4 < wr.heap.size := by have := (W8.out.below hbw).lt (by omega); exact this
      clear hbw
      go_wp2_with fail
      go_quiet (fail)
      go_wp2_with fail
      exact ⟨⟨j + 1, by omega, by go_num, below_drewN HW.out _⟩, by simp [intOf]; omega⟩
    · obtain rfl : j = n + 5 := by omega
      have s9 := hbw.size
      have B9 : Hid (Below w.heap.size w wr) := B8.out.trans (hbw.mono B8.out.size)
      have R9 : Hid (Row3 wr w1.heap.size (n + 5) (pad dk n) (pad da n) (pad db n)) := R8.out.below (by omega) hbw
      have RA9 : Hid (Row2 wr ga m O V) := RA8.out.below (fun q => by have := (GA.out q).2.2; omega) hbw
      have OB9 : Hid (OutsAt wr bb gb m O V) := OB8.out.below hbw
      have RS9 : Hid (Row1 wr gs m M) := RS8.out.below (fun q => by have := (GS.out q).2.2; omega) hbw
      have NT9 : Hid (NumsAt wr bt gt m M) := NT8.out.below hbw
      clear hbw HW R8 W8 B8 RA8 OB8 RS8 NT8 hlt hj
      generalize wr = W9 at *
      go_wp2_with fail
      refine Calls.mono (HR.out _ (HA.out.below B9.out)) ?_
      rintro e w10 ⟨bw, cw, gw, rfl, hb10, hgw, how⟩
      have s10 := hb10.size
      have B10 : Hid (Below w.heap.size w w10) := B9.out.trans (hb10.mono B9.out.size)
      have R10 : Hid (Row3 w10 w1.heap.size (n + 5) (pad dk n) (pad da n) (pad db n)) := R9.out.below (by omega) hb10
      have RA10 : Hid (Row2 w10 ga m O V) := RA9.out.below (fun q => by have := (GA.out q).2.2; omega) hb10
      have OB10 : Hid (OutsAt w10 bb gb m O V) := OB9.out.below hb10
      have RS10 : Hid (Row1 w10 gs m M) := RS9.out.below (fun q => by have := (GS.out q).2.2; omega) hb10
      have NT10 : Hid (NumsAt w10 bt gt m M) := NT9.out.below hb10
      have GW : Hid _ := hgw
      have OW10 : Hid (OutsAt w10 bw gw m O V) := how
      clear hb10 hgw how R9 B9 RA9 OB9 RS9 NT9 HR
      go_wp2_with fail
      go_loopw [24] (fun i wr => ∃ (j : Nat) (O' : Nat → Int) (V' : Nat → Bool), j ≤ m ∧ i = .int .i64 j ∧ Row2 wr ga m O' V' ∧ Off ga w10 wr) (fun i _ => m - (intOf i).toNat)
      case atStart => exact ⟨0, O, V, Nat.zero_le _, rfl, RA10.out, Off.refl _ _⟩
      case round =>
        obtain ⟨j, O', V', hj, rfl, hrow, hoff⟩ := hrel
        by_cases hlt : j < m
        · obtain ⟨rfl, ga1, ga2⟩ := GA.out (by omega)
          obtain ⟨⟨x0, x1⟩, x2, x3⟩ := hrow j hlt
          have j0 : (0 : Int) ≤ (j : Int) := Int.natCast_nonneg _
          have j1 : (j : Int) < (m : Int) := by omega
          have F : Hid (Row2 _ ga m _ _) := hrow.set hlt 12345 (!V' j)
          have HF : Hid _ := hoff
          clear hrow hoff
          go_wp2_with fail
          exact ⟨⟨j + 1, _, _, by omega, by go_num, F.out, (HF.out.set _ _).set _ _⟩, by simp [intOf]; omega⟩
        · obtain rfl : j = m := by omega
          have s11 := hoff.size
          have B11 : Hid (Below w.heap.size w wr) := B10.out.trans (hoff.below (by omega) B10.out.size)
          have R11 : Hid (Row3 wr w1.heap.size (n + 5) (pad dk n) (pad da n) (pad db n)) := R10.out.off (by omega) hoff (by omega)
          have OB11 : Hid (OutsAt wr bb gb j O V) := OB10.out.off hoff (fun q => by have := (GA.out q).2.2; omega)
          have RS11 : Hid (Row1 wr gs j M) := RS10.out.off (fun q => by have := (GS.out q).2.2; omega) hoff (fun q => by have := (GA.out q).2.2; omega)
          have NT11 : Hid (NumsAt wr bt gt j M) := NT10.out.off hoff (fun q => by have := (GA.out q).2.2; omega)
          have OW11 : Hid (OutsAt wr bw gw j O V) := OW10.out.off hoff (fun q => by have := (GA.out q).2.2; have := GW.out q; omega)
          clear hrow hoff R10 B10 RA10 OB10 RS10 NT10 OW10 O' V' hlt hj
          generalize wr = W11 at *
          go_wp2_with fail
          refine Calls.mono (HS.out _ (HA.out.below B11.out)) ?_
          rintro e w12 ⟨br, cr, gr, rfl, hb12, hgr, hnr⟩
          have s12 := hb12.size
          have B12 : Hid (Below w.heap.size w w12) := B11.out.trans (hb12.mono B11.out.size)
          have R12 : Hid (Row3 w12 w1.heap.size (n + 5) (pad dk n) (pad da n) (pad db n)) := R11.out.below (by omega) hb12
          have OB12 : Hid (OutsAt w12 bb gb j O V) := OB11.out.below hb12
          have RS12 : Hid (Row1 w12 gs j M) := RS11.out.below (fun q => by have := (GS.out q).2.2; omega) hb12
          have NT12 : Hid (NumsAt w12 bt gt j M) := NT11.out.below hb12
          have OW12 : Hid (OutsAt w12 bw gw j O V) := OW11.out.below hb12
          have GR : Hid _ := hgr
          have NR12 : Hid (NumsAt w12 br gr j M) := hnr
          clear hb12 hgr hnr R11 B11 OB11 RS11 NT11 OW11 HS
          generalize j = m at *
          go_wp2_with fail
          go_loopw [27] (fun i wr => ∃ (j : Nat) (O' : Nat → Int), j ≤ m ∧ i = .int .i64 j ∧ Row1 wr gs m O' ∧ Off gs w12 wr) (fun i _ => m - (intOf i).toNat)
          case atStart => exact ⟨0, M, Nat.zero_le _, rfl, RS12.out, Off.refl _ _⟩
          case round =>
            obtain ⟨j, O', hj, rfl, hrow, hoff⟩ := hrel
            by_cases hlt : j < m
            · obtain ⟨rfl, gs1, gs2⟩ := GS.out (by omega)
              obtain ⟨x0, x1⟩ := hrow j hlt
              have j0 : (0 : Int) ≤ (j : Int) := Int.natCast_nonneg _
              have j1 : (j : Int) < (m : Int) := by omega
              have F : Hid (Row1 _ gs m _) := hrow.set hlt 54321
              have HF : Hid _ := hoff
              clear hrow hoff
              go_wp2_with fail
              exact ⟨⟨j + 1, _, by omega, by go_num, F.out, HF.out.set _ _⟩, by simp [intOf]; omega⟩
            · obtain rfl : j = m := by omega
              have s13 := hoff.size
              have B13 : Hid (Below w.heap.size w wr) := B12.out.trans (hoff.below (by omega) B12.out.size)
              have R13 : Hid (Row3 wr w1.heap.size (n + 5) (pad dk n) (pad da n) (pad db n)) := R12.out.off (by omega) hoff (by omega)
              have OB13 : Hid (OutsAt wr bb gb j O V) := OB12.out.off hoff (fun q => by have := (GB.out q).2.2; omega)
              have NT13 : Hid (NumsAt wr bt gt j M) := NT12.out.off hoff (fun q => by have := (GS.out q).2.2; omega)
              have OW13 : Hid (OutsAt wr bw gw j O V) := OW12.out.off hoff (fun q => by have := (GS.out q).2.2; have := GW.out q; omega)
              have NR13 : Hid (NumsAt wr br gr j M) := NR12.out.off hoff (fun q => by have := (GS.out q).2.2; have := GR.out q; omega)
              clear hrow hoff R12 B12 OB12 RS12 NT12 OW12 NR12 O' hlt hj
              generalize wr = W13 at *
              generalize j = m at *
              go_wp2_with fail
              refine (are_same gb gw m cb cw bb bw O V _ OB13.out OW13.out hm).mono ?_
              rintro e w14 ⟨rfl, hb14⟩
              have s14 := hb14.size
              have B14 : Hid (Below w.heap.size w w14) := B13.out.trans (hb14.mono B13.out.size)
              have R14 : Hid (Row3 w14 w1.heap.size (n + 5) (pad dk n) (pad da n) (pad db n)) := R13.out.below (by omega) hb14
              have OB14 : Hid (OutsAt w14 bb gb m O V) := OB13.out.below hb14
              have NT14 : Hid (NumsAt w14 bt gt m M) := NT13.out.below hb14
              have OW14 : Hid (OutsAt w14 bw gw m O V) := OW13.out.below hb14
              have NR14 : Hid (NumsAt w14 br gr m M) := NR13.out.below hb14
              clear hb14 R13 B13 OB13 NT13 OW13 NR13
              go_wp2_with fail
              refine (words_same gt gr m ct cr bt br M _ NT14.out NR14.out hm).mono ?_
              rintro e w15 ⟨rfl, hb15⟩
              have s15 := hb15.size
              have B15 : Hid (Below w.heap.size w w15) := B14.out.trans (hb15.mono B14.out.size)
              have R15 : Hid (Row3 w15 w1.heap.size (n + 5) (pad dk n) (pad da n) (pad db n)) := R14.out.below (by omega) hb15
              have OB15 : Hid (OutsAt w15 bb gb m O V) := OB14.out.below hb15
              have OW15 : Hid (OutsAt w15 bw gw m O V) := OW14.out.below hb15
              clear hb15 R14 B14 OB14 NT14 OW14 NR14
              go_wp2_with fail
              obtain ⟨i1, hi1, hy0, hy1, hy2⟩ := info_parts ract_info
              have LB : Hid (m ≠ 0 → gb < w15.heap.size) := fun q => OB15.out.lt q
              have LW : Hid (m ≠ 0 → gw < w15.heap.size) := fun q => OW15.out.lt q
              go_loopw [28, 29] (fun v i wr => ∃ j : Nat, j ≤ n ∧ i = .int .i64 j ∧ Below w.heap.size w wr ∧ w15.heap.size ≤ wr.heap.size ∧ Row3 wr w1.heap.size (n + 5) (pad dk n) (fun i => if i < j then inc da i else pad da n i) (pad db n) ∧ OutsAt wr bb gb m O V ∧ OutsAt wr bw gw m O V ∧ wr.ownsRow w15.heap.size 45 3 v j (actCells dk (inc da) db j)) (fun _ i _ => n - (intOf i).toNat)
              case atStart => exact ⟨0, Nat.zero_le _, rfl, B15.out, Nat.le_refl _, by simpa using R15.out, OB15.out, OW15.out, World.ownsRow_nil _ _ _ _⟩
              case round =>
                obtain ⟨j, hj, rfl, hbw, hsz, hrow, hob, how, hown⟩ := hrel
                obtain ⟨oa, oc, rfl⟩ := owns_form hown
                have HW : Hid _ := hbw
                have HO : Hid (World.ownsRow _ _ _ _ _ _ _) := hown
                have HOB : Hid (OutsAt _ _ _ _ _ _) := hob
                have HOW : Hid (OutsAt _ _ _ _ _ _) := how
                by_cases hlt : j < n
                · obtain ⟨⟨x0, x1, x2⟩, x3⟩ := hrow j (by omega)
                  simp only [Nat.lt_irrefl, if_false, pad_lt hlt] at x0 x1 x2
                  have j0 : (0 : Int) ≤ (j : Int) := Int.natCast_nonneg _
                  have j1 : (j : Int) < (n : Int) := by omega
                  have zx : w1.heap.size < wr.heap.size := by omega
                  have HR : Hid (Row3 _ _ _ _ _ _) := hrow
                  obtain ⟨W16, hW16⟩ : ∃ W16, W16 = wr.setCell ⟨w1.heap.size, j * 3 + 1, none⟩ (.int .u64 (IntKind.u64.wrap (da j + 1))) := ⟨_, rfl⟩
                  have z16 : W16.heap.size = wr.heap.size := by rw [hW16]; simp
                  have z16a : w15.heap.size ≤ W16.heap.size := by omega
                  have R16 : Hid (Row3 W16 w1.heap.size (n + 5) (pad dk n) (fun i => if i < j + 1 then inc da i else pad da n i) (pad db n)) := by
                    show Row3 _ _ _ _ _ _
                    have h1 := HR.out.set (j := j) (by omega) (inc da j)
                    have e1 : (fun i => if i = j then inc da j else if i < j then inc da i else pad da n i) = (fun i => if i < j + 1 then inc da i else pad da n i) := by
                      funext i
                      by_cases q : i = j
                      · subst q; rw [if_pos rfl, if_pos (by omega)]
                      · by_cases q2 : i < j
                        · rw [if_neg q, if_pos q2, if_pos (by omega)]
                        · rw [if_neg q, if_neg q2, if_neg (by omega)]
                    rw [e1] at h1
                    rw [hW16]
                    exact h1
                  have F16 : Off w1.heap.size wr W16 := by rw [hW16]; exact (Off.refl _ _).set _ _
                  have OB16 : Hid (OutsAt W16 bb gb m O V) := HOB.out.off F16 (fun q => by omega)
                  have OW16 : Hid (OutsAt W16 bw gw m O V) := HOW.out.off F16 (fun q => by have := GW.out q; omega)
                  have O16 : Hid (W16.ownsRow w15.heap.size 45 3 (.slice oa j oc) j (actCells dk (inc da) db j)) := by
                    show World.ownsRow _ _ _ _ _ _ _
                    rw [hW16]
                    exact owns_set HO.out (by omega)
                  have B16 : Hid (Below w.heap.size w W16) := HW.out.trans (F16.below (by omega) HW.out.size)
                  have ag := ownBlock_ge O16.out w1.heap.size (by omega)
                  have y0 : W16.cell? ⟨w1.heap.size, j * 3, none⟩ = some (.int .i64 (dk j)) := by have := (R16.out j (by omega)).1.1; rwa [pad_lt hlt] at this
                  have y1 : W16.cell? ⟨w1.heap.size, j * 3 + 1, none⟩ = some (.int .u64 (IntKind.u64.wrap (da j + 1))) := by have := (R16.out j (by omega)).1.2.1; simp only [if_pos (show j < j + 1 by omega)] at this; exact this
                  have y2 : W16.cell? ⟨w1.heap.size, j * 3 + 2, none⟩ = some (.int .u64 (db j)) := by have := (R16.out j (by omega)).1.2.2; rwa [pad_lt hlt] at this
                  have z16b : W16.heap.size ≤ wr.heap.size := by omega
                  have z16c : wr.heap.size ≤ W16.heap.size := by omega
                  clear hrow hbw hob how hown F16 z16
                  go_wp2_with fail
                  rw [← hW16]
                  clear hW16 x0 x1 x2 x3 HR
                  have zx6 : w1.heap.size < W16.heap.size := by omega
                  go_region_held3 (fun w' => w'.cell? ⟨w1.heap.size, j * 3, none⟩ = some (.int .i64 (dk j)) ∧ w'.cell? ⟨w1.heap.size, j * 3 + 1, none⟩ = some (.int .u64 (IntKind.u64.wrap (da j + 1))) ∧ w'.cell? ⟨w1.heap.size, j * 3 + 2, none⟩ = some (.int .u64 (db j)))
                    (first
                      | go_keep
                      | (go_split_ands
                         refine ⟨?_, ?_, ?_⟩
                         · (rw [hgrow.cell_far _ (by simp; omega) (Ne.symm ag)]; assumption)
                         · (rw [hgrow.cell_far _ (by simp; omega) (Ne.symm ag)]; assumption)
                         · (rw [hgrow.cell_far _ (by simp; omega) (Ne.symm ag)]; assumption)))
                    ((refine step_append_lies _ (by rfl) _ _ _ (by rfl) w15.heap.size 45 i1 _ 3 24 racts_under hi1 hy0 hy1 hy2 rfl (by omega) _ j (actCells dk (inc da) db j) (by rfl) ((O16.out.alloc _).drew)
                        ⟨W16.heap.size, 0, none⟩ 1 1 [.int .i64 (dk j), .int .u64 (IntKind.u64.wrap (da j + 1)), .int .u64 (db j)] (by rfl) (by rfl) (World.news_of_block (cs := #[.int .i64 (dk j), .int .u64 (IntKind.u64.wrap (da j + 1)), .int .u64 (db j)]) (t := 45) (fr := (0, 0)) (heap_alloc_new W16 _)) (by simp [Value.oneCell'])
                        (by omega) (by unfold maxLen; omega) (by omega) (by simp; omega) (W16.heap.size + 1) (by simp) ?_; intro gg ccap w17 hown1 hgrow hat hlt2))
                  have B17 : Hid (Below w15.heap.size W16 w17) := Below.grown (((Below.refl _ _).alloc z16a _).drew) hgrow (by simp; omega) (ownB O16.out)
                  have O17 : Hid (World.ownsRow _ _ _ _ _ _ _) := hown1
                  clear hgrow hat hown1 y0 y1 y2
                  go_wp2_with fail
                  have s17 := B17.out.size
                  exact ⟨⟨j + 1, by omega, by go_num, B16.out.trans (B17.out.mono (by have := B15.out.size; omega)), by omega, R16.out.low B17.out (by omega), OB16.out.low B17.out LB.out, OW16.out.low B17.out LW.out, O17.out⟩, by simp [intOf]; omega⟩
                · obtain rfl : j = n := by omega
                  have A18 : Hid (Acts wr (some ⟨w1.heap.size, 0, none⟩) w1.heap.size 0 j dk (inc da) db) := by
                    show Acts _ _ _ _ _ _ _ _
                    exact (hrow.acts (n := j) (by omega) (by omega) (fun i hi => ⟨by simp only [if_pos hi]; exact inc_u64 _ _, (PU.out i (by omega)).2⟩) (by unfold maxLen; omega)).congr (fun i hi => ⟨pad_lt hi, by simp only [if_pos hi], pad_lt hi⟩)
                  obtain ⟨b18, c18, g18, e18, _, n18⟩ := acts_of_owns hown (fun i hi => ⟨inc_u64 _ _, (HA.out.u64 i hi).2⟩) (by unfold maxLen; omega)
                  rw [e18]
                  have N18 : Hid (Acts wr b18 g18 0 j dk (inc da) db) := n18
                  clear hrow hbw hob how hown e18 n18
                  generalize wr = W18 at *
                  go_wp2_with fail
                  refine Calls.mono (HD2.out _ _ _ (j + 5) A18.out) ?_
                  rintro e w19 ⟨bc, cc, gc, rfl, hb19, hgc, gc0, hrc⟩
                  have B19 : Hid (Below w.heap.size w w19) := HW.out.trans (hb19.mono HW.out.size)
                  have OC19 : Hid (OutsAt w19 bc gc m O2 V2) := hrc.outs (fun q => (hgc q).1) (fun q => (hgc q).2.2)
                  have OB19 : Hid (OutsAt w19 bb gb m O V) := HOB.out.below hb19
                  have OW19 : Hid (OutsAt w19 bw gw m O V) := HOW.out.below hb19
                  have N19 : Hid (Acts w19 b18 g18 0 j dk (inc da) db) := N18.out.below hb19
                  clear hb19 hgc hrc
                  go_wp2_with fail
                  refine Calls.mono (HR2.out _ _ _ c18 N19.out) ?_
                  rintro e w20 ⟨bz, cz, gz, rfl, hb20, hgz, hoz⟩
                  have B20 : Hid (Below w.heap.size w w20) := B19.out.trans (hb20.mono B19.out.size)
                  have OC20 : Hid (OutsAt w20 bc gc m O2 V2) := OC19.out.below hb20
                  have OB20 : Hid (OutsAt w20 bb gb m O V) := OB19.out.below hb20
                  have OW20 : Hid (OutsAt w20 bw gw m O V) := OW19.out.below hb20
                  have OZ20 : Hid (OutsAt w20 bz gz m O2 V2) := hoz
                  clear hb20 hgz hoz
                  go_wp2_with fail
                  refine (are_same gc gz m cc cz bc bz O2 V2 _ OC20.out OZ20.out hm).mono ?_
                  rintro e w21 ⟨rfl, hb21⟩
                  have B21 : Hid (Below w.heap.size w w21) := B20.out.trans (hb21.mono B20.out.size)
                  have OB21 : Hid (OutsAt w21 bb gb m O V) := OB20.out.below hb21
                  have OW21 : Hid (OutsAt w21 bw gw m O V) := OW20.out.below hb21
                  clear hb21
                  go_wp2_with fail
                  refine (are_same gb gw m cb cw bb bw O V _ OB21.out OW21.out hm).mono ?_
                  rintro e w22 ⟨rfl, hb22⟩
                  have B22 : Hid (Below w.heap.size w w22) := B21.out.trans (hb22.mono B21.out.size)
                  clear hb22
                  go_wp2_with fail
                  go_ret
                  exact ⟨rfl, B22.out⟩
end Go.Proofs.YtffnoaafmaeihaaGreat
