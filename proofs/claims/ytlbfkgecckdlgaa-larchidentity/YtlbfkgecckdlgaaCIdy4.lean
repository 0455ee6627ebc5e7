/- Layer 2: LarchIdentity, walked, where the acts are more than 200. -/
import Derived.Test.YtlbfkgecckdlgaaCIdy2
namespace Go.Proofs.Ytlbfkgecckdlgaa
open Go.RowKit

set_option maxRecDepth 100000 in
set_option maxHeartbeats 16000000 in
theorem idy_great (cb co m ca ab ao n cap : Nat) (T : Int) (x base : Option Addr) (f dk di da db : Nat → Int) (w : World) (hx : NumsAt w x cb co m f) (hxn : x = none → m = 0 ∧ ca = 0) (hm8 : m * 8 ≤ 140737488355328) (h : CActs w base ab ao n dk di da db) (hbn : base = none → n = 0 ∧ cap = 0) (hnc : n ≤ cap) (hbig : 200 < n) :
    Calls Try.prog 10 #[.slice x m ca, .int .i64 T, .slice base n cap] w fun e w' => e = .returned (.bool true) ∧ Below w.heap.size w w' := by
  obtain ⟨i0, hi0, hz0, hz1, hz2⟩ := info_parts cact_info
  have HA : Hid _ := h
  have HX : Hid _ := hx
  clear h hx
  go_enter Try.func10, Try.ntmps10
  go_wp2_with fail
  refine (lit_ids w).mono ?_
  rintro e w1 ⟨a1, c1, g1, a2, c2, g2, a3, c3, g3, rfl, hb1, h1, h2, h3⟩
  have H1 : Hid _ := h1
  have H2 : Hid _ := h2
  have H3 : Hid _ := h3
  have HB : Hid _ := hb1
  clear h1 h2 h3 hb1
  go_wp2_with fail
  refine (sameInts_same g1 0 w1.heap.size 0 3 c1 3 _ _ (cso lf lk li la lb) _ (H1.out.below ((Below.refl _ _).alloc (Nat.le_refl _) _)) (lit3 w1 3 0 1 1 _ (by decide) (by decide) (by decide))).mono ?_
  rintro e w2 ⟨rfl, hb2⟩
  have hB2 : Below w1.heap.size w1 w2 := ((Below.refl _ _).alloc (Nat.le_refl _) _).trans (hb2.mono (by simp))
  have HB2 : Hid _ := hB2
  clear hb2 hB2
  go_wp2_with fail
  refine (sameInts_same g2 0 w2.heap.size 0 1 c2 1 _ _ (csn lf lk li la lb 3) _ ((H2.out.below HB2.out).below ((Below.refl _ _).alloc (Nat.le_refl _) _)) (lit1 w2 3 1 _ (by decide))).mono ?_
  rintro e w3 ⟨rfl, hb3⟩
  have hB3 : Below w1.heap.size w1 w3 := HB2.out.trans ((((Below.refl _ _).alloc (Nat.le_refl _) _).trans (hb3.mono (by simp))).mono HB2.out.size)
  have HB3 : Hid _ := hB3
  clear hb3 hB3
  go_wp2_with fail
  refine (sameInts_same g3 0 w3.heap.size 0 3 c3 3 _ _ lk _ ((H3.out.below HB3.out).below ((Below.refl _ _).alloc (Nat.le_refl _) _)) (lit3 w3 3 5 5 1 _ (by decide) (by decide) (by decide))).mono ?_
  rintro e w4 ⟨rfl, hb4⟩
  have hB4 : Below w1.heap.size w1 w4 := HB3.out.trans ((((Below.refl _ _).alloc (Nat.le_refl _) _).trans (hb4.mono (by simp))).mono HB3.out.size)
  have BW : Hid (Below w.heap.size w w4) := HB.out.trans (hB4.mono HB.out.size)
  clear hb4 hB4 HB HB2 HB3 H1 H2 H3
  have hb' : (200 : Int) < (n : Int) := by omega
  have NC0 : (n : Int) ≤ (cap : Int) := by omega
  go_wp2_with fail
  have HAc : Hid (CActs w base ab ao 200 dk di da db) := HA.out.cut (by omega)
  have NB : base = none → 200 = 0 ∧ cap = 0 := fun q => by have := hbn q; omega
  have NL : 200 ≤ 200 := by omega
  refine (copyInts_any cb co m ca x f w4 (HX.out.below BW.out) hxn hm8).mono ?_
  rintro e w5 ⟨gc, cc, rfl, hgc0, hgc1, hic, hb5⟩
  have B5 : Hid (Below w.heap.size w w5) := BW.out.trans (hb5.mono BW.out.size)
  have NC : Hid _ := hic.nums hgc1 (by have := HX.out.len; exact this)
  have s5 := B5.out.size
  have HO : Hid (World.ownsRow _ _ _ _ _ _ _) := (⟨rfl, Or.inr ⟨w5.heap.size, 0, #[], rfl, Nat.le_refl _, heap_alloc_at _ _ _ rfl, Nat.le_refl _, by unfold maxLen; omega, rfl, rfl⟩⟩ : (w5.alloc (.cells #[] 36)).ownsRow w5.heap.size 36 4 (.slice (some ⟨w5.heap.size, 0, none⟩) 0 0) 0 [])
  have HNew : Hid _ := cacts_news ((HAc.out.below B5.out).below ((Below.refl w5.heap.size w5).alloc (Nat.le_refl _) (.cells #[] 36)))
  clear hic hb5
  go_wp2_with (first | (at_builtin; (refine wpList_append_all (by rfl) _ _ _ (by rfl) w5.heap.size 36 i0 _ 4 32 cacts_under hi0 hz0 hz1 hz2 rfl (by omega) _ 0 [] (by rfl) HO.out base 200 cap (cactCells dk di da db 200) (by rfl) NB (cactCells_length dk di da db 200) HNew.out (cact_one dk di da db 200) (by unfold maxLen; omega) (by omega) (by simp) ?_); intro v' w6 hown6 hgrow hnil))
  have ho6 : w6.ownsRow w5.heap.size 36 4 v' 200 (cactCells dk di da db 200) := by simpa using hown6
  have hb6 : Below w5.heap.size w5 w6 := Below.grown ((Below.refl _ _).alloc (Nat.le_refl _) _) hgrow (by simp) (by intro b hb; simp [Value.ownBlock] at hb; omega)
  obtain ⟨bb, cp, gb, rfl, hgb, hbn6, ha6⟩ := cacts_of_owns ho6 (by unfold maxLen; omega)
  have B6 : Hid (Below w.heap.size w w6) := B5.out.trans (hb6.mono s5)
  have NC6 : Hid _ := NC.out.below hb6
  have HA6 : Hid _ := ha6
  clear HO HNew hown6 hgrow hnil ho6 hb6 ha6
  by_cases he : isErr m 200 T f dk di da db = 0
  · have hpart : (m ≤ 64 ∧ 0 ≤ T ∧ T ≤ 64) ∧ allT f T m = true ∧ frst (fun j => idErr (dk j) (di j) (da j) (db j) m T) 200 = 0 := by
      unfold isErr at he
      split at he
      · cases he
      · split at he
        · cases he
        · split at he
          · cases he
          · rename_i h1 h2 h3
            exact ⟨by omega, by simpa using h3, he⟩
    obtain ⟨⟨hm, hT0, hT1⟩, hall, hfr⟩ := hpart
    obtain ⟨k, rfl⟩ : ∃ k : Nat, T = (k : Int) := ⟨T.toNat, by omega⟩
    have HI : Hid _ := ids_out gc 0 m cc gb 0 200 cp k _ bb f dk di da db w6 NC6.out HA6.out hm (by omega) (by omega) hall hfr
    have HE : Hid _ := frst_zero hfr
    clear he hfr hall
    refine Calls.mono HI.out ?_
    rintro e w7 ⟨x1, y1, z1, x2, y2, z2, x3, y3, z3, rfl, hb7, p1, p2, p3⟩
    have B7 : Hid (Below w.heap.size w w7) := B6.out.trans (hb7.mono B6.out.size)
    have P1 : Hid _ := p1
    have P2 : Hid _ := p2
    have P3 : Hid _ := p3
    clear hb7 p1 p2 p3 HI NC NC6 HA6 B6 B5
    go_wp2_with (first | (go_at_call 47; refine (copyInts_any cb co m ca x f w7 (HX.out.below B7.out) hxn hm8).mono ?_; rintro e w8 ⟨g, cg, rfl, hg0, hg1, hi8, hb8⟩))
    have HLI0 : Hid _ := (⟨hi8, Kp.refl _ _⟩ : LI w8 w8 g m 0 f dk di da db)
    have s8 := hb8.size
    have B8 : Hid (Below w.heap.size w w8) := B7.out.trans (hb8.mono B7.out.size)
    have P1' : Hid _ := P1.out.below hb8
    have P2' : Hid _ := P2.out.below hb8
    have P3' : Hid _ := P3.out.below hb8
    have l1 : Hid (200 ≠ 0 → z1 < g) := fun q => by have := P1.out.lt q; omega
    have l3 : Hid (200 ≠ 0 → z3 < g) := fun q => by have := P3.out.lt q; omega
    have l2 : Hid (m ≠ 0 → z2 < g) := fun q => by have := P2.out.lt q; omega
    have sw7 : Hid (w.heap.size ≤ g) := by have := B7.out.size; show w.heap.size ≤ g; omega
    clear hi8 hb8 P1 P2 P3 B7
    go_loopw [93] (fun i wr => ∃ q : Nat, q ≤ 200 ∧ i = .int .i64 q ∧ LI w8 wr g m q f dk di da db) (fun i _ => 200 - (intOf i).toNat)
    case atStart => exact ⟨0, Nat.zero_le _, rfl, HLI0.out⟩
    case round =>
      obtain ⟨q, hq, rfl, hp0⟩ := hrel
      have HP : Hid _ := hp0
      clear hp0 HLI0
      have szr := HP.out.kp.size
      by_cases hlt2 : q < 200
      · obtain rfl : base = some ⟨ab, ao, none⟩ := HAc.out.base (by omega)
        have hA : ab < w.heap.size := HAc.out.lt (by omega)
        have hwg := sw7.out
        obtain ⟨c0, c1, c2, c3⟩ := ((HAc.out.below B8.out).kp HP.out.kp (fun _ => by omega)).cells q hlt2
        obtain ⟨hd, ⟨k0, k1⟩, _, _⟩ := id_zero (HE.out q hlt2)
        obtain ⟨p, hpd⟩ : ∃ p : Nat, di q = (p : Int) := ⟨(di q).toNat, by omega⟩
        have hpm : p < m := by omega
        obtain ⟨a1, zz⟩ := HP.out.ints p hpm
        rw [if_pos hpm] at a1
        have v1 := (P1'.out.kp HP.out.kp (fun h => by have := l1.out h; omega)).cells q hlt2
        have v3 := (P3'.out.kp HP.out.kp (fun h => by have := l3.out h; omega)).cells q hlt2
        obtain rfl : x1 = some ⟨z1, 0, none⟩ := P1'.out.base (by omega)
        obtain rfl : x3 = some ⟨z3, 0, none⟩ := P3'.out.base (by omega)
        have hz1n := l1.out (by omega)
        have hz3n := l3.out (by omega)
        have n1 : ¬ z1 = wr.heap.size := by omega
        have n3 : ¬ z3 = wr.heap.size := by omega
        have ng : ¬ g = wr.heap.size := by omega
        have j0 : (0 : Int) ≤ (q : Int) := Int.natCast_nonneg _
        have j1 : (q : Int) < (200 : Int) := by omega
        have p0 : (0 : Int) ≤ (p : Int) := Int.natCast_nonneg _
        have p1 : (p : Int) < (m : Int) := by omega
        have hsO : cso f dk di da db q = nO (csn f dk di da db q p) (dk q) (da q) := by unfold cso; rw [show (di q).toNat = p from by omega]
        rw [hsO] at v1
        have hglt : g < wr.heap.size := by omega
        have HPD : Hid _ := hpd
        rw [hpd] at c1
        rw [Nat.zero_add] at v1 v3
        clear hsO hpd
        have EV : Hid (∃ y, y = csn f dk di da db q p) := ⟨_, rfl⟩
        obtain ⟨y, hy⟩ := EV.out
        have HY : Hid _ := hy
        rw [← hy] at a1 v1
        clear hy EV
        have a1' : ∀ o, (wr.alloc o).cell? ⟨g, p, none⟩ = some (.int .i64 y) := fun o => (World.cell?_alloc_past _ _ _ hglt).trans a1
        have zz' : ∀ o, (wr.alloc o).frozen? ⟨g, p, none⟩ = false := fun o => (World.frozen?_alloc_past _ _ _ hglt).trans zz
        have hz1w : z1 < wr.heap.size := by omega
        have hz3w : z3 < wr.heap.size := by omega
        rcases hd with h | h | h | h
        · rw [h] at c0 v1 v3
          rw [show nO y 1 (da q) = y from by simp [nO]] at v1
          have v1' : ∀ o, (wr.alloc o).cell? ⟨z1, q, none⟩ = some (.int .i64 y) := fun o => (World.cell?_alloc_past _ _ _ hz1w).trans v1
          have v3' : ∀ o, (wr.alloc o).cell? ⟨z3, q, none⟩ = some (.int .i64 1) := fun o => (World.cell?_alloc_past _ _ _ hz3w).trans v3
          have HD : Hid _ := h
          clear h
          go_wp2_with fail
          go_quiet (fail)
          go_wp2_with fail
          go_quiet (fail)
          go_wp2
          exact ⟨⟨q + 1, by omega, by go_num, li_still HP.out hglt HPD.out hpm (((Kp.refl _ _).alloc _).drewN _) (by rw [HD.out]; simp [nN])⟩, by simp [intOf]; omega⟩
        · rw [h] at c0 v1 v3
          rw [show nO y 2 (da q) = 0 from by simp [nO]] at v1
          have v1' : ∀ o, (wr.alloc o).cell? ⟨z1, q, none⟩ = some (.int .i64 0) := fun o => (World.cell?_alloc_past _ _ _ hz1w).trans v1
          have v3' : ∀ o, (wr.alloc o).cell? ⟨z3, q, none⟩ = some (.int .i64 2) := fun o => (World.cell?_alloc_past _ _ _ hz3w).trans v3
          have HD : Hid _ := h
          clear h
          go_wp2_with fail
          go_quiet (fail)
          go_wp2
          exact ⟨⟨q + 1, by omega, by go_num, li_set HP.out hglt HPD.out (((Kp.refl _ _).alloc _).drewN _) rfl (by rw [HD.out]; simp [nN])⟩, by simp [intOf]; omega⟩
        · rw [h] at c0 v1 v3
          rw [show nO y 4 (da q) = y from by simp [nO]] at v1
          have v1' : ∀ o, (wr.alloc o).cell? ⟨z1, q, none⟩ = some (.int .i64 y) := fun o => (World.cell?_alloc_past _ _ _ hz1w).trans v1
          have v3' : ∀ o, (wr.alloc o).cell? ⟨z3, q, none⟩ = some (.int .i64 4) := fun o => (World.cell?_alloc_past _ _ _ hz3w).trans v3
          have HD : Hid _ := h
          clear h
          go_wp2_with fail
          go_quiet (fail)
          go_wp2_with fail
          go_quiet (fail)
          go_wp2
          exact ⟨⟨q + 1, by omega, by go_num, li_set HP.out hglt HPD.out (((Kp.refl _ _).alloc _).drewN _) rfl (by rw [HD.out]; simp [nN])⟩, by simp [intOf]; omega⟩
        · by_cases hya : y = da q
          · rw [h] at c0 v1 v3
            rw [show nO y 5 (da q) = 1 from by simp [nO, hya]] at v1
            have hya' : (y == da q) = true := by simp [hya]
            have HYA : Hid _ := hya
            clear hya
            have v1' : ∀ o, (wr.alloc o).cell? ⟨z1, q, none⟩ = some (.int .i64 1) := fun o => (World.cell?_alloc_past _ _ _ hz1w).trans v1
            have v3' : ∀ o, (wr.alloc o).cell? ⟨z3, q, none⟩ = some (.int .i64 5) := fun o => (World.cell?_alloc_past _ _ _ hz3w).trans v3
            have HD : Hid _ := h
            clear h
            go_wp2_with fail
            go_quiet (fail)
            go_wp2_with fail
            go_quiet (fail)
            go_wp2_with fail
            go_quiet (fail)
            go_wp2
            exact ⟨⟨q + 1, by omega, by go_num, li_set HP.out hglt HPD.out (((Kp.refl _ _).alloc _).drewN _) rfl (by rw [HD.out, ← HY.out, ← HYA.out]; simp [nN])⟩, by simp [intOf]; omega⟩
          · rw [h] at c0 v1 v3
            rw [show nO y 5 (da q) = 0 from by simp [nO, hya]] at v1
            have hya' : (y == da q) = false := by simp [hya]
            have HYA : Hid _ := hya
            clear hya
            have v1' : ∀ o, (wr.alloc o).cell? ⟨z1, q, none⟩ = some (.int .i64 0) := fun o => (World.cell?_alloc_past _ _ _ hz1w).trans v1
            have v3' : ∀ o, (wr.alloc o).cell? ⟨z3, q, none⟩ = some (.int .i64 5) := fun o => (World.cell?_alloc_past _ _ _ hz3w).trans v3
            have HD : Hid _ := h
            clear h
            go_wp2_with fail
            go_quiet (fail)
            go_wp2_with fail
            go_quiet (fail)
            go_wp2_with fail
            go_quiet (fail)
            go_wp2
            exact ⟨⟨q + 1, by omega, by go_num, li_still HP.out hglt HPD.out hpm (((Kp.refl _ _).alloc _).drewN _) (by rw [HD.out, ← HY.out]; unfold nN; rw [if_neg (by omega), if_neg (by omega), if_pos rfl, if_neg HYA.out])⟩, by simp [intOf]; omega⟩
      · obtain rfl : q = 200 := by omega
        have HS : Hid _ := sameInts_same z2 0 g 0 m y2 cg x2 _ (csn f dk di da db 200) wr (P2'.out.kp HP.out.kp (fun h => by have := l2.out h; omega)) (HP.out.ints.nums (by omega) (by unfold maxLen; omega))
        have BR : Hid (Below w.heap.size w wr) := B8.out.trans (HP.out.kp.to_below w.heap.size B8.out.size (by have := sw7.out; omega))
        go_wp2_with fail
        refine Calls.mono HS.out ?_
        rintro e w9 ⟨rfl, hb9⟩
        go_wp2
        go_ret
        exact ⟨rfl, BR.out.trans (hb9.mono BR.out.size)⟩
  · have HI : Hid _ := ids_err gc 0 m cc gb 0 200 cp T _ bb f dk di da db w6 NC6.out HA6.out he
    have he' : (isErr m 200 T f dk di da db != 0) = true := bne_iff_ne.2 he
    clear he
    refine Calls.mono HI.out ?_
    rintro e w7 ⟨rfl, hb7⟩
    clear HI
    go_wp2
    go_ret
    exact ⟨by simp, B6.out.trans (hb7.mono B6.out.size)⟩
end Go.Proofs.Ytlbfkgecckdlgaa
