/- Layer 5: EventRows, walked. -/
import Derived.Test.YtniognoapcaliaaERowsF
import Derived.Deep.RegionHeld3
namespace Go.Proofs.Ytniognoapcaliaa
open Go.RowKit
attribute [local go_sem ↓] Go.wp_at_zero Go.wp_at_succ

theorem bool_not_eq {r a : Bool} (h : r = true ↔ a = false) : (r == a) = false := by cases r <;> cases a <;> simp_all
theorem bool_same {r a : Bool} (h : r = true ↔ a = true) : (r != a) = false := by cases r <;> cases a <;> simp_all

set_option maxRecDepth 100000 in
set_option maxHeartbeats 4000000 in
theorem eventRows_any (base : Option Addr) (b o c : Nat) (hs : List EvD) (pb : Nat → Option Addr) (pc pg po : Nat → Nat) (w : World) (h : EvsAt w base b o hs pb pc pg po) (hcap : hs.length ≤ c) :
    Calls Try.prog 10 #[.slice base hs.length c] w fun e w' => e = .returned (.bool true) ∧ Below w.heap.size w w' := by
  obtain ⟨L, hL⟩ : ∃ L, L = hs.take 24 := ⟨_, rfl⟩
  have HA : Hid (EvsAt w base b o L pb pc pg po) := by rw [hL]; exact h.take 24
  have eL : (min (hs.length : Int) 24).toNat = L.length := by rw [hL]; simp; omega
  have hL24 : L.length ≤ 24 := by rw [hL]; simp; omega
  have lx := h.len
  unfold maxLen at lx
  have q0 : min (hs.length : Int) 24 ≤ (c : Int) := by omega
  have q1 : 0 ≤ min (hs.length : Int) 24 := by omega
  have EL : Hid _ := eL
  clear h hL eL
  go_enter Try.func10, Try.ntmps10
  go_wp2_with fail
  refine (known_any _).mono ?_
  rintro e w1 ⟨rfl, hb1⟩
  have B1 : Hid _ := hb1
  clear hb1
  go_wp2_with fail
  rw [EL.out]
  refine (Calls_any base b o c L pb pc pg po _ (HA.out.below B1.out)).mono ?_
  rintro e w2 ⟨v2, rfl, hb2, hbad, hgood⟩
  have B2 : Hid (Below w.heap.size w w2) := B1.out.trans (hb2.mono B1.out.size)
  by_cases he : hErr L = 0
  · have hn : (hErr L != 0) = false := by simp [he]
    have HE : Hid _ := he
    obtain ⟨g, l, hg1, hg2, rfl, hm, hC, _⟩ := hgood he
    have hsn : (spansL L).length ≤ 24 := by obtain ⟨_, s, hst, hsl⟩ := hErr_zero he; rw [hsl]; have := (stN_ok hst).len; omega
    have hto : Hid (∀ k, k < (spansL L).length → w2.cell? ⟨g, k * 11 + 10, none⟩ = some (.int .i64 (spAt (spansL L) k).2)) := fun k hk => (hC.ft hm hk).2
    have FT : Hid (∀ i, i + 1 < (spansL L).length → (FitsP (spansL L) (turnL (spansL L).length i) ↔ ahd (spAt (spansL L) i) (spAt (spansL L) (i + 1)) = false)) := fun i hi => fits_turn HE.out hi
    have FL : Hid (∀ i, i < (spansL L).length → (FitsP (spansL L) (lessL (spansL L).length i) ↔ (spAt (spansL L) i).2 = -1)) := fun i hi => fits_less HE.out hi
    have FI : Hid (FitsP (spansL L) (idL (spansL L).length)) := fits_id HE.out
    have FA : Hid (∀ i : Nat, i + 1 < (spansL L).length → aheadA L (i : Int) ((i : Int) + 1) = (ahd (spAt (spansL L) i) (spAt (spansL L) (i + 1)), 0)) := by
      intro i hi
      unfold aheadA
      rw [if_neg (fun q => q HE.out), if_pos (by omega)]
      have e1 : ((i : Int) + 1).toNat = i + 1 := by omega
      rw [e1, Int.toNat_natCast]
    have FITS : Hid (∀ (W : World) (oa : Option Addr) (og oc : Nat) (ord : List Int), Below w.heap.size w W → OrdAt W oa og 0 ord → Calls Try.prog 39 #[.slice base L.length c, .slice oa ord.length oc] W fun e w' => ∃ r, e = .returned (.tuple #[.bool r, .int .i64 0]) ∧ Below W.heap.size W w' ∧ (r = true ↔ FitsP (spansL L) ord)) := by
      intro W oa og oc ord hW ho
      refine (Fits_any base b o c L pb pc pg po W (HA.out.below hW) oa og 0 oc ord ho).mono ?_
      rintro e w' ⟨r, rfl, h1, _, h3⟩
      exact ⟨r, by rw [HE.out], h1, h3 HE.out⟩
    have AHD : Hid (∀ (W : World) (i : Nat), Below w.heap.size w W → i + 1 < (spansL L).length → Calls Try.prog 24 #[.slice base L.length c, .int .i64 i, .int .i64 ((i : Int) + 1)] W fun e w' => e = .returned (.tuple #[.bool (ahd (spAt (spansL L) i) (spAt (spansL L) (i + 1))), .int .i64 0]) ∧ Below W.heap.size W w') := by
      intro W i hW hi
      have := Ahead_any base b o c L pb pc pg po W (HA.out.below hW) (i : Int) ((i : Int) + 1)
      rw [FA.out i hi] at this
      exact this
    have z2 := B2.out.size
    generalize spansL L = sp at *
    generalize hgn : sp.length = n at *
    obtain ⟨i0, hi0, hz0, hz1, hz2⟩ := info_parts int_info
    clear hbad hgood hb2 hm hC he hg1 hgn B1 FA
    go_wp2_with fail
    go_loopw [5, 6] (fun v i wr => ∃ j : Nat, j ≤ n ∧ i = .int .i64 j ∧ Below w2.heap.size w2 wr ∧ wr.ownsRow w2.heap.size 3 1 v j ((idL j).map (Value.int .i64))) (fun _ i _ => n - (intOf i).toNat)
    case atStart => exact ⟨0, Nat.zero_le _, rfl, Below.refl _ _, World.ownsRow_nil _ _ _ _⟩
    case round =>
      obtain ⟨j, hj, rfl, hbw, hown⟩ := hrel
      have HW : Hid _ := hbw
      have HO : Hid (World.ownsRow _ _ _ _ _ _ _) := hown
      have HOL : Hid _ := owns_lt hown
      have zw := hbw.size
      by_cases hlt : j < n
      · obtain ⟨oa, oc, rfl⟩ := owns_form hown
        clear hbw hown
        go_wp2_with (first | (at_builtin; (refine wpList_append_lies _ (by rfl) _ _ _ (by rfl) w2.heap.size 3 i0 _ 1 8 ints_under hi0 hz0 hz1 hz2 rfl (by omega) _ j _ (by rfl) (HO.out.alloc _) ⟨wr.heap.size, 0, none⟩ 1 1 [.int .i64 j] (by rfl) (by rfl) (World.news_of_block (cs := #[.int .i64 j]) (t := 3) (fr := (0, 0)) (heap_alloc_at _ _ _ (by simp))) (by simp [Value.oneCell']) (by omega) (by unfold maxLen; omega) (by omega) (by simp; omega) (wr.heap.size + 1) (by simp) ?_); intro gg cp w3 hown3 hgrow hat hlt3; have B3 : Hid (Below w2.heap.size w2 w3) := Below.grown (HW.out.alloc HW.out.size _) hgrow (by simp; omega) (fun k hk => (HOL.out k hk).1); have O3 : Hid (World.ownsRow _ _ _ _ _ _ _) := hown3; clear hown3 hgrow hat hlt3))
        refine ⟨⟨j + 1, by omega, by go_num, B3.out, ?_⟩, by simp [intOf]; omega⟩
        rw [idL_succ, List.map_append]
        exact O3.out
      · obtain rfl : j = n := by omega
        rw [show j = (idL j).length from (idL_length j).symm] at hown
        rw [idL_length] at hown
        obtain ⟨oa, oc, og, rfl, hord, hoB, hoc1, hoc2, honil⟩ := ord_of_owns (ord := idL j) (by rw [idL_length]; exact hown)
        rw [idL_length] at hoB hoc1 ⊢
        have HOR : Hid _ := hord
        have HON : Hid _ := honil
        unfold maxLen at hoc2
        have B3 : Hid (Below w.heap.size w wr) := B2.out.trans (hbw.mono z2)
        have FF := FITS.out wr oa og oc (idL j) B3.out hord
        rw [idL_length] at FF
        have HFF : Hid (Calls _ _ _ _ _) := FF
        clear hbw hown hord FF honil
        generalize hWr : wr = W0 at *
        clear hWr
        go_wp2_with fail
        refine HFF.out.mono ?_
        rintro e w4 ⟨r4, rfl, hb4, hr4⟩
        obtain rfl : r4 = true := hr4.2 FI.out
        have z4 := hb4.size
        have B4 : Hid (Below w.heap.size w w4) := B3.out.trans (hb4.mono B3.out.size)
        have OR4 : Hid _ := HOR.out.below hb4
        have TO4 : Hid (∀ k, k < j → w4.cell? ⟨g, k * 11 + 10, none⟩ = some (.int .i64 (spAt sp k).2)) := fun k hk => ((HW.out.trans (hb4.mono zw)).cell (p := ⟨g, _, none⟩) hg2).trans (hto.out k hk)
        clear hb4 hr4 HFF HOR HO HOL B3
        go_wp2_with fail
        go_loopw [8] (fun i wr => ∃ k : Nat, k ≤ j ∧ i = .int .i64 k ∧ Below w4.heap.size w4 wr) (fun i _ => j - (intOf i).toNat)
        case atStart => exact ⟨0, Nat.zero_le _, rfl, Below.refl _ _⟩
        case round =>
          obtain ⟨k, hk, rfl, hbx⟩ := hrel
          have HX : Hid _ := hbx
          have zx := hbx.size
          by_cases hlt : k + 1 < j
          · have k0 : (0 : Int) ≤ (k : Int) := Int.natCast_nonneg _
            have k1 : (k : Int) + 1 < (j : Int) := by omega
            have k2 : (k : Int) < (j : Int) := by omega
            have k3 : (0 : Int) ≤ (k : Int) + 1 := by omega
            have k4 : ((k : Int) + 1).toNat = k + 1 := by omega
            have k5 : (k : Int) ≤ (oc : Int) := by omega
            have k6 : (k : Int) + 1 ≤ (oc : Int) := by omega
            have k7 : (k : Int) + 1 ≤ (j : Int) := by omega
            have k8 : (k : Int) ≤ (j : Int) := by omega
            have OX : Hid _ := OR4.out.below hbx
            have BX : Hid (Below w.heap.size w wr) := B4.out.trans (hbx.mono B4.out.size)
            obtain rfl : oa = some ⟨og, 0, none⟩ := OR4.out.base (by rw [idL_length]; omega)
            have hog : og < wr.heap.size := OX.out.lt (by rw [idL_length]; omega)
            clear hbx
            go_upto_region 20 with (first | (at_builtin; (refine wpList_append_all (by rfl) _ _ _ (by rfl) wr.heap.size 3 i0 _ 1 8 ints_under hi0 hz0 hz1 hz2 rfl (by omega) _ 0 [] (by rfl) (own_empty wr _ _ _ _ rfl (Nat.le_refl _)) (some ⟨og, 0, none⟩) j oc ((idL j).map (Value.int .i64)) (by rfl) (fun h => by cases h) (by simp [idL_length]) (fun ad had jj u hu => ord_news (OX.out.below (below_alloc _ _)) 0 (idL j) (fun jj x hx => by rw [Nat.zero_add]; exact hx) ad had jj u hu) (ints_one _) (by unfold maxLen; omega) (by omega) (by simp) ?_); intro v5 w5 hown5 hgrow5 hnl5; rw [Nat.zero_add, List.nil_append] at hown5; obtain ⟨g5, c5, rfl, hg5, hgl5, hc5, hc5', hcl5, hfz5⟩ := owns_some hown5 (by omega); have m0 : w5.cell? ⟨g5, k, none⟩ = some (.int .i64 k) := (by rw [hcl5 k (by omega), List.getElem?_map, idL_at (by omega)]; rfl); have m1 : w5.cell? ⟨g5, k + 1, none⟩ = some (.int .i64 ((k : Int) + 1)) := (by rw [hcl5 (k + 1) (by omega), List.getElem?_map, idL_at (by omega)]; rfl); have f0 := hfz5 k; have f1 := hfz5 (k + 1); have O5 : Hid (World.ownsRow _ _ _ _ _ _ _) := hown5; have B5 : Hid (Below wr.heap.size wr w5) := Below.grown (below_alloc _ _) hgrow5 (by simp) (by intro kk hkk; simp [Value.ownBlock] at hkk; omega); clear hown5 hgrow5 hnl5 hcl5 hfz5))
            obtain ⟨W6, hW6⟩ : ∃ W6, W6 = (w5.setCell ⟨g5, k, none⟩ (.int .i64 ((k : Int) + 1))).setCell ⟨g5, k + 1, none⟩ (.int .i64 (k : Int)) := ⟨_, rfl⟩
            rw [← hW6]
            have O6 : W6.ownsRow wr.heap.size 3 1 (.slice (some ⟨g5, 0, none⟩) j c5) (turnL j k).length ((turnL j k).map (Value.int .i64)) := by
              rw [turnL_length, hW6]
              unfold turnL
              rw [List.map_set, List.map_set]
              exact owns_put (owns_put O5.out k _) (k + 1) _
            obtain ⟨a6, c6, g6, e6, hor6, _⟩ := ord_of_owns O6
            have B6 : Hid (Below wr.heap.size wr W6) := by show Below wr.heap.size wr W6; rw [hW6]; exact (B5.out.setCell (by simpa using hg5) _).setCell (by simpa using hg5) _
            have BB6 : Hid (Below w.heap.size w W6) := BX.out.trans (B6.out.mono BX.out.size)
            have C6 : Hid (Below w4.heap.size w4 W6) := HX.out.trans (B6.out.mono zx)
            have HOR6 : Hid _ := hor6
            have E6 : Hid (Value.slice (some ⟨g5, 0, none⟩) j c5 = Value.slice a6 j c6) := by show _ = _; rw [e6, turnL_length]
            have OX6 : Hid _ := OX.out.below B6.out
            have z6 := B6.out.size
            clear hW6 O6 e6 hor6 m0 m1 f0 f1 O5
            rw [E6.out]
            clear E6
            go_wp2_with fail
            refine (AHD.out W6 k BB6.out hlt).mono ?_
            rintro e w7 ⟨rfl, hb7⟩
            have B7 : Hid (Below w.heap.size w w7) := BB6.out.trans (hb7.mono BB6.out.size)
            have FF7 := FITS.out w7 a6 g6 c6 (turnL j k) B7.out (HOR6.out.below hb7)
            rw [turnL_length] at FF7
            have HFF7 : Hid (Calls _ _ _ _ _) := FF7
            have OX7 : Hid _ := OX6.out.below hb7
            have C7 : Hid (Below w4.heap.size w4 w7) := C6.out.trans (hb7.mono C6.out.size)
            have z7 := hb7.size
            clear hb7 FF7
            go_wp2_with fail
            refine HFF7.out.mono ?_
            rintro e w8 ⟨r8, rfl, hb8, hr8⟩
            have Q8 : Hid ((r8 == ahd (spAt sp k) (spAt sp (k + 1))) = false) := bool_not_eq (hr8.trans (FT.out k hlt))
            have B8 : Hid (Below w.heap.size w w8) := B7.out.trans (hb8.mono B7.out.size)
            have OX8 : Hid _ := OX7.out.below hb8
            have C8 : Hid (Below w4.heap.size w4 w8) := C7.out.trans (hb8.mono C7.out.size)
            have z8 := hb8.size
            clear hb8 hr8 HFF7
            generalize ahd (spAt sp k) (spAt sp (k + 1)) = a8 at *
            go_wp2_with fail
            have D8 : Below w8.heap.size w8 w8.drew := (Below.refl _ _).drew
            have OXD : Hid (OrdAt w8.drew (some ⟨og, 0, none⟩) og 0 (idL j)) := OX8.out.below D8
            have k9 : ¬ oc = k + 1 := by omega
            have k10 : k + 1 ≤ oc := by omega
            have hog8 : og < w8.heap.size := by omega
            have lt1 : ((idL j).take k).length = k := by rw [List.length_take, idL_length]; omega
            have lt2 : ((idL j).drop (k + 1)).length = j - (k + 1) := by rw [List.length_drop, idL_length]
            have LT1 : Hid _ := lt1
            have LT2 : Hid _ := lt2
            have kw : IntKind.i64.wrap ((k : Int) + 1) = (k : Int) + 1 := by rw [IntKind.wrap_i64] <;> omega
            clear lt1 lt2 D8
            go_region_held3 (fun _ => True) (trivial)
              (first
                | ((refine step_append_all (by rfl) _ _ _ (by rfl) w8.heap.size 3 i0 _ 1 8 ints_under hi0 hz0 hz1 hz2 rfl (by omega) (.slice (some ⟨w8.heap.size, 0, none⟩) 0 0) 0 [] (by rfl) (own_empty w8.drew _ _ _ _ rfl (Nat.le_refl _)) (some ⟨og, 0, none⟩) k oc (((idL j).take k).map (Value.int .i64)) (by rfl) (fun h => by cases h) (by rw [List.length_map, LT1.out, Nat.mul_one]) (fun ad had jj u hu => ord_news (OXD.out.below (below_alloc _ _)) 0 ((idL j).take k) (fun jj x hx => by rw [List.getElem?_take] at hx; rw [Nat.zero_add]; split at hx; exact hx; cases hx) ad had jj u hu) (ints_one _) (by unfold maxLen; omega) (by omega) (by simp) ?_); intro v9 w9 hown9 hgrow9 hnl9)
                | (have hno := hnl9; (refine step_append_all (by rfl) _ _ _ (by rfl) w8.heap.size 3 i0 _ 1 8 ints_under hi0 hz0 hz1 hz2 rfl (by omega) v9 _ _ (by rfl) hown9 (some ⟨og, k + 1, none⟩) (j - (k + 1)) (oc - (k + 1)) (((idL j).drop (k + 1)).map (Value.int .i64)) (by rfl) (fun h => by cases h) (by rw [List.length_map, LT2.out, Nat.mul_one]) (fun ad had jj u hu => ord_news ((OXD.out.below (below_alloc _ _)).grown hgrow9 (by simp [Value.ownBlock]; omega)) (k + 1) ((idL j).drop (k + 1)) (fun jj x hx => by rw [List.getElem?_drop] at hx; exact hx) ad (by rw [← had]; simp) jj u hu) (ints_one _) (by unfold maxLen; omega) (by omega) (by have := hgrow9.size; simp at this; omega) ?_); intro v10 w10 hown10 hgrow10 hnl10))
            have O9 := owns_lt hown9
            have B9 : Below w8.heap.size w8 w9 := Below.grown (((Below.refl _ _).drew).alloc (Nat.le_refl _) _) hgrow9 (by simp) (by intro kk hkk; simp [Value.ownBlock] at hkk; omega)
            have B10 : Below w8.heap.size w8 w10 := Below.grown B9 hgrow10 B9.size (fun kk hkk => (O9 kk hkk).1)
            have C10 : Hid (Below w4.heap.size w4 w10) := C8.out.trans (B10.mono C8.out.size)
            have hl10 : w10.ownsRow w8.heap.size 3 1 v10 (lessL j k).length ((lessL j k).map (Value.int .i64)) := by
              rw [lessL_length (by omega)]
              unfold lessL
              rw [List.map_append]
              have : 0 + k + (j - (k + 1)) = j - 1 := by omega
              rw [this, List.nil_append] at hown10
              exact hown10
            obtain ⟨a10, c10, g10, rfl, hor10, _⟩ := ord_of_owns hl10
            have FF10 : Hid (Calls _ _ _ _ _) := FITS.out w10 a10 g10 c10 (lessL j k) (B4.out.trans (C10.out.mono B4.out.size)) hor10
            clear O9 B9 B10 hl10 hor10 hown9 hown10 hgrow9 hgrow10 hnl9 hnl10 OXD
            go_wp2_with fail
            refine FF10.out.mono ?_
            rintro e w11 ⟨r11, rfl, hb11, hr11⟩
            have Q11 : Hid (_ = _) := bool_same (a := ((spAt sp k).2 == -1)) (hr11.trans ((FL.out k (by omega)).trans (by simp)))
            have C11 : Hid (Below w4.heap.size w4 w11) := C10.out.trans (hb11.mono C10.out.size)
            have T11 := ((C11.out.cell (p := ⟨g, k * 11 + 10, none⟩) (by show g < w4.heap.size; omega))).trans (TO4.out k (by omega))
            have P8 := Q8.out
            have P11 : (r11 == ((spAt sp k).2 == -1)) = true := by have := Q11.out; revert this; cases r11 <;> cases ((spAt sp k).2 == -1) <;> simp
            have hgw : g < w11.heap.size := by have := C11.out.size; omega
            clear hb11 hr11 FF10
            go_wp2_with fail
            exact ⟨⟨k + 1, by omega, by go_num, C11.out⟩, by simp [intOf]; omega⟩
          · have hx : Below w.heap.size w wr := B4.out.trans (hbx.mono B4.out.size)
            have hkk : ((k : Int) + 1 < (j : Int)) = False := by simp; omega
            have hk' : ¬ (k : Int) + 1 < (j : Int) := by omega
            have hk2 : (j : Int) ≤ (k : Int) + 1 := by omega
            obtain ⟨m, hm1, hm2, hm3, hm4⟩ := rows_counts HE.out hL24
            have BX : Hid _ := hx
            clear hbx hx hkk
            go_wp2_with fail
            refine (Done_any base b o c L pb pc pg po _ (HA.out.below BX.out)).mono ?_
            rintro e w5 ⟨v5, rfl, hb5, ⟨x5, k5, g5, pb5, pc5, pg5, po5, rfl, hE5, _⟩⟩
            have B5 : Hid (Below w.heap.size w w5) := BX.out.trans (hb5.mono BX.out.size)
            have E5 : Hid _ := hE5
            clear hb5 hE5
            go_wp2_with fail
            refine (Orders_any base b o c L pb pc pg po _ (HA.out.below B5.out)).mono ?_
            rw [hm2]
            rintro e w6 ⟨rfl, hb6⟩
            have B6 : Hid (Below w.heap.size w w6) := B5.out.trans (hb6.mono B5.out.size)
            have E6 : Hid _ := E5.out.below hb6
            clear hb6
            go_wp2_with fail
            refine (Orders_any x5 g5 0 k5 (doneL L) pb5 pc5 pg5 po5 _ E6.out).mono ?_
            rw [hm3]
            rintro e w7 ⟨rfl, hb7⟩
            have B7 : Hid (Below w.heap.size w w7) := B6.out.trans (hb7.mono B6.out.size)
            have E7 : Hid _ := E6.out.below hb7
            clear hb7
            go_wp2_with fail
            refine (Row_any x5 g5 0 k5 (doneL L) pb5 pc5 pg5 po5 _ E7.out).mono ?_
            have hdk : hErr (doneL L) = 0 := doneL_ok L
            have hre : hErr L = 0 := HE.out
            generalize (decide (hErr (doneL L) = 0) && decide (widthA (doneL L) ≤ 1)) = rw at *
            rw [hdk]
            rintro e w8 ⟨rfl, hb8⟩
            have B8 : Hid (Below w.heap.size w w8) := B7.out.trans (hb8.mono B7.out.size)
            have p1 : (hErr L == 0) = true := by rw [hre]; rfl
            have p2 : ((m : Int) == (m : Int)) = true := by simp
            have p3 : (1 : Int) ≤ (m : Int) := by omega
            have p4 : (((m : Int) == 1) == rw) = true := by
              have : ((m : Int) == 1) = rw := by
                rw [Bool.eq_iff_iff, ← hm4, beq_iff_eq]
                omega
              rw [this]; simp
            clear hb8 hm1 hm2 hm3 hm4 hdk hre
            go_wp2_with fail
            go_ret
            exact ⟨by simp, B8.out⟩
  · have hn : (hErr L != 0) = true := by simp [he]
    obtain rfl := hbad he
    clear hgood hbad
    go_wp2_with fail
    go_ret
    exact ⟨rfl, B2.out⟩
end Go.Proofs.Ytniognoapcaliaa
