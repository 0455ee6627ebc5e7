
/- Layer 5: Orders; the law's own sample, and known. -/

import Derived.Test.YtgbfippcnmpgfaaEOrd

import Derived.Test.YtgbfippcnmpgfaaEAsk

namespace Go.Proofs.Ytgbfippcnmpgfaa

open Go.RowKit

attribute [local go_sem ↓] Go.wp_at_zero Go.wp_at_succ

/-- The spans of those that have returned, among the first j. -/
def rtN (sp : List Sp) : Nat → List Sp
  | 0 => []
  | j + 1 => if (spAt sp j).2 = -1 then rtN sp j else rtN sp j ++ [spAt sp j]
theorem rtN_le (sp : List Sp) : ∀ j, (rtN sp j).length ≤ j
  | 0 => Nat.le_refl _
  | j + 1 => by
    have := rtN_le sp j
    simp only [rtN]
    split
    · omega
    · simp; omega
def ordersA (hs : List EvD) : Int × Int :=
  if hErr hs ≠ 0 then (0, hErr hs) else if 16 < (rtN (spansL hs) (spansL hs).length).length then (0, 2) else (ordsA (rtN (spansL hs) (spansL hs).length), 0)

set_option maxRecDepth 100000 in
set_option maxHeartbeats 1000000 in
theorem Orders_any (base : Option Addr) (b o c : Nat) (hs : List EvD) (pb : Nat → Option Addr) (pc pg po : Nat → Nat) (w : World) (h : EvsAt w base b o hs pb pc pg po) :
    Calls Try.prog 18 #[.slice base hs.length c] w fun e w' => e = .returned (.tuple #[.int .i64 (ordersA hs).1, .int .i64 (ordersA hs).2]) ∧ Below w.heap.size w w' := by
  have HA : Hid _ := h
  clear h
  by_cases he : hErr hs = 0
  · have hn : (hErr hs != 0) = false := by simp [he]
    obtain ⟨hbn, s, hst, hsl⟩ := hErr_zero he
    have hsn : (spansL hs).length ≤ 100000 := by rw [hsl]; have := (stN_ok hst).len; omega
    have F0 : Hid (ordersA hs = if 16 < (rtN (spansL hs) (spansL hs).length).length then (0, 2) else (ordsA (rtN (spansL hs) (spansL hs).length), 0)) := by show ordersA hs = _; unfold ordersA; rw [if_neg (by simp [he])]
    have HE : Hid _ := he
    clear he hst hsl hbn
    obtain ⟨i0, hi0, hz0, hz1, hz2⟩ := info_parts sp_info
    go_enter Try.func18, Try.ntmps18
    go_wp2_with fail
    refine (spansOf_any base b o c hs pb pc pg po _ HA.out).mono ?_
    rintro e w1 ⟨v, rfl, hb, _, hown⟩
    obtain ⟨base1, cap, g, rfl, hg, hnil, hsp, hmx⟩ := sps_of_owns (hown HE.out)
    generalize hgs : spansL hs = sp at *
    have HB : Hid _ := hb
    have HP : Hid _ := hsp
    have hs1 := hb.size
    clear hown hg hnil hsp hb hgs
    go_wp2_with fail
    go_loopw [6, 19] (fun v i wr => ∃ j : Nat, j ≤ sp.length ∧ i = .int .i64 j ∧ Below w1.heap.size w1 wr ∧ wr.ownsRow w1.heap.size 61 2 v (rtN sp j).length (spCells (rtN sp j))) (fun _ i _ => sp.length - (intOf i).toNat)
    case atStart => exact ⟨0, Nat.zero_le _, rfl, Below.refl _ _, World.ownsRow_nil _ _ _ _⟩
    case round =>
      obtain ⟨j, hj, rfl, hbw, hown⟩ := hrel
      by_cases hlt : j < sp.length
      · obtain rfl : base1 = some ⟨g, 0, none⟩ := HP.out.base (by omega)
        obtain ⟨c0, c1⟩ := (HP.out.below hbw).cells j hlt
        have j0 : (0 : Int) ≤ (j : Int) := Int.natCast_nonneg _
        have j1 : (j : Int) < (sp.length : Int) := by omega
        have HW : Hid _ := hbw
        have HO : Hid (World.ownsRow _ _ _ _ _ _ _) := hown
        have ol := owns_lt hown
        clear hbw hown
        have hlp := rtN_le sp j
        by_cases hp : (spAt sp j).2 = -1
        · have hd : decide ((spAt sp j).2 ≠ -1) = false := by simp [hp]
          have HN : Hid (rtN sp (j + 1) = rtN sp j) := by show rtN sp (j + 1) = _; simp only [rtN]; rw [if_pos hp]
          clear hp
          go_wp2_with fail
          refine (returned_any _ _ _).mono ?_
          rintro e w2 ⟨rfl, hb2⟩
          rw [hd]
          have HX : Hid (Below wr.heap.size wr w2) := (below_alloc wr _).trans (hb2.mono (by simp))
          clear hb2
          go_wp2_with fail
          refine ⟨⟨j + 1, by omega, by go_num, HW.out.trans (HX.out.mono HW.out.size), ?_⟩, by simp [intOf]; omega⟩
          rw [HN.out]
          exact owns_below HO.out HX.out
        · have hd : decide ((spAt sp j).2 ≠ -1) = true := by simp [hp]
          have HN : Hid (rtN sp (j + 1) = rtN sp j ++ [spAt sp j]) := by show rtN sp (j + 1) = _; simp only [rtN]; rw [if_neg hp]
          clear hp
          generalize spAt sp j = p at *
          obtain ⟨p1, p2⟩ := p
          simp only at c0 c1 hd
          go_wp2_with fail
          refine (returned_any _ _ _).mono ?_
          rintro e w2 ⟨rfl, hb2⟩
          rw [hd]
          have x0 : w2.cell? ⟨wr.heap.size, 0, none⟩ = some (.int .i64 p1) := (hb2.cell (p := ⟨wr.heap.size, 0, none⟩) (by simp)).trans (cell_new wr _ _ 0)
          have x1 : w2.cell? ⟨wr.heap.size, 1, none⟩ = some (.int .i64 p2) := (hb2.cell (p := ⟨wr.heap.size, 1, none⟩) (by simp)).trans (cell_new wr _ _ 1)
          have HX : Hid (Below wr.heap.size wr w2) := (below_alloc wr _).trans (hb2.mono (by simp))
          have hz := HX.out.size
          have hz1' := HW.out.size
          have o2 := owns_below HO.out HX.out
          clear hb2
          go_wp2_with (first | (at_builtin; (refine wpList_append_lies _ (by rfl) _ _ _ (by rfl) w1.heap.size 61 i0 _ 2 16 sps_under hi0 hz0 hz1 hz2 rfl (by omega) _ (rtN sp j).length _ (by rfl) (o2.alloc _) ⟨w2.heap.size, 0, none⟩ 1 1 [.int .i64 p1, .int .i64 p2] (by rfl) (by rfl) (World.news_of_block (cs := #[.int .i64 p1, .int .i64 p2]) (t := 61) (fr := (0, 0)) (heap_alloc_at _ _ _ (by simp))) (by simp [Value.oneCell']) (by omega) (by unfold maxLen; omega) (by omega) (by simp; omega) (w2.heap.size + 1) (by simp) ?_); intro gg cp w3 hown3 hgrow hat hlt3))
          refine ⟨⟨j + 1, by omega, by go_num, Below.grown ((HW.out.trans (HX.out.mono HW.out.size)).alloc (by omega) _) hgrow (by simp; omega) (fun k hk => (ol k hk).1), ?_⟩, by simp [intOf]; omega⟩
          rw [HN.out, spCells_append, List.length_append]
          exact hown3
      · obtain rfl : j = sp.length := by omega
        obtain ⟨oa, oc, g2, rfl, hg2, hn2, hsp2, hmx2⟩ := sps_of_owns hown
        generalize rtN sp sp.length = rt at *
        have HP2 : Hid _ := hsp2
        clear hown hg2 hn2 hsp2
        by_cases hbig : 16 < rt.length
        · have F : Hid (ordersA hs = (0, 2)) := by show ordersA hs = _; rw [F0.out, if_pos hbig]
          have hbi : (16 : Int) < (rt.length : Int) := by omega
          go_wp2_with fail
          go_ret2
          exact ⟨by rw [F.out]; rfl, HB.out.trans (hbw.mono HB.out.size)⟩
        · have F : Hid (ordersA hs = (ordsA rt, 0)) := by show ordersA hs = _; rw [F0.out, if_neg hbig]
          have hbi : (rt.length : Int) ≤ 16 := by omega
          go_wp2_with fail
          refine (count_any oa g2 oc rt _ HP2.out (by omega)).mono ?_
          rintro e w2 ⟨rfl, hb2⟩
          go_wp2_with fail
          go_ret2
          exact ⟨by rw [F.out]; rfl, (HB.out.trans (hbw.mono HB.out.size)).trans (hb2.mono (HB.out.trans (hbw.mono HB.out.size)).size)⟩
  · have hn : (hErr hs != 0) = true := by simp [he]
    have F : Hid (ordersA hs = (0, hErr hs)) := by show ordersA hs = _; unfold ordersA; rw [if_pos he]
    clear he
    go_enter Try.func18, Try.ntmps18
    go_wp2_with fail
    refine (spansOf_any base b o c hs pb pc pg po _ HA.out).mono ?_
    rintro e w1 ⟨v, rfl, hb, _, hown⟩
    clear hown
    go_wp2_with fail
    go_ret2
    exact ⟨by rw [F.out]; rfl, hb⟩

def opG : OpD := ⟨1, 5, 0, 0⟩
def opP : OpD := ⟨2, 5, 7, 0⟩
def sampleL : List EvD := [⟨0, false, opG, RetD.zero⟩, ⟨1, false, opP, RetD.zero⟩, ⟨1, true, opP, RetD.zero⟩, ⟨0, true, opG, ⟨true, 0, 7, []⟩⟩]
def sampleC : Array Value := #[.int .i64 0, .bool false, .int .i64 1, .int .i64 5, .int .i64 0, .int .i64 0, .bool false, .int .i64 0, .int .i64 0, .slice none 0 0, .int .i64 1, .bool false, .int .i64 2, .int .i64 5, .int .i64 7, .int .i64 0, .bool false, .int .i64 0, .int .i64 0, .slice none 0 0, .int .i64 1, .bool true, .int .i64 2, .int .i64 5, .int .i64 7, .int .i64 0, .bool false, .int .i64 0, .int .i64 0, .slice none 0 0, .int .i64 0, .bool true, .int .i64 1, .int .i64 5, .int .i64 0, .int .i64 0, .bool true, .int .i64 0, .int .i64 7, .slice none 0 0]
theorem sample_evs (w : World) (T : TypeId) (g : Nat) (hg : g = w.heap.size) : EvsAt (w.alloc (.cells sampleC T)) (some ⟨g, 0, none⟩) g 0 sampleL (fun _ => none) (fun _ => 0) (fun _ => 0) (fun _ => 0) := by
  subst hg
  have hc := cell_new w sampleC T
  refine ⟨fun _ => rfl, fun _ => by simp, by unfold maxLen; simp [sampleL], fun i hi => ?_, fun i hi => ?_, fun i hi => ?_, fun i hi => ?_, fun i _ => by simp only [World.frozen?, heap_alloc_at w (.cells sampleC T) w.heap.size rfl]; simp⟩
  · match i, hi with
    | 0, _ => exact ⟨(hc 0).trans rfl, (hc 1).trans rfl⟩
    | 1, _ => exact ⟨(hc 10).trans rfl, (hc 11).trans rfl⟩
    | 2, _ => exact ⟨(hc 20).trans rfl, (hc 21).trans rfl⟩
    | 3, _ => exact ⟨(hc 30).trans rfl, (hc 31).trans rfl⟩
  · match i, hi with
    | 0, _ => exact ⟨(hc 2).trans rfl, (hc 3).trans rfl, (hc 4).trans rfl, (hc 5).trans rfl⟩
    | 1, _ => exact ⟨(hc 12).trans rfl, (hc 13).trans rfl, (hc 14).trans rfl, (hc 15).trans rfl⟩
    | 2, _ => exact ⟨(hc 22).trans rfl, (hc 23).trans rfl, (hc 24).trans rfl, (hc 25).trans rfl⟩
    | 3, _ => exact ⟨(hc 32).trans rfl, (hc 33).trans rfl, (hc 34).trans rfl, (hc 35).trans rfl⟩
  · match i, hi with
    | 0, _ => exact ⟨(hc 6).trans rfl, (hc 7).trans rfl, (hc 8).trans rfl, (hc 9).trans rfl⟩
    | 1, _ => exact ⟨(hc 16).trans rfl, (hc 17).trans rfl, (hc 18).trans rfl, (hc 19).trans rfl⟩
    | 2, _ => exact ⟨(hc 26).trans rfl, (hc 27).trans rfl, (hc 28).trans rfl, (hc 29).trans rfl⟩
    | 3, _ => exact ⟨(hc 36).trans rfl, (hc 37).trans rfl, (hc 38).trans rfl, (hc 39).trans rfl⟩
  · have e : (evAt sampleL i).rt.pairs = [] := by
      match i, hi with
      | 0, _ => rfl
      | 1, _ => rfl
      | 2, _ => rfl
      | 3, _ => rfl
    rw [e]
    exact ⟨⟨fun h => absurd rfl h, fun h => absurd rfl h, fun i hi => by simp at hi, by simp, fun i hi => by simp at hi⟩, fun _ => ⟨rfl, rfl⟩, by simp⟩
theorem sample_any (w : World) : Calls Try.prog 19 #[] w fun e w' => ∃ g, e = .returned (.slice (some ⟨g, 0, none⟩) 4 4) ∧ EvsAt w' (some ⟨g, 0, none⟩) g 0 sampleL (fun _ => none) (fun _ => 0) (fun _ => 0) (fun _ => 0) ∧ Below w.heap.size w w' := by
  go_enter Try.func19, Try.ntmps19
  go_wp2_with fail
  go_ret
  refine ⟨_, rfl, ?_, ((below_alloc _ _).alloc (by simp) _).alloc (by simp; omega) _⟩
  exact sample_evs _ _ _ (by simp)
theorem sample_ord : ordersA sampleL = (2, 0) := by decide +kernel
theorem sample_ahead : aheadA sampleL 0 1 = (false, 0) := by decide +kernel

set_option maxRecDepth 100000 in
set_option maxHeartbeats 1000000 in
theorem known_any (w : World) : Calls Try.prog 4 #[] w fun e w' => e = .returned (.bool true) ∧ Below w.heap.size w w' := by
  go_enter Try.func4, Try.ntmps4
  go_wp2_with fail
  refine (sample_any _).mono ?_
  rintro e w1 ⟨g, rfl, hE, hb1⟩
  have HE1 : Hid _ := hE
  clear hE
  go_wp2_with fail
  refine (Orders_any (some ⟨g, 0, none⟩) g 0 4 sampleL (fun _ => none) (fun _ => 0) (fun _ => 0) (fun _ => 0) _ HE1.out).mono ?_
  rw [sample_ord]
  rintro e w2 ⟨rfl, hb2⟩
  go_wp2_with fail
  refine (sample_any _).mono ?_
  rintro e w3 ⟨g3, rfl, hE3, hb3⟩
  have HE3 : Hid _ := hE3
  clear hE3
  go_wp2_with fail
  refine (Ahead_any (some ⟨g3, 0, none⟩) g3 0 4 sampleL (fun _ => none) (fun _ => 0) (fun _ => 0) (fun _ => 0) _ HE3.out 0 1).mono ?_
  rw [sample_ahead]
  rintro e w4 ⟨rfl, hb4⟩
  go_wp2_with fail
  go_ret
  have q2 := hb1.trans (hb2.mono hb1.size)
  have q3 := q2.trans (hb3.mono q2.size)
  exact ⟨rfl, q3.trans (hb4.mono q3.size)⟩
end Go.Proofs.Ytgbfippcnmpgfaa
