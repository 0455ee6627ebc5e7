/- Layer 5: the reference's Calls, before, Ahead, Pending, Width, Row; rows of numbers held against one another. -/
import Derived.Test.YtniognoapcaliaaECalls
namespace Go.Proofs.Ytniognoapcaliaa
open Go.RowKit
attribute [local go_sem ↓] Go.wp_at_zero Go.wp_at_succ

/-- The operations lie in memory. -/
structure CallsAt (hs : List EvD) (w : World) (base : Option Addr) (g : Nat) (l : List (Sp × Value)) : Prop where
  base : l.length ≠ 0 → base = some ⟨g, 0, none⟩
  lt : l.length ≠ 0 → g < w.heap.size
  cells : ∀ k x, l[k]? = some x → ∀ i, i < 11 → w.cell? ⟨g, k * 11 + i, none⟩ = (callC hs x.1 x.2)[i]?
theorem CallsAt.below {hs : List EvD} {w w' : World} {base : Option Addr} {g : Nat} {l : List (Sp × Value)} (h : CallsAt hs w base g l) (hb : Below w.heap.size w w') : CallsAt hs w' base g l := by
  refine ⟨h.base, fun hn => Nat.lt_of_lt_of_le (h.lt hn) hb.size, fun k x hx i hi => ?_⟩
  have hl : l.length ≠ 0 := by have := (List.getElem?_eq_some_iff.1 hx).1; omega
  exact (hb.cell (p := ⟨g, _, none⟩) (h.lt hl)).trans (h.cells k x hx i hi)
theorem calls_of_owns {hs : List EvD} {w : World} {B : Nat} {e : TypeId} {v : Value} {l : List (Sp × Value)} (h : w.ownsRow B e 11 v l.length (callsC hs l)) :
    ∃ base cap g, v = .slice base l.length cap ∧ (base = none → l.length = 0 ∧ cap = 0) ∧ CallsAt hs w base g l ∧ l.length ≤ maxLen := by
  by_cases hn : l.length = 0
  · obtain ⟨a, c, e⟩ := owns_form h
    refine ⟨a, c, 0, e, fun ha => ⟨hn, ?_⟩, ⟨fun q => absurd hn q, fun q => absurd hn q, fun k x hx => ?_⟩, by omega⟩
    · obtain ⟨_, h⟩ := h
      subst ha
      rcases h with ⟨h, _⟩ | ⟨g, cap, cur, h, _⟩
      · rw [e] at h; simp at h; exact h.2
      · rw [e] at h; cases h
    · have := (List.getElem?_eq_some_iff.1 hx).1; omega
  · obtain ⟨g, cap, e, h1, h2, h3, h4, h5, h6⟩ := owns_some h (by omega)
    refine ⟨_, cap, g, e, (fun q => by cases q), ⟨fun _ => rfl, fun _ => h2, fun k x hx i hi => ?_⟩, by omega⟩
    have hk := (List.getElem?_eq_some_iff.1 hx).1
    rw [h5 _ (by omega)]
    exact callsC_get hs l k i x hx hi
theorem CallsAt.ft {hs : List EvD} {w : World} {base : Option Addr} {g : Nat} {l : List (Sp × Value)} {sp : List Sp} (h : CallsAt hs w base g l) (hm : l.map (·.1) = sp) {k : Nat} (hk : k < sp.length) : w.cell? ⟨g, k * 11 + 9, none⟩ = some (.int .i64 (spAt sp k).1) ∧ w.cell? ⟨g, k * 11 + 10, none⟩ = some (.int .i64 (spAt sp k).2) := by
  obtain ⟨x, hx, e, _⟩ := getE_of_map hm hk
  have a := h.cells k x hx 9 (by omega)
  have b := h.cells k x hx 10 (by omega)
  simp only [callC, List.getElem?_cons_succ, List.getElem?_cons_zero] at a b
  rw [← e]
  exact ⟨a, b⟩

set_option maxRecDepth 100000 in
set_option maxHeartbeats 1000000 in
theorem before_any (hs : List EvD) (base : Option Addr) (g cap x y : Nat) (l : List (Sp × Value)) (sp : List Sp) (w : World) (h : CallsAt hs w base g l) (hm : l.map (·.1) = sp) (hx : x < sp.length) (hy : y < sp.length) :
    Calls Try.prog 60 #[.slice base l.length cap, .int .i64 x, .int .i64 y] w fun e w' => e = .returned (.bool (ahd (spAt sp x) (spAt sp y))) ∧ Below w.heap.size w w' := by
  have hll : l.length = sp.length := by rw [← hm, List.length_map]
  obtain rfl : base = some ⟨g, 0, none⟩ := h.base (by omega)
  obtain ⟨c0, c1⟩ := h.ft hm hx
  obtain ⟨c2, c3⟩ := h.ft hm hy
  have x0 : (0 : Int) ≤ (x : Int) := Int.natCast_nonneg _
  have x1 : (x : Int) < (l.length : Int) := by omega
  have y0 : (0 : Int) ≤ (y : Int) := Int.natCast_nonneg _
  have y1 : (y : Int) < (l.length : Int) := by omega
  generalize spAt sp x = p at *
  generalize spAt sp y = r at *
  obtain ⟨p1, p2⟩ := p
  obtain ⟨r1, r2⟩ := r
  simp only at c0 c1 c2 c3
  clear h hm hx hy hll
  by_cases hp : p2 = -1
  · have hd : (p2 != -1) = false := by simp [hp]
    have F : Hid (ahd (p1, p2) (r1, r2) = false) := by show ahd (p1, p2) (r1, r2) = false; simp [ahd, hp]
    clear hp
    go_enter Try.func60, Try.ntmps60
    go_wp2_with fail
    go_quiet (fail)
    go_wp2_with fail
    go_ret
    exact ⟨by rw [F.out]; rfl, below_drewN (Below.refl _ _) _⟩
  · have hd : (p2 != -1) = true := by simp [hp]
    have F : Hid (ahd (p1, p2) (r1, r2) = decide (p2 < r1)) := by show ahd (p1, p2) (r1, r2) = _; simp [ahd, hp]
    clear hp
    go_enter Try.func60, Try.ntmps60
    go_wp2_with fail
    go_quiet (fail)
    go_wp2_with fail
    go_ret
    exact ⟨by rw [F.out]; rfl, below_drewN (Below.refl _ _) _⟩

section
variable (base : Option Addr) (b o c : Nat) (hs : List EvD) (pb : Nat → Option Addr) (pc pg po : Nat → Nat) (w : World) (h : EvsAt w base b o hs pb pc pg po)
include h

set_option maxRecDepth 100000 in
set_option maxHeartbeats 1000000 in
theorem rCalls_any : Calls Try.prog 16 #[.slice base hs.length c] w fun e w' => ∃ v, e = .returned (.tuple #[v, .int .i64 (hErr hs)]) ∧ Below w.heap.size w w' ∧ (hErr hs ≠ 0 → v = .slice none 0 0) ∧ (hErr hs = 0 → ∃ l, l.map (·.1) = spansL hs ∧ w'.ownsRow w.heap.size 88 11 v l.length (callsC hs l) ∧ RetsAt hs w' w.heap.size v.ownBlock l) := by
  have HA : Hid _ := h
  clear h
  by_cases he : hErr hs = 0
  · have hn : (hErr hs != 0) = false := by simp [he]
    have HE : Hid _ := he
    clear he
    go_enter Try.func16, Try.ntmps16
    go_wp2_with fail
    refine (rcheck_any base b o c hs pb pc pg po _ HA.out).mono ?_
    rintro e w1 ⟨rfl, hb⟩
    go_wp2_with fail
    refine (calls_any base b o c hs pb pc pg po _ (HA.out.below hb) HE.out).mono ?_
    rintro e w2 ⟨v, l, rfl, hb2, hm, ho, hr⟩
    have HM : Hid _ := hm
    have HO : Hid (World.ownsRow _ _ _ _ _ _ _) := ho
    have HR : Hid (RetsAt _ _ _ _ _) := hr
    clear hm ho hr
    go_wp2_with fail
    go_ret2
    refine ⟨v, by rw [HE.out]; rfl, hb.trans (hb2.mono hb.size), fun h => absurd HE.out h, fun _ => ⟨l, HM.out, owns_down HO.out hb.size, ?_⟩⟩
    intro x hx
    obtain ⟨r1, r2⟩ := HR.out x hx
    refine ⟨r1, fun hn => ?_⟩
    obtain ⟨g, cap, e, h1, h2⟩ := r2 hn
    exact ⟨g, cap, e, Nat.le_trans hb.size h1, h2⟩
  · have hn : (hErr hs != 0) = true := by simp [he]
    have HE : Hid _ := he
    clear he
    go_enter Try.func16, Try.ntmps16
    go_wp2_with fail
    refine (rcheck_any base b o c hs pb pc pg po _ HA.out).mono ?_
    rintro e w1 ⟨rfl, hb⟩
    go_wp2_with fail
    go_ret2
    exact ⟨_, rfl, hb, fun _ => rfl, fun h => absurd h HE.out⟩

set_option maxRecDepth 100000 in
set_option maxHeartbeats 1000000 in
theorem rAhead_any (i j : Int) : Calls Try.prog 23 #[.slice base hs.length c, .int .i64 i, .int .i64 j] w fun e w' => e = .returned (.tuple #[.bool (aheadA hs i j).1, .int .i64 (aheadA hs i j).2]) ∧ Below w.heap.size w w' := by
  have HA : Hid _ := h
  clear h
  by_cases he : hErr hs = 0
  · have hn : (hErr hs != 0) = false := by simp [he]
    have HE : Hid _ := he
    clear he
    by_cases hij : 0 ≤ i ∧ i < (spansL hs).length ∧ 0 ≤ j ∧ j < (spansL hs).length
    · obtain ⟨x, rfl⟩ : ∃ x : Nat, i = x := ⟨i.toNat, by omega⟩
      obtain ⟨y, rfl⟩ : ∃ y : Nat, j = y := ⟨j.toNat, by omega⟩
      have F : Hid (aheadA hs x y = (ahd (spAt (spansL hs) x) (spAt (spansL hs) y), 0)) := by unfold aheadA; rw [if_neg (by simp [HE.out]), if_pos (by omega)]; rfl
      have hx : x < (spansL hs).length := by omega
      have hy : y < (spansL hs).length := by omega
      clear hij
      go_enter Try.func23, Try.ntmps23
      go_wp2_with fail
      refine (rCalls_any base b o c hs pb pc pg po _ HA.out).mono ?_
      rintro e w1 ⟨v, rfl, hb, _, hown⟩
      obtain ⟨l, hm, ho, _⟩ := hown HE.out
      have hll : l.length = (spansL hs).length := by rw [← hm, List.length_map]
      obtain ⟨base1, cap, g, rfl, hnil, hca, hmx⟩ := calls_of_owns ho
      have HC : Hid _ := hca
      have HM : Hid _ := hm
      have x0 : decide ((x : Int) < 0) = false := by simp
      have x1 : decide ((l.length : Int) ≤ (x : Int)) = false := by simp; omega
      have y0 : decide ((y : Int) < 0) = false := by simp
      have y1 : decide ((l.length : Int) ≤ (y : Int)) = false := by simp; omega
      have x2 : (x : Int) < (l.length : Int) := by omega
      have y2 : (y : Int) < (l.length : Int) := by omega
      clear hown ho hnil hca hm hll
      go_wp2_with fail
      refine (before_any hs base1 g cap x y l (spansL hs) _ HC.out HM.out hx hy).mono ?_
      rintro e w2 ⟨rfl, hb2⟩
      go_wp2_with fail
      go_ret2
      exact ⟨by rw [F.out]; rfl, hb.trans (hb2.mono hb.size)⟩
    · have F : Hid (aheadA hs i j = (false, 1)) := by unfold aheadA; rw [if_neg (by simp [HE.out]), if_neg (by omega)]; rfl
      have HIJ : Hid _ := hij
      clear hij
      go_enter Try.func23, Try.ntmps23
      go_wp2_with fail
      refine (rCalls_any base b o c hs pb pc pg po _ HA.out).mono ?_
      rintro e w1 ⟨v, rfl, hb, _, hown⟩
      obtain ⟨l, hm, ho, _⟩ := hown HE.out
      have hll : l.length = (spansL hs).length := by rw [← hm, List.length_map]
      obtain ⟨base1, cap, g, rfl, hnil, hca, hmx⟩ := calls_of_owns ho
      have hbad : ¬ (0 ≤ i ∧ i < (l.length : Int) ∧ 0 ≤ j ∧ j < (l.length : Int)) := by rw [hll]; exact HIJ.out
      clear hown ho hnil hca hm hll
      by_cases i0 : i < 0
      · clear hbad
        go_wp2_with fail
        go_ret2
        exact ⟨by rw [F.out]; rfl, hb⟩
      · by_cases i1 : (l.length : Int) ≤ i
        · have i0' : 0 ≤ i := by omega
          clear hbad i0
          go_wp2_with fail
          go_ret2
          exact ⟨by rw [F.out]; rfl, hb⟩
        · by_cases j0 : j < 0
          · have i0' : 0 ≤ i := by omega
            have i1' : i < (l.length : Int) := by omega
            clear hbad i0 i1
            go_wp2_with fail
            go_ret2
            exact ⟨by rw [F.out]; rfl, hb⟩
          · have i0' : 0 ≤ i := by omega
            have i1' : i < (l.length : Int) := by omega
            have j0' : 0 ≤ j := by omega
            have j1' : (l.length : Int) ≤ j := by omega
            clear hbad i0 i1 j0
            go_wp2_with fail
            go_ret2
            exact ⟨by rw [F.out]; rfl, hb⟩
  · have hn : (hErr hs != 0) = true := by simp [he]
    have F : Hid (aheadA hs i j = (false, hErr hs)) := by unfold aheadA; rw [if_pos he]; rfl
    clear he
    go_enter Try.func23, Try.ntmps23
    go_wp2_with fail
    refine (rCalls_any base b o c hs pb pc pg po _ HA.out).mono ?_
    rintro e w1 ⟨v, rfl, hb, _, hown⟩
    clear hown
    go_wp2_with fail
    go_ret2
    exact ⟨by rw [F.out]; rfl, hb⟩

set_option maxRecDepth 100000 in
set_option maxHeartbeats 1000000 in
theorem rPending_any : Calls Try.prog 25 #[.slice base hs.length c] w fun e w' => ∃ v, e = .returned (.tuple #[v, .int .i64 (hErr hs)]) ∧ Below w.heap.size w w' ∧ (hErr hs ≠ 0 → v = .slice none 0 0) ∧ (hErr hs = 0 → w'.ownsRow w.heap.size 3 1 v (pendN (spansL hs) (spansL hs).length).length (numCells (pendN (spansL hs) (spansL hs).length))) := by
  have HA : Hid _ := h
  clear h
  by_cases he : hErr hs = 0
  · have hn : (hErr hs != 0) = false := by simp [he]
    obtain ⟨hbn, s, hst, hsl⟩ := hErr_zero he
    have hsn : (spansL hs).length ≤ 100000 := by rw [hsl]; have := (stN_ok hst).len; omega
    have HE : Hid _ := he
    clear he hst hsl hbn
    obtain ⟨i0, hi0, hz0, hz1, hz2⟩ := info_parts int_info
    go_enter Try.func25, Try.ntmps25
    go_wp2_with fail
    refine (rCalls_any base b o c hs pb pc pg po _ HA.out).mono ?_
    rintro e w1 ⟨v, rfl, hb, _, hown⟩
    obtain ⟨l, hm, ho, _⟩ := hown HE.out
    have hll : l.length = (spansL hs).length := by rw [← hm, List.length_map]
    obtain ⟨base1, cap, g, rfl, hnil, hca, hmx⟩ := calls_of_owns ho
    generalize hgs : spansL hs = sp at *
    have HGS : Hid _ := hgs
    have HB : Hid _ := hb
    have HC : Hid _ := hca
    have HM : Hid _ := hm
    have hs1 := hb.size
    have hll1 : l.length ≤ sp.length := by omega
    have hll2 : sp.length ≤ l.length := by omega
    clear hgs hown ho hnil hca hm hb hll
    go_wp2_with fail
    go_loopw [6, 7] (fun v i wr => ∃ j : Nat, j ≤ sp.length ∧ i = .int .i64 j ∧ Below w1.heap.size w1 wr ∧ wr.ownsRow w1.heap.size 3 1 v (pendN sp j).length (numCells (pendN sp j))) (fun _ i _ => sp.length - (intOf i).toNat)
    case atStart => exact ⟨0, Nat.zero_le _, rfl, Below.refl _ _, World.ownsRow_nil _ _ _ _⟩
    case round =>
      obtain ⟨j, hj, rfl, hbw, hown⟩ := hrel
      by_cases hlt : j < sp.length
      · obtain rfl : base1 = some ⟨g, 0, none⟩ := HC.out.base (by omega)
        obtain ⟨c0, c1⟩ := (HC.out.below hbw).ft HM.out hlt
        have j0 : (0 : Int) ≤ (j : Int) := Int.natCast_nonneg _
        have j1 : (j : Int) < (l.length : Int) := by omega
        have HW : Hid _ := hbw
        have HO : Hid (World.ownsRow _ _ _ _ _ _ _) := hown
        have ol := owns_lt hown
        have hz := hbw.size
        clear hbw hown
        have hlp := pendN_le sp j
        by_cases hp : (spAt sp j).2 = -1
        · have hd : ((spAt sp j).2 == -1) = true := by simp [hp]
          have HN : Hid (pendN sp (j + 1) = pendN sp j ++ [j]) := by show pendN sp (j + 1) = _; simp only [pendN]; rw [if_pos hp]
          clear hp
          go_wp2_with (first | (at_builtin; (refine wpList_append_lies _ (by rfl) _ _ _ (by rfl) w1.heap.size 3 i0 _ 1 8 ints_under hi0 hz0 hz1 hz2 rfl (by omega) _ (pendN sp j).length _ (by rfl) (HO.out.alloc _) ⟨wr.heap.size, 0, none⟩ 1 1 [.int .i64 j] (by rfl) (by rfl) (World.news_of_block (cs := #[.int .i64 j]) (t := 3) (fr := (0, 0)) (heap_alloc_at _ _ _ (by simp))) (by simp [Value.oneCell']) (by omega) (by unfold maxLen; omega) (by omega) (by simp; omega) (wr.heap.size + 1) (by simp) ?_); intro gg cp w3 hown3 hgrow hat hlt3))
          refine ⟨⟨j + 1, by omega, by go_num, Below.grown (HW.out.alloc (by omega) _) hgrow (by simp; omega) (fun k hk => (ol k hk).1), ?_⟩, by simp [intOf]; omega⟩
          rw [HN.out]
          simpa [numCells] using hown3
        · have hd : ((spAt sp j).2 == -1) = false := by simp [hp]
          have HN : Hid (pendN sp (j + 1) = pendN sp j) := by show pendN sp (j + 1) = _; simp only [pendN]; rw [if_neg hp]
          clear hp
          go_wp2_with fail
          refine ⟨⟨j + 1, by omega, by go_num, HW.out, ?_⟩, by simp [intOf]; omega⟩
          rw [HN.out]
          exact HO.out
      · obtain rfl : j = sp.length := by omega
        have HO : Hid (World.ownsRow _ _ _ _ _ _ _) := hown
        clear hown
        go_wp2
        go_ret2
        exact ⟨u6, by rw [HE.out]; rfl, HB.out.trans (hbw.mono HB.out.size), fun h => absurd HE.out h, fun _ => by rw [HGS.out]; exact owns_down HO.out hs1⟩
  · have hn : (hErr hs != 0) = true := by simp [he]
    have HE : Hid _ := he
    clear he
    go_enter Try.func25, Try.ntmps25
    go_wp2_with fail
    refine (rCalls_any base b o c hs pb pc pg po _ HA.out).mono ?_
    rintro e w1 ⟨v, rfl, hb, _, hown⟩
    clear hown
    go_wp2_with fail
    go_ret2
    exact ⟨_, rfl, hb, fun _ => rfl, fun h => absurd h HE.out⟩

set_option maxRecDepth 100000 in
set_option maxHeartbeats 1000000 in
theorem rWidth_any : Calls Try.prog 28 #[.slice base hs.length c] w fun e w' => e = .returned (.tuple #[.int .i64 (widthA hs), .int .i64 (hErr hs)]) ∧ Below w.heap.size w w' := by
  have HA : Hid _ := h
  clear h
  by_cases he : hErr hs = 0
  · have hn : (hErr hs != 0) = false := by simp [he]
    obtain ⟨hbn, s, hst, hsl⟩ := hErr_zero he
    have F : Hid (widthA hs = (wdN hs hs.length).2) := by show widthA hs = _; unfold widthA; rw [if_pos he]
    have HE : Hid _ := he
    clear he hst hsl
    go_enter Try.func28, Try.ntmps28
    go_wp2_with fail
    refine (rcheck_any base b o c hs pb pc pg po _ HA.out).mono ?_
    rintro e w1 ⟨rfl, hb⟩
    have HB : Hid _ := hb
    clear hb
    go_wp2_with fail
    go_loopw [5, 6, 7] (fun v m i wr => ∃ j : Nat, j ≤ hs.length ∧ i = .int .i64 j ∧ m = .int .i64 (wdN hs j).2 ∧ v = .int .i64 (wdN hs j).1 ∧ Below w.heap.size w wr) (fun _ _ i _ => hs.length - (intOf i).toNat)
    case atStart => exact ⟨0, Nat.zero_le _, rfl, rfl, rfl, HB.out⟩
    case round =>
      obtain ⟨j, hj, rfl, rfl, rfl, hbw⟩ := hrel
      by_cases hlt : j < hs.length
      · obtain rfl : base = some ⟨b, o, none⟩ := HA.out.base (by omega)
        have EV := HA.out.below hbw
        obtain ⟨d0, d1⟩ := EV.c0 j hlt
        obtain ⟨d2, d3, d4, d5⟩ := EV.c1 j hlt
        obtain ⟨d6, d7, d8, d9⟩ := EV.c2 j hlt
        obtain ⟨b0, b1, b2, b3⟩ := wdN_bd hs j
        have j0 : (0 : Int) ≤ (j : Int) := Int.natCast_nonneg _
        have j1 : (j : Int) < (hs.length : Int) := by omega
        have HW : Hid _ := hbw
        cases hr : (evAt hs j).ret
        · rw [hr] at d1
          have HN : Hid (wdN hs (j + 1) = ((wdN hs j).1 + 1, if (wdN hs j).2 < (wdN hs j).1 + 1 then (wdN hs j).1 + 1 else (wdN hs j).2)) := by show wdN hs (j + 1) = _; simp [wdN, hr]
          generalize wdN hs j = p at *
          obtain ⟨now, most⟩ := p
          simp only at b0 b1 b2 b3
          clear hbw EV
          go_wp2_with fail
          exact ⟨⟨j + 1, by omega, by go_num, by rw [HN.out], by rw [HN.out], HW.out⟩, by simp [intOf]; omega⟩
        · rw [hr] at d1
          have HN : Hid (wdN hs (j + 1) = ((wdN hs j).1 - 1, if (wdN hs j).2 < (wdN hs j).1 - 1 then (wdN hs j).1 - 1 else (wdN hs j).2)) := by show wdN hs (j + 1) = _; simp [wdN, hr, Int.sub_eq_add_neg]
          generalize wdN hs j = p at *
          obtain ⟨now, most⟩ := p
          simp only at b0 b1 b2 b3
          clear hbw EV
          go_wp2_with fail
          exact ⟨⟨j + 1, by omega, by go_num, by rw [HN.out], by rw [HN.out], HW.out⟩, by simp [intOf]; omega⟩
      · obtain rfl : j = hs.length := by omega
        go_wp2_with fail
        go_ret2
        exact ⟨by rw [F.out, HE.out]; rfl, hbw⟩
  · have hn : (hErr hs != 0) = true := by simp [he]
    have F : Hid (widthA hs = 0) := by show widthA hs = 0; unfold widthA; rw [if_neg he]
    clear he
    go_enter Try.func28, Try.ntmps28
    go_wp2_with fail
    refine (rcheck_any base b o c hs pb pc pg po _ HA.out).mono ?_
    rintro e w1 ⟨rfl, hb⟩
    go_wp2_with fail
    go_ret2
    exact ⟨by rw [F.out]; rfl, hb⟩

set_option maxRecDepth 100000 in
set_option maxHeartbeats 1000000 in
theorem rRow_any : Calls Try.prog 30 #[.slice base hs.length c] w fun e w' => e = .returned (.tuple #[.bool (decide (hErr hs = 0) && decide (widthA hs ≤ 1)), .int .i64 (hErr hs)]) ∧ Below w.heap.size w w' := by
  have HA : Hid _ := h
  clear h
  by_cases he : hErr hs = 0
  · have hn : (hErr hs == 0) = true := by simp [he]
    have HE : Hid _ := he
    clear he
    go_enter Try.func30, Try.ntmps30
    go_wp2_with fail
    refine (rWidth_any base b o c hs pb pc pg po _ HA.out).mono ?_
    rintro e w1 ⟨rfl, hb⟩
    go_wp2_with fail
    go_ret2
    exact ⟨by rw [HE.out]; rfl, hb⟩
  · have hn : (hErr hs == 0) = false := by simp [he]
    have F : Hid (decide (hErr hs = 0) = false) := by show decide (hErr hs = 0) = false; simp [he]
    clear he
    go_enter Try.func30, Try.ntmps30
    go_wp2_with fail
    refine (rWidth_any base b o c hs pb pc pg po _ HA.out).mono ?_
    rintro e w1 ⟨rfl, hb⟩
    go_wp2_with fail
    go_ret2
    exact ⟨by rw [F.out]; rfl, hb⟩
end
end Go.Proofs.Ytniognoapcaliaa
