/- Layer 5: the program's Same, the reference's Same; EventSame, walked. -/
import Derived.Test.YtniognoapcaliaaEByM
namespace Go.Proofs.Ytniognoapcaliaa
open Go.RowKit
attribute [local go_sem ↓] Go.wp_at_zero Go.wp_at_succ

def sameE (a b : List EvD) : Int := if hErr a ≠ 0 then hErr a else hErr b
def SameP (a b : List EvD) : Prop := hErr a = 0 ∧ hErr b = 0 ∧ ∀ t, thN a t a.length = thN b t b.length
theorem by_eq {a b x y : List EvD} (ha : hErr a = 0) (hb : hErr b = 0) (hx : ByTh a x) (hy : ByTh b y) : x = y ↔ SameP a b := by
  constructor
  · rintro rfl
    exact ⟨ha, hb, fun t => by rw [← hx.2.2 t, ← hy.2.2 t]⟩
  · rintro ⟨_, _, h⟩
    exact th_eq x y hx.2.1 hy.2.1 (fun t => by rw [hx.2.2 t, hy.2.2 t, h t])
theorem same_all {a b : List EvD} (ha : hErr a = 0) (hb : hErr b = 0) (h : ∀ k : Nat, k < 64 → thN a k a.length = thN b k b.length) : SameP a b := by
  refine ⟨ha, hb, fun t => ?_⟩
  by_cases ht : t < 0 ∨ 64 ≤ t
  · rw [th_none ha ht _ (Nat.le_refl _), th_none hb ht _ (Nat.le_refl _)]
  · have := h t.toNat (by omega)
    rwa [show ((t.toNat : Nat) : Int) = t by omega] at this

section
variable (a1 a2 : Option Addr) (b1 o1 c1 b2 o2 c2 : Nat) (x y : List EvD) (pb qb : Nat → Option Addr) (pc pg po qc qg qo : Nat → Nat) (w : World) (hx : EvsAt w a1 b1 o1 x pb pc pg po) (hy : EvsAt w a2 b2 o2 y qb qc qg qo)
include hx hy

set_option maxRecDepth 100000 in
set_option maxHeartbeats 1000000 in
theorem rSame_any : Calls Try.prog 42 #[.slice a1 x.length c1, .slice a2 y.length c2] w fun e w' => ∃ r, e = .returned (.tuple #[.bool r, .int .i64 (sameE x y)]) ∧ Below w.heap.size w w' ∧ (r = true ↔ SameP x y) := by
  have HX : Hid _ := hx
  have HY : Hid _ := hy
  clear hx hy
  by_cases he : hErr x = 0
  · have hn0 : (hErr x == 0) = true := by simp [he]
    have E1 : Hid (sameE x y = hErr y) := by
      show sameE x y = hErr y
      unfold sameE; rw [if_neg (fun q => q he)]
    by_cases hf : hErr y = 0
    · have hn1 : (hErr y != 0) = false := by simp [hf]
      have HE : Hid _ := he
      have HF : Hid _ := hf
      clear he hf
      go_enter Try.func42, Try.ntmps42
      go_wp2_with fail
      refine (rcheck_any a1 b1 o1 c1 x pb pc pg po _ HX.out).mono ?_
      rintro e w1 ⟨rfl, hb⟩
      have B1 : Hid _ := hb
      clear hb
      go_wp2_with fail
      refine (rcheck_any a2 b2 o2 c2 y qb qc qg qo _ (HY.out.below B1.out)).mono ?_
      rintro e w2 ⟨rfl, hb⟩
      have B2 : Hid (Below w.heap.size w w2) := B1.out.trans (hb.mono B1.out.size)
      clear hb B1
      go_wp2_with fail
      go_loopw [7] (fun i wr => ∃ j : Nat, j ≤ 64 ∧ i = .int .i64 j ∧ (∀ k : Nat, k < j → thN x k x.length = thN y k y.length) ∧ Below w.heap.size w wr) (fun i _ => 64 - (intOf i).toNat)
      case atStart => exact ⟨0, by omega, rfl, fun k hk => by omega, B2.out⟩
      case round =>
        obtain ⟨j, hj, rfl, hall, hbw⟩ := hrel
        have HAL : Hid _ := hall
        have HW : Hid _ := hbw
        clear hall hbw B2
        by_cases hlt : j < 64
        · have z1 : (j : Int) < 64 := by omega
          go_wp2_with fail
          refine (rOf_new a1 b1 o1 c1 x pb pc pg po _ (HX.out.below HW.out) j).mono ?_
          rintro e w3 ⟨v3, rfl, hb3, hN3⟩
          have B3 : Hid (Below w.heap.size w w3) := HW.out.trans (hb3.mono HW.out.size)
          obtain ⟨m1, k1, g1, mb, mc, mg, mo, rfl, E3, _⟩ := hN3
          have HE3 : Hid (EvsAt _ _ _ _ _ _ _ _ _) := E3
          clear hb3 E3
          go_wp2_with fail
          refine (rOf_new a2 b2 o2 c2 y qb qc qg qo _ (HY.out.below B3.out) j).mono ?_
          rintro e w4 ⟨v4, rfl, hb4, hN4⟩
          have B4 : Hid (Below w.heap.size w w4) := B3.out.trans (hb4.mono B3.out.size)
          obtain ⟨m2, k2, g2, nb, nc, ng, no, rfl, E4, _⟩ := hN4
          have C1 : Hid (Calls _ _ _ _ _) := sameEvents_any m1 m2 g1 0 k1 g2 0 k2 _ _ mb nb mc mg mo nc ng no w4 (HE3.out.below hb4) E4
          clear hb4 E4
          go_wp2_with fail
          refine C1.out.mono ?_
          rintro e w5 ⟨r, rfl, hb5, hr5⟩
          have B5 : Hid (Below w.heap.size w w5) := B4.out.trans (hb5.mono B4.out.size)
          have HR5 : Hid (r = true ↔ thN x j x.length = thN y j y.length) := by
            have he := HE.out
            have hf := HF.out
            unfold ofL' at hr5
            rw [if_neg (fun q => q he), if_neg (fun q => q hf)] at hr5
            exact hr5
          clear hb5 hr5
          cases r
          · have BAD : Hid (¬ SameP x y) := fun q => by have := HR5.out.2 (q.2.2 j); cases this
            go_wp2_with fail
            go_ret2
            rw [E1.out, HF.out]
            exact ⟨false, rfl, B5.out, ⟨(fun q => by cases q), fun q => absurd q BAD.out⟩⟩
          · go_wp2_with fail
            refine ⟨⟨j + 1, by omega, by go_num, fun k hk => ?_, B5.out⟩, by simp [intOf]; omega⟩
            by_cases e : k = j
            · subst e; exact HR5.out.1 (by simp)
            · exact HAL.out k (by omega)
        · obtain rfl : j = 64 := by omega
          go_wp2_with fail
          go_ret2
          rw [E1.out, HF.out]
          exact ⟨true, rfl, HW.out, ⟨fun _ => same_all HE.out HF.out HAL.out, fun _ => rfl⟩⟩
    · have hn1 : (hErr y != 0) = true := by simp [hf]
      have BAD : Hid (¬ SameP x y) := fun q => hf q.2.1
      clear he hf
      go_enter Try.func42, Try.ntmps42
      go_wp2_with fail
      refine (rcheck_any a1 b1 o1 c1 x pb pc pg po _ HX.out).mono ?_
      rintro e w1 ⟨rfl, hb⟩
      have B1 : Hid _ := hb
      clear hb
      go_wp2_with fail
      refine (rcheck_any a2 b2 o2 c2 y qb qc qg qo _ (HY.out.below B1.out)).mono ?_
      rintro e w2 ⟨rfl, hb⟩
      have B2 : Hid (Below w.heap.size w w2) := B1.out.trans (hb.mono B1.out.size)
      clear hb B1
      go_wp2_with fail
      go_ret2
      rw [E1.out]
      exact ⟨false, rfl, B2.out, ⟨(fun q => by cases q), fun q => absurd q BAD.out⟩⟩
  · have hn0 : (hErr x == 0) = false := by simp [he]
    have hn1 : (hErr x != 0) = true := by simp [he]
    have E1 : Hid (sameE x y = hErr x) := by
      show sameE x y = hErr x
      unfold sameE; rw [if_pos he]
    have BAD : Hid (¬ SameP x y) := fun q => he q.1
    clear he
    go_enter Try.func42, Try.ntmps42
    go_wp2_with fail
    refine (rcheck_any a1 b1 o1 c1 x pb pc pg po _ HX.out).mono ?_
    rintro e w1 ⟨rfl, hb⟩
    go_wp2_with fail
    go_ret2
    rw [E1.out]
    exact ⟨false, rfl, hb, ⟨(fun q => by cases q), fun q => absurd q BAD.out⟩⟩

set_option maxRecDepth 100000 in
set_option maxHeartbeats 1000000 in
theorem same_any : Calls Try.prog 43 #[.slice a1 x.length c1, .slice a2 y.length c2] w fun e w' => ∃ r, e = .returned (.tuple #[.bool r, .int .i64 (sameE x y)]) ∧ Below w.heap.size w w' ∧ (r = true ↔ SameP x y) := by
  have HX : Hid _ := hx
  have HY : Hid _ := hy
  clear hx hy
  go_enter Try.func43, Try.ntmps43
  go_wp2_with fail
  go_loopw [13] (fun i wr => ∃ j : Nat, j ≤ 2 ∧ i = .int .i64 j ∧ (0 < j → hErr x = 0) ∧ (1 < j → hErr y = 0) ∧ Below w.heap.size w wr ∧ w.heap.size < wr.heap.size ∧ wr.cell? ⟨w.heap.size, 0, none⟩ = some (.slice a1 x.length c1) ∧ wr.cell? ⟨w.heap.size, 1, none⟩ = some (.slice a2 y.length c2)) (fun i _ => 2 - (intOf i).toNat)
  case atStart => exact ⟨0, by omega, rfl, (fun q => by omega), (fun q => by omega), below_alloc _ _, by simp, by simp, by simp⟩
  case round =>
    obtain ⟨j, hj, rfl, h0, h1, hbw, hsz, m0, m1⟩ := hrel
    have HW : Hid _ := hbw
    have H0 : Hid _ := h0
    have H1 : Hid _ := h1
    clear h0 h1 hbw
    match j, hj with
    | 0, _ =>
      by_cases he : hErr x = 0
      · have hn : (hErr x != 0) = false := by simp [he]
        have HE : Hid _ := he
        clear he
        go_wp2_with fail
        refine (check_any a1 b1 o1 c1 x pb pc pg po _ (HX.out.below HW.out)).mono ?_
        rintro e w1 ⟨rfl, hb⟩
        have M0 : Hid _ := (hb.cell (p := ⟨w.heap.size, 0, none⟩) hsz).trans m0
        have M1 : Hid _ := (hb.cell (p := ⟨w.heap.size, 1, none⟩) hsz).trans m1
        have zs := hb.size
        have B1 : Hid (Below w.heap.size w w1) := HW.out.trans (hb.mono HW.out.size)
        clear hb m0 m1
        go_wp2_with fail
        exact ⟨⟨1, by omega, rfl, fun _ => HE.out, (fun q => by omega), B1.out, by omega, M0.out, M1.out⟩, by simp [intOf]⟩
      · have hn : (hErr x != 0) = true := by simp [he]
        have E1 : Hid (sameE x y = hErr x) := by
          show sameE x y = hErr x
          unfold sameE; rw [if_pos he]
        have BAD : Hid (¬ SameP x y) := fun q => he q.1
        clear he
        go_wp2_with fail
        refine (check_any a1 b1 o1 c1 x pb pc pg po _ (HX.out.below HW.out)).mono ?_
        rintro e w1 ⟨rfl, hb⟩
        have B1 : Hid (Below w.heap.size w w1) := HW.out.trans (hb.mono HW.out.size)
        clear hb m0 m1
        go_wp2_with fail
        go_ret2
        rw [E1.out]
        exact ⟨false, rfl, B1.out, ⟨(fun q => by cases q), fun q => absurd q BAD.out⟩⟩
    | 1, _ =>
      have HE : Hid (hErr x = 0) := H0.out (by omega)
      have E1 : Hid (sameE x y = hErr y) := by
        show sameE x y = hErr y
        have he := HE.out
        unfold sameE; rw [if_neg (fun q => q he)]
      by_cases he : hErr y = 0
      · have hn : (hErr y != 0) = false := by simp [he]
        have HF : Hid _ := he
        clear he
        go_wp2_with fail
        refine (check_any a2 b2 o2 c2 y qb qc qg qo _ (HY.out.below HW.out)).mono ?_
        rintro e w1 ⟨rfl, hb⟩
        have M0 : Hid _ := (hb.cell (p := ⟨w.heap.size, 0, none⟩) hsz).trans m0
        have M1 : Hid _ := (hb.cell (p := ⟨w.heap.size, 1, none⟩) hsz).trans m1
        have zs := hb.size
        have B1 : Hid (Below w.heap.size w w1) := HW.out.trans (hb.mono HW.out.size)
        clear hb m0 m1
        go_wp2_with fail
        exact ⟨⟨2, by omega, rfl, fun _ => HE.out, fun _ => HF.out, B1.out, by omega, M0.out, M1.out⟩, by simp [intOf]⟩
      · have hn : (hErr y != 0) = true := by simp [he]
        have BAD : Hid (¬ SameP x y) := fun q => he q.2.1
        clear he
        go_wp2_with fail
        refine (check_any a2 b2 o2 c2 y qb qc qg qo _ (HY.out.below HW.out)).mono ?_
        rintro e w1 ⟨rfl, hb⟩
        have B1 : Hid (Below w.heap.size w w1) := HW.out.trans (hb.mono HW.out.size)
        clear hb m0 m1
        go_wp2_with fail
        go_ret2
        rw [E1.out]
        exact ⟨false, rfl, B1.out, ⟨(fun q => by cases q), fun q => absurd q BAD.out⟩⟩
    | 2, _ =>
      have HE : Hid (hErr x = 0) := H0.out (by omega)
      have HF : Hid (hErr y = 0) := H1.out (by omega)
      have E1 : Hid (sameE x y = 0) := by
        show sameE x y = 0
        have he := HE.out
        unfold sameE; rw [if_neg (fun q => q he)]; exact HF.out
      have hlx : Hid (x.length ≤ 100000) := (hErr_zero HE.out).1
      have hly : Hid (y.length ≤ 100000) := (hErr_zero HF.out).1
      clear m0 m1
      go_wp2_with fail
      refine (byThread_any a1 b1 o1 c1 x pb pc pg po _ (HX.out.below HW.out) hlx.out).mono ?_
      rintro e w3 ⟨v3, l3, k3, cc3, g3, pb3, pc3, pg3, po3, rfl, hb3, hy3, rfl, hE3⟩
      have B3 : Hid (Below w.heap.size w w3) := HW.out.trans (hb3.mono HW.out.size)
      have Y3 : Hid (ByTh _ _) := hy3
      have HE3 : Hid (EvsAt _ _ _ _ _ _ _ _ _) := hE3
      clear hb3 hy3 hE3
      go_wp2_with fail
      refine (byThread_any a2 b2 o2 c2 y qb qc qg qo _ (HY.out.below B3.out) hly.out).mono ?_
      rintro e w4 ⟨v4, l4, k4, cc4, g4, pb4, pc4, pg4, po4, rfl, hb4, hy4, rfl, hE4⟩
      have B4 : Hid (Below w.heap.size w w4) := B3.out.trans (hb4.mono B3.out.size)
      have Y4 : Hid (ByTh _ _) := hy4
      have C1 : Hid (Calls _ _ _ _ _) := equalEvs_any k3 k4 g3 0 cc3 g4 0 cc4 l3 l4 pb3 pb4 pc3 pg3 po3 pc4 pg4 po4 w4 (HE3.out.below hb4) hE4
      clear hb4 hy4 hE4
      go_wp2_with fail
      refine C1.out.mono ?_
      rintro e w5 ⟨r, rfl, hb5, hr5⟩
      have B5 : Hid (Below w.heap.size w w5) := B4.out.trans (hb5.mono B4.out.size)
      have R5 : Hid (r = true ↔ SameP x y) := hr5.trans (by_eq HE.out HF.out Y3.out Y4.out)
      clear hb5 hr5
      go_wp2_with fail
      go_ret2
      rw [E1.out]
      exact ⟨r, rfl, B5.out, R5.out⟩
    | j + 3, hj => omega

set_option maxRecDepth 100000 in
set_option maxHeartbeats 1000000 in
theorem eventSame_any : Calls Try.prog 7 #[.slice a1 x.length c1, .slice a2 y.length c2] w fun e w' => e = .returned (.bool true) ∧ Below w.heap.size w w' := by
  have HX : Hid _ := hx
  have HY : Hid _ := hy
  clear hx hy
  go_enter Try.func7, Try.ntmps7
  go_wp2_with fail
  refine (known_any _).mono ?_
  rintro e w0 ⟨rfl, hb⟩
  have B0 : Hid (Below w.heap.size w w0) := hb
  clear hb
  go_wp2_with fail
  refine (rSame_any a1 a2 b1 o1 c1 b2 o2 c2 x y pb qb pc pg po qc qg qo _ (HX.out.below B0.out) (HY.out.below B0.out)).mono ?_
  rintro e w1 ⟨r, rfl, hb, hr⟩
  have B1 : Hid (Below w.heap.size w w1) := B0.out.trans (hb.mono B0.out.size)
  have R1 : Hid _ := hr
  clear hb hr
  go_wp2_with fail
  refine (same_any a1 a2 b1 o1 c1 b2 o2 c2 x y pb qb pc pg po qc qg qo _ (HX.out.below B1.out) (HY.out.below B1.out)).mono ?_
  rintro e w2 ⟨r', rfl, hb, hr⟩
  have B2 : Hid (Below w.heap.size w w2) := B1.out.trans (hb.mono B1.out.size)
  obtain rfl : r = r' := by rw [Bool.eq_iff_iff, R1.out, hr]
  clear hb hr R1
  have q1 : (r == r) = true := by simp
  go_wp2_with fail
  go_ret
  exact ⟨by simp, B2.out⟩
end
end Go.Proofs.Ytniognoapcaliaa
