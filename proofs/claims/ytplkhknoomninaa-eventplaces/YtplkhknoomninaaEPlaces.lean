/- Layer 5: EventPlaces, walked. -/
import Derived.Test.YtplkhknoomninaaEKnown
import Derived.Test.YtplkhknoomninaaERef4
namespace Go.Proofs.Ytplkhknoomninaa
open Go.RowKit
attribute [local go_sem ↓] Go.wp_at_zero Go.wp_at_succ

/-- Numbers lie in memory. -/
structure NatsAt (w : World) (base : Option Addr) (g : Nat) (l : List Nat) : Prop where
  base : l.length ≠ 0 → base = some ⟨g, 0, none⟩
  lt : l.length ≠ 0 → g < w.heap.size
  len : l.length ≤ maxLen
  cells : ∀ i, i < l.length → w.cell? ⟨g, i, none⟩ = some (.int .i64 (l.getD i 0 : Nat))
theorem NatsAt.below {w w' : World} {base : Option Addr} {g : Nat} {l : List Nat} (h : NatsAt w base g l) (hb : Below w.heap.size w w') : NatsAt w' base g l :=
  ⟨h.base, fun hn => Nat.lt_of_lt_of_le (h.lt hn) hb.size, h.len, fun i hi => (hb.cell (p := ⟨g, i, none⟩) (h.lt (by omega))).trans (h.cells i hi)⟩
theorem nats_of_owns {w : World} {B : Nat} {e : TypeId} {v : Value} {l : List Nat} (h : w.ownsRow B e 1 v l.length (numCells l)) :
    ∃ base cap g, v = .slice base l.length cap ∧ NatsAt w base g l := by
  by_cases hn : l.length = 0
  · obtain ⟨a, c, e⟩ := owns_form h
    exact ⟨a, c, 0, e, ⟨fun q => absurd hn q, fun q => absurd hn q, by omega, fun i hi => by omega⟩⟩
  · obtain ⟨g, cap, e, h1, h2, h3, h4, h5, h6⟩ := owns_some h (by omega)
    refine ⟨_, cap, g, e, ⟨fun _ => rfl, fun _ => h2, by omega, fun i hi => ?_⟩⟩
    rw [h5 _ (by omega)]
    unfold numCells
    rw [List.getElem?_map, List.getElem?_eq_getElem hi, List.getD_eq_getElem?_getD, List.getElem?_eq_getElem hi]
    rfl

set_option maxRecDepth 100000 in
set_option maxHeartbeats 1000000 in
theorem nums_same (ba bb : Option Addr) (ga gb ca cb : Nat) (l : List Nat) (w : World) (ha : NatsAt w ba ga l) (hb : NatsAt w bb gb l) :
    Calls Try.prog 27 #[.slice ba l.length ca, .slice bb l.length cb] w fun e w' => e = .returned (.bool true) ∧ Below w.heap.size w w' := by
  have hlm := ha.len
  unfold maxLen at hlm
  have H1 : Hid _ := ha
  have H2 : Hid _ := hb
  clear ha hb
  go_enter Try.func27, Try.ntmps27
  go_wp2_with fail
  go_loopw [5] (fun i wr => ∃ j : Nat, j ≤ l.length ∧ i = .int .i64 j ∧ Below w.heap.size w wr) (fun i _ => l.length - (intOf i).toNat)
  case atStart => exact ⟨0, Nat.zero_le _, rfl, Below.refl _ _⟩
  case round =>
    obtain ⟨j, hj, rfl, hnx⟩ := hrel
    by_cases hlt : j < l.length
    · obtain rfl : ba = some ⟨ga, 0, none⟩ := H1.out.base (by omega)
      obtain rfl : bb = some ⟨gb, 0, none⟩ := H2.out.base (by omega)
      have x0 := (H1.out.below hnx).cells j hlt
      have y0 := (H2.out.below hnx).cells j hlt
      have j0 : (0 : Int) ≤ (j : Int) := Int.natCast_nonneg _
      have j1 : (j : Int) < (l.length : Int) := by omega
      have HX : Hid _ := hnx
      clear hnx
      go_wp2_with fail
      go_quiet (fail)
      go_wp2_with fail
      exact ⟨⟨j + 1, by omega, by go_num, below_drewN HX.out _⟩, by simp [intOf]; omega⟩
    · obtain rfl : j = l.length := by omega
      go_wp2_with fail
      go_ret
      exact ⟨rfl, hnx⟩

set_option maxRecDepth 100000 in
set_option maxHeartbeats 2000000 in
theorem places_any (base : Option Addr) (b o c : Nat) (hs : List EvD) (pb : Nat → Option Addr) (pc pg po : Nat → Nat) (i j : Int) (w : World) (h : EvsAt w base b o hs pb pc pg po) :
    Calls Try.prog 4 #[.slice base hs.length c, .int .i64 i, .int .i64 j] w fun e w' => e = .returned (.bool true) ∧ Below w.heap.size w w' := by
  have HA : Hid _ := h
  clear h
  go_enter Try.func4, Try.ntmps4
  go_wp2_with fail
  refine (known_any _).mono ?_
  rintro e w1 ⟨rfl, hb1⟩
  have B1 : Hid _ := hb1
  clear hb1
  go_wp2_with fail
  refine (rAhead_any base b o c hs pb pc pg po _ (HA.out.below B1.out) i j).mono ?_
  rintro e w2 ⟨rfl, hb2⟩
  have B2 : Hid _ := B1.out.trans (hb2.mono B1.out.size)
  clear hb2
  go_wp2_with fail
  refine (Ahead_any base b o c hs pb pc pg po _ (HA.out.below B2.out) i j).mono ?_
  rintro e w3 ⟨rfl, hb3⟩
  have B3 : Hid _ := B2.out.trans (hb3.mono B2.out.size)
  clear hb3
  generalize aheadA hs i j = aa
  obtain ⟨a1, a2⟩ := aa
  simp only
  have q1 : (a1 != a1) = false := by simp
  go_wp2_with fail
  refine (rPending_any base b o c hs pb pc pg po _ (HA.out.below B3.out)).mono ?_
  rintro e w4 ⟨v4, rfl, hb4, hv4, ho4⟩
  have B4 : Hid _ := B3.out.trans (hb4.mono B3.out.size)
  have P4 : Hid (∃ base cap g l, v4 = .slice base l.length cap ∧ NatsAt w4 base g l ∧ l = if hErr hs = 0 then pendN (spansL hs) (spansL hs).length else []) := by
    by_cases he : hErr hs = 0
    · obtain ⟨base, cap, g, e, hn⟩ := nats_of_owns (ho4 he)
      exact ⟨base, cap, g, _, e, hn, by rw [if_pos he]⟩
    · exact ⟨none, 0, 0, [], hv4 he, ⟨fun h => absurd rfl h, fun h => absurd rfl h, by simp, fun i hi => by simp at hi⟩, by rw [if_neg he]⟩
  obtain ⟨ba, ca, ga, l, rfl, hn4, hl4⟩ := P4.out
  have N4 : Hid _ := hn4
  have L4 : Hid _ := hl4
  clear hb4 hv4 ho4 P4 hn4 hl4
  go_wp2_with fail
  refine (Pending_any base b o c hs pb pc pg po _ (HA.out.below B4.out)).mono ?_
  rintro e w5 ⟨v5, rfl, hb5, hv5, ho5⟩
  have B5 : Hid _ := B4.out.trans (hb5.mono B4.out.size)
  have N4' : Hid _ := N4.out.below hb5
  have P5 : Hid (∃ base cap g, v5 = .slice base l.length cap ∧ NatsAt w5 base g l) := by
    rw [L4.out]
    by_cases he : hErr hs = 0
    · rw [if_pos he]
      obtain ⟨base, cap, g, e, hn⟩ := nats_of_owns (ho5 he)
      exact ⟨base, cap, g, e, hn⟩
    · rw [if_neg he]
      exact ⟨none, 0, 0, hv5 he, ⟨fun h => absurd rfl h, fun h => absurd rfl h, by simp, fun i hi => by simp at hi⟩⟩
  obtain ⟨bb, cb, gb, rfl, hn5⟩ := P5.out
  have N5 : Hid _ := hn5
  clear hb5 hv5 ho5 P5 hn5
  go_wp2_with fail
  refine (nums_same ba bb ga gb ca cb l _ N4'.out N5.out).mono ?_
  rintro e w6 ⟨rfl, hb6⟩
  have B6 : Hid _ := B5.out.trans (hb6.mono B5.out.size)
  clear hb6
  go_wp2_with fail
  refine (rWidth_any base b o c hs pb pc pg po _ (HA.out.below B6.out)).mono ?_
  rintro e w7 ⟨rfl, hb7⟩
  have B7 : Hid _ := B6.out.trans (hb7.mono B6.out.size)
  clear hb7
  go_wp2_with fail
  refine (Width_any base b o c hs pb pc pg po _ (HA.out.below B7.out)).mono ?_
  rintro e w8 ⟨rfl, hb8⟩
  have B8 : Hid _ := B7.out.trans (hb8.mono B7.out.size)
  clear hb8
  go_wp2_with fail
  refine (rRow_any base b o c hs pb pc pg po _ (HA.out.below B8.out)).mono ?_
  rintro e w9 ⟨rfl, hb9⟩
  have B9 : Hid _ := B8.out.trans (hb9.mono B8.out.size)
  clear hb9
  go_wp2_with fail
  refine (Row_any base b o c hs pb pc pg po _ (HA.out.below B9.out)).mono ?_
  rintro e w10 ⟨rfl, hb10⟩
  have B10 : Hid _ := B9.out.trans (hb10.mono B9.out.size)
  clear hb10
  generalize (decide (hErr hs = 0) && decide (widthA hs ≤ 1)) = rr
  have q2 : (rr == rr) = true := by simp
  go_wp2_with fail
  go_ret
  exact ⟨rfl, B10.out⟩
end Go.Proofs.Ytplkhknoomninaa
