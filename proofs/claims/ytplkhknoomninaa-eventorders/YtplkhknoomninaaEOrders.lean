/- Layer 5: EventOrders, walked. -/
import Derived.Test.YtplkhknoomninaaEOrd3
namespace Go.Proofs.Ytplkhknoomninaa
open Go.RowKit
attribute [local go_sem ↓] Go.wp_at_zero Go.wp_at_succ

set_option maxRecDepth 100000 in
set_option maxHeartbeats 2000000 in
theorem orders_any (base : Option Addr) (b o c : Nat) (hs : List EvD) (pb : Nat → Option Addr) (pc pg po : Nat → Nat) (w : World) (h : EvsAt w base b o hs pb pc pg po)
    (obase : Option Addr) (ob oo oc : Nat) (ord : List Int) (ho : OrdAt w obase ob oo ord) :
    Calls Try.prog 6 #[.slice base hs.length c, .slice obase ord.length oc] w fun e w' => e = .returned (.bool true) ∧ Below w.heap.size w w' := by
  have HA : Hid _ := h
  have HO : Hid _ := ho
  clear h ho
  go_enter Try.func6, Try.ntmps6
  go_wp2_with fail
  refine (known_any _).mono ?_
  rintro e w1 ⟨rfl, hb1⟩
  have B1 : Hid _ := hb1
  clear hb1
  go_wp2_with fail
  refine (rFits_any base b o c hs pb pc pg po _ (HA.out.below B1.out) obase ob oo oc ord (HO.out.below B1.out)).mono ?_
  rintro e w2 ⟨r2, rfl, hb2, hn2, hr2⟩
  have B2 : Hid _ := B1.out.trans (hb2.mono B1.out.size)
  have N2 : Hid _ := hn2
  have R2 : Hid _ := hr2
  clear hb2 hn2 hr2
  go_wp2_with fail
  refine (Fits_any base b o c hs pb pc pg po _ (HA.out.below B2.out) obase ob oo oc ord (HO.out.below B2.out)).mono ?_
  rintro e w3 ⟨r3, rfl, hb3, hn3, hr3⟩
  have B3 : Hid _ := B2.out.trans (hb3.mono B2.out.size)
  have hrr : r3 = r2 := by
    by_cases he : hErr hs = 0
    · have a := R2.out he
      have b := hr3 he
      cases r2 <;> cases r3
      · rfl
      · exact absurd (a.2 (b.1 rfl)) (by simp)
      · exact absurd (b.2 (a.1 rfl)) (by simp)
      · rfl
    · rw [N2.out he, hn3 he]
  subst hrr
  clear hb3 hn3 hr3
  have q1 : (r3 != r3) = false := by simp
  go_wp2_with fail
  refine (rOrders_any base b o c hs pb pc pg po _ (HA.out.below B3.out)).mono ?_
  rintro e w4 ⟨rfl, hb4⟩
  have B4 : Hid _ := B3.out.trans (hb4.mono B3.out.size)
  clear hb4
  go_wp2_with fail
  refine (Orders_any base b o c hs pb pc pg po _ (HA.out.below B4.out)).mono ?_
  rintro e w5 ⟨rfl, hb5⟩
  have B5 : Hid _ := B4.out.trans (hb5.mono B4.out.size)
  clear hb5
  go_wp2_with fail
  go_ret
  exact ⟨rfl, B5.out⟩
end Go.Proofs.Ytplkhknoomninaa
