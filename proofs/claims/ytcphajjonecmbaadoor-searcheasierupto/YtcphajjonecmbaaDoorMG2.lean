
/- Layer 6: slices.BinarySearchFunc at pairs; the program's place. -/

import Derived.Test.YtcphajjonecmbaaDoorMG1

namespace Go.Proofs.YtcphajjonecmbaaDoor

open Go.RowKit

set_option maxRecDepth 100000 in
set_option maxHeartbeats 2000000 in
theorem bsf_any (base : Option Addr) (b o c : Nat) (ps : PL) (key : Int) (w : World) (h : PairsAt w base b o ps) (hs : Srt ps) :
    Calls Tryd.prog 122 #[.slice base ps.length c, .int .i64 key, .func (.func 123) #[] #[]] w fun e w' => e = .returned (.tuple #[.int .i64 (posL key ps : Nat), .bool (getK key ps).isSome]) ∧ Below w.heap.size w w' := by
  have hl := h.len
  unfold maxLen at hl
  have HA : Hid _ := h
  have HS : Hid _ := (below_take key hs).2
  have HG : Hid _ := getK_pos key hs
  have HPL : Hid (posL key ps ≤ ps.length) := by show posL key ps ≤ ps.length; unfold posL; exact List.length_filter_le _ _
  clear h hs
  go_enter Tryd.func122, Tryd.ntmps122
  go_wp2_with fail
  go_loopw [9, 10] (fun x y wr => ∃ lo hi : Nat, x = .int .i64 lo ∧ y = .int .i64 hi ∧ lo ≤ hi ∧ hi ≤ ps.length ∧ lo ≤ posL key ps ∧ posL key ps ≤ hi ∧ Below w.heap.size w wr) (fun x y _ => (intOf y).toNat - (intOf x).toNat)
  case atStart => exact ⟨0, ps.length, rfl, rfl, Nat.zero_le _, Nat.le_refl _, Nat.zero_le _, HPL.out, Below.refl _ _⟩
  case round =>
    obtain ⟨lo, hi, rfl, rfl, h1, h2, h3, h4, hbw⟩ := hrel
    have HB : Hid _ := hbw
    have H3 : Hid _ := h3
    have H4 : Hid _ := h4
    have s2 := hbw.size
    clear hbw h3 h4
    by_cases hlt : lo < hi
    · obtain rfl : base = some ⟨b, o, none⟩ := HA.out.base (by omega)
      obtain ⟨m, hm⟩ : ∃ m, m = (lo + hi) / 2 := ⟨_, rfl⟩
      obtain ⟨c0, c1⟩ := (HA.out.below HB.out).cells m (by omega)
      have q1 : wrap64 (IntKind.u64.wrap (wrap64 ((lo : Int) + (hi : Int))) / 2) = (m : Int) := by
        have e : IntKind.u64.wrap (wrap64 ((lo : Int) + (hi : Int))) = (lo : Int) + (hi : Int) := by
          simp only [IntKind.wrap, IntKind.bits, IntKind.signed, wrap64]; simp; omega
        rw [e]; unfold wrap64; omega
      have m0 : (0 : Int) ≤ (m : Int) := Int.natCast_nonneg _
      have m1 : (m : Int) < (ps.length : Int) := by omega
      have KM : Hid _ := HS.out m (by omega)
      have hmlo : lo ≤ m := by omega
      have hmhi : m < hi := by omega
      clear hm
      go_wp2_with fail
      refine (clo_any _ _ key _).mono ?_
      rintro e w2 ⟨rfl, hb2⟩
      have B2 : Hid (Below w.heap.size w w2) := HB.out.trans (hb2.mono s2)
      clear hb2 c0 c1
      by_cases hk : keyAt ps m < key
      · have hd : decide (cmpI (keyAt ps m) key < 0) = true := decide_eq_true (cmpI_neg.2 hk)
        have P : Hid (m + 1 ≤ posL key ps) := KM.out.2 hk
        clear hk
        go_wp2_with fail
        exact ⟨⟨m + 1, hi, by go_num, rfl, by omega, h2, P.out, H4.out, B2.out⟩, by simp [intOf]; omega⟩
      · have hd : decide (cmpI (keyAt ps m) key < 0) = false := decide_eq_false (fun q => hk (cmpI_neg.1 q))
        have P : Hid (posL key ps ≤ m) := Nat.le_of_not_lt (fun q => hk (KM.out.1 q))
        clear hk
        go_wp2_with fail
        exact ⟨⟨lo, m, rfl, rfl, by omega, by omega, H3.out, P.out, B2.out⟩, by simp [intOf]; omega⟩
    · have hp : posL key ps = lo := by have := H3.out; have := H4.out; omega
      have HP : Hid _ := hp
      rw [hp] at HG
      by_cases hx : lo < ps.length
      · obtain rfl : base = some ⟨b, o, none⟩ := HA.out.base (by omega)
        obtain ⟨c0, c1⟩ := (HA.out.below HB.out).cells lo (by omega)
        have m0 : (0 : Int) ≤ (lo : Int) := Int.natCast_nonneg _
        have m1 : (lo : Int) < (ps.length : Int) := by omega
        have F : Hid ((getK key ps).isSome = (cmpI (keyAt ps lo) key == 0)) := by
          show (getK key ps).isSome = _
          rw [HG.out]
          by_cases q : keyAt ps lo = key
          · rw [if_pos ⟨hx, q⟩, cmpI_zero.2 q]; rfl
          · rw [if_neg (fun z => q z.2)]; exact (beq_eq_false_iff_ne.2 (fun z => q (cmpI_zero.1 z))).symm
        clear hp
        go_wp2_with fail
        refine (clo_any _ _ key _).mono ?_
        rintro e w2 ⟨rfl, hb2⟩
        have B2 : Hid (Below w.heap.size w w2) := HB.out.trans (hb2.mono s2)
        clear hb2 c0 c1
        go_wp2_with fail
        go_ret2
        exact ⟨by rw [HP.out, F.out]; rfl, B2.out⟩
      · have F : Hid ((getK key ps).isSome = false) := by
          show (getK key ps).isSome = _
          rw [HG.out, if_neg (fun z => hx z.1)]; rfl
        clear hp
        go_wp2_with fail
        go_ret2
        exact ⟨by rw [HP.out, F.out]; rfl, HB.out⟩

theorem place_any (base : Option Addr) (b o c : Nat) (ps : PL) (key : Int) (w : World) (h : PairsAt w base b o ps) (hs : Srt ps) :
    Calls Tryd.prog 104 #[.slice base ps.length c, .int .i64 key] w fun e w' => e = .returned (.tuple #[.int .i64 (posL key ps : Nat), .bool (getK key ps).isSome]) ∧ Below w.heap.size w w' := by
  have H : Hid (Calls _ _ _ _ _) := bsf_any base b o c ps key w h hs
  clear h hs
  go_enter Tryd.func104, Tryd.ntmps104
  go_wp2_with fail
  refine H.out.mono ?_
  rintro e w1 ⟨rfl, hb⟩
  go_wp2_with fail
  go_ret2
  exact ⟨rfl, hb⟩
end Go.Proofs.YtcphajjonecmbaaDoor
