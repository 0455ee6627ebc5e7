
/- Layer 5: the reference's kept, Cut and Done. -/

import Derived.Test.YtgbfippcnmpgfaaEOf

namespace Go.Proofs.Ytgbfippcnmpgfaa

open Go.RowKit

attribute [local go_sem ↓] Go.wp_at_zero Go.wp_at_succ

theorem EvsNew.down {w : World} {B B' B2 B2' : Nat} {v : Value} {l : List EvD} (h : EvsNew w B B2 v l) (h1 : B' ≤ B) (h2 : B2' ≤ B2) : EvsNew w B' B2' v l := by
  obtain ⟨q1, q2, q3, q4, q5, q6, q7, q8, q9, q10, q11, q12⟩ := h
  exact ⟨q1, q2, q3, q4, q5, q6, q7, q8, q9, fun z => Nat.le_trans h1 (q10 z), q11, fun i hi z => Nat.le_trans h2 (q12 i hi z)⟩
/-- The question of a round of kept. -/
def keepQ (sp : List Sp) (K : Nat → Bool) (i k : Nat) : Bool := K k && (decide (((spAt sp k).1 : Int) = (i : Int)) || decide ((spAt sp k).2 = (i : Int)))
theorem keepQ_true {hs : List EvD} (he : hErr hs = 0) {K : Nat → Bool} {i k : Nat} (hi : i < hs.length) (hk : k < (spansL hs).length) (h : keepQ (spansL hs) K i k = true) : K (ownN hs i) = true := by
  unfold keepQ at h
  simp only [Bool.and_eq_true, Bool.or_eq_true, decide_eq_true_eq] at h
  have := ((own_last he hi).2.2 k hk).1 (by omega)
  rw [← this]
  exact h.1
theorem keepQ_false {hs : List EvD} (he : hErr hs = 0) {K : Nat → Bool} {i : Nat} (hi : i < hs.length) (h : ∀ k, k < (spansL hs).length → keepQ (spansL hs) K i k = false) : K (ownN hs i) = false := by
  have ow := own_last he hi
  have := h _ ow.1
  have h2 := (ow.2.2 _ ow.1).2 rfl
  cases hK : K (ownN hs i)
  · rfl
  · unfold keepQ at this
    rw [hK] at this
    simp only [Bool.true_and, Bool.or_eq_false_iff, decide_eq_false_iff_not] at this
    omega

set_option maxRecDepth 100000 in
set_option maxHeartbeats 2000000 in
theorem kept_any (base : Option Addr) (b o c : Nat) (hs : List EvD) (pb : Nat → Option Addr) (pc pg po : Nat → Nat) (w : World) (h : EvsAt w base b o hs pb pc pg po) (he : hErr hs = 0) (K : Nat → Bool) (kb : Nat) (hkb : kb < w.heap.size) (hK : ∀ k, k < (spansL hs).length → w.cell? ⟨kb, k, none⟩ = some (.bool (K k))) :
    Calls Try.prog 34 #[.slice base hs.length c, .slice (some ⟨kb, 0, none⟩) (spansL hs).length (spansL hs).length] w fun e w' => ∃ v, e = .returned v ∧ Below w.heap.size w w' ∧ EvsNew w' w.heap.size w.heap.size v (keptN hs K hs.length) := by
  have HA : Hid _ := h
  have HE : Hid _ := he
  have hbn := (hErr_zero he).1
  have hsn : (spansL hs).length ≤ 100000 := by obtain ⟨_, s, hst, hsl⟩ := hErr_zero he; rw [hsl]; have := (stN_ok hst).len; omega
  have HK : Hid _ := hK
  clear h he hK
  obtain ⟨i0, hi0, hz0, hz1, hz2⟩ := info_parts ev_info
  go_enter Try.func34, Try.ntmps34
  go_wp2_with fail
  refine (calls_any base b o c hs pb pc pg po _ HA.out HE.out).mono ?_
  rintro e w1 ⟨v1, l1, rfl, hb1, hm1, ho1, hr1⟩
  have B1 : Hid _ := hb1
  have hz1s := hb1.size
  have hl1 : l1.length = (spansL hs).length := by rw [← hm1, List.length_map]
  obtain ⟨ca, cc, cg, rfl, _, hC1, _⟩ := calls_of_owns ho1
  rw [hl1]
  have HM : Hid _ := hm1
  have HC : Hid _ := hC1
  have hsp : Hid (∀ k, k < (spansL hs).length → w1.cell? ⟨cg, k * 11 + 9, none⟩ = some (.int .i64 (spAt (spansL hs) k).1) ∧ w1.cell? ⟨cg, k * 11 + 10, none⟩ = some (.int .i64 (spAt (spansL hs) k).2)) := fun k hk => hC1.ft hm1 hk
  have hcb : Hid ((spansL hs).length ≠ 0 → ca = some ⟨cg, 0, none⟩ ∧ cg < w1.heap.size) := fun q => ⟨hC1.base (by omega), hC1.lt (by omega)⟩
  have HN : Hid (∀ i j, i < hs.length → j = (spansL hs).length → (∀ k, k < j → keepQ (spansL hs) K i k = false) → keptN hs K (i + 1) = keptN hs K i) := by
    intro i j hi hj h
    subst hj
    simp only [keptN]
    rw [if_neg (by rw [keepQ_false HE.out hi h]; simp)]
  have HY : Hid (∀ i k, i < hs.length → k < (spansL hs).length → keepQ (spansL hs) K i k = true → keptN hs K (i + 1) = keptN hs K i ++ [evAt hs i]) := by
    intro i k hi hk h
    simp only [keptN]
    rw [if_pos (keepQ_true HE.out hi hk h)]
  generalize spansL hs = sp at *
  clear hb1 hm1 ho1 hr1 hC1
  go_wp2_with fail
  go_loopw [6, 7] (fun v i wr => ∃ (j : Nat) (m : List (EvD × Value)), j ≤ hs.length ∧ i = .int .i64 j ∧ Below w1.heap.size w1 wr ∧ m.map (·.1) = keptN hs K j ∧ wr.ownsRow w1.heap.size 55 10 v m.length (evsC m) ∧ ERets wr 0 v.ownBlock m) (fun _ i _ => hs.length - (intOf i).toNat)
  case atStart => exact ⟨0, [], Nat.zero_le _, rfl, Below.refl _ _, by simp [keptN], World.ownsRow_nil _ _ _ _, fun x hx => by cases hx⟩
  case round =>
    obtain ⟨j, m, hj, rfl, hbw, hmap, hown, hrets⟩ := hrel
    obtain ⟨oa, oc, rfl⟩ := owns_form hown
    have HW : Hid _ := hbw
    have HMp : Hid _ := hmap
    have HO : Hid (World.ownsRow _ _ _ _ _ _ _) := hown
    have HR : Hid (ERets _ _ _ _) := hrets
    have HOL : Hid _ := owns_lt hown
    by_cases hlt : j < hs.length
    · have hml : m.length ≤ j := by have := congrArg List.length hmap; rw [List.length_map] at this; rw [this]; exact keptN_le hs K j
      have hrnd : ∀ W : World, Below wr.heap.size wr W → True := fun _ _ => trivial
      clear hrnd hmap hown hrets
      generalize hW0 : wr = W0 at *
      clear hW0
      have zw := hbw.size
      clear hbw
      go_wp2_with fail
      go_loopw [6, 8] (fun v i wr => ∃ k : Nat, k ≤ sp.length ∧ i = .int .i64 k ∧ v = .slice oa m.length oc ∧ (∀ x, x < k → keepQ sp K j x = false) ∧ Below W0.heap.size W0 wr) (fun _ i _ => sp.length - (intOf i).toNat)
      case atStart => exact ⟨0, Nat.zero_le _, rfl, rfl, fun x hx => by omega, Below.refl _ _⟩
      case round =>
        obtain ⟨k, hk, rfl, rfl, hall, hbx⟩ := hrel
        have HAL : Hid _ := hall
        have HX : Hid _ := hbx
        have zx := hbx.size
        clear hall
        by_cases hkl : k < sp.length
        · have hcw : Below w1.heap.size w1 wr := HW.out.trans (hbx.mono zw)
          obtain ⟨rfl, hcg⟩ := hcb.out (by omega)
          obtain ⟨s9, s10⟩ := hsp.out k hkl
          have s9' := (hcw.cell (p := ⟨cg, k * 11 + 9, none⟩) hcg).trans s9
          have s10' := (hcw.cell (p := ⟨cg, k * 11 + 10, none⟩) hcg).trans s10
          have kk := ((B1.out.trans (hcw.mono hz1s)).cell (p := ⟨kb, k, none⟩) hkb).trans (HK.out k hkl)
          have k0 : (0 : Int) ≤ (k : Int) := Int.natCast_nonneg _
          have k1 : (k : Int) < (sp.length : Int) := by omega
          have HCW : Hid _ := hcw
          have hkbw : kb < wr.heap.size := by omega
          have hcgw : cg < wr.heap.size := by omega
          clear s9 s10 hbx hcw
          have hqd : keepQ sp K j k = (K k && (decide (((spAt sp k).1 : Int) = (j : Int)) || decide ((spAt sp k).2 = (j : Int)))) := rfl
          cases hq : keepQ sp K j k
          · have NEXT : Hid (∀ x, x < k + 1 → keepQ sp K j x = false) := by
              intro x hx
              by_cases e : x = k
              · subst e; exact hq
              · exact HAL.out x (by omega)
            rw [hq] at hqd
            cases hKk : K k
            · rw [hKk] at kk
              clear hqd hq
              go_wp2_with fail
              exact ⟨⟨k + 1, by omega, by go_num, rfl, NEXT.out, HX.out⟩, by simp [intOf]; omega⟩
            · rw [hKk] at kk hqd
              have q1 : (((spAt sp k).1 : Int) == (j : Int)) = false := by simp only [Bool.true_and] at hqd; rw [beq_eq_false_iff_ne]; intro e; simp [e] at hqd
              have q2 : ((spAt sp k).2 == (j : Int)) = false := by simp only [Bool.true_and] at hqd; rw [beq_eq_false_iff_ne]; intro e; simp [e] at hqd
              clear hqd hq
              go_wp2_with fail
              exact ⟨⟨k + 1, by omega, by go_num, rfl, NEXT.out, HX.out⟩, by simp [intOf]; omega⟩
          · have YES : Hid _ := HY.out j k hlt hkl hq
            rw [hq] at hqd
            have hKk : K k = true := by cases hz : K k; · rw [hz] at hqd; simp at hqd
                                        · rfl
            rw [hKk] at kk hqd
            obtain rfl : base = some ⟨b, o, none⟩ := HA.out.base (by omega)
            have EV := (HA.out.below B1.out).below HCW.out
            have zb : b < wr.heap.size := EV.lt (by omega)
            obtain ⟨d0, d1⟩ := EV.c0 j hlt
            obtain ⟨d2, d3, d4, d5⟩ := EV.c1 j hlt
            obtain ⟨d6, d7, d8, d9⟩ := EV.c2 j hlt
            have PX := EV.prs j hlt
            have j0 : (0 : Int) ≤ (j : Int) := Int.natCast_nonneg _
            have j1 : (j : Int) < (hs.length : Int) := by omega
            have E3 : Hid (ERet wr 0 (Value.ownBlock (.slice oa m.length oc)) (evAt hs j) (.slice (pb j) (evAt hs j).rt.pairs.length (pc j))) := ⟨_, pg j, po j, pc j, rfl, fun q => ⟨Nat.zero_le _, fun r => by have h1 := (HOL.out _ r).1; have h2 := (HA.out.prs j hlt).1.lt q; omega⟩, PX.1, PX.2.1, PX.2.2⟩
            have O3 : Hid (World.ownsRow _ _ _ _ _ _ _) := owns_below HO.out HX.out
            have R3 : Hid (ERets wr 0 (Value.ownBlock (.slice oa m.length oc)) m) := HR.out.below HX.out
            clear EV PX hq hKk
            have fin : ∀ gg cap w3, w3.ownsRow w1.heap.size 55 10 (.slice (some ⟨gg, 0, none⟩) (m.length + 1) cap) (m.length + 1) (evsC m ++ [.int .i64 (evAt hs j).th, .bool (evAt hs j).ret, .int .i64 (evAt hs j).op.kind, .int .i64 (evAt hs j).op.key, .int .i64 (evAt hs j).op.val, .int .i64 (evAt hs j).op.hi, .bool (evAt hs j).rt.ok, .int .i64 (evAt hs j).rt.key, .int .i64 (evAt hs j).rt.val, .slice (pb j) (evAt hs j).rt.pairs.length (pc j)]) → (wr.alloc (.cells #[.int .i64 (evAt hs j).th, .bool (evAt hs j).ret, .int .i64 (evAt hs j).op.kind, .int .i64 (evAt hs j).op.key, .int .i64 (evAt hs j).op.val, .int .i64 (evAt hs j).op.hi, .bool (evAt hs j).rt.ok, .int .i64 (evAt hs j).rt.key, .int .i64 (evAt hs j).rt.val, .slice (pb j) (evAt hs j).rt.pairs.length (pc j)] 55)).grownBy w3 (Value.ownBlock (.slice oa m.length oc)) → (Value.ownBlock (.slice oa m.length oc) = some gg ∨ gg = wr.heap.size + 1) →
                Below w1.heap.size w1 w3 ∧ (m ++ [(evAt hs j, Value.slice (pb j) (evAt hs j).rt.pairs.length (pc j))]).map (·.1) = keptN hs K (j + 1) ∧ w3.ownsRow w1.heap.size 55 10 (.slice (some ⟨gg, 0, none⟩) (m.length + 1) cap) (m ++ [(evAt hs j, Value.slice (pb j) (evAt hs j).rt.pairs.length (pc j))]).length (evsC (m ++ [(evAt hs j, Value.slice (pb j) (evAt hs j).rt.pairs.length (pc j))])) ∧ ERets w3 0 (some gg) (m ++ [(evAt hs j, Value.slice (pb j) (evAt hs j).rt.pairs.length (pc j))]) := by
              intro gg cap w3 ho hg hat
              refine ⟨Below.grown (HCW.out.alloc HCW.out.size _) hg (by have := HCW.out.size; simp; omega) (fun k hk => (HOL.out k hk).1), ?_, ?_, rows_snoc R3.out E3.out hg hat⟩
              · rw [List.map_append, HMp.out]; exact YES.out.symm
              · rw [evsC_snoc, List.length_append]; exact ho
            have FIN : Hid _ := fin
            clear fin
            by_cases q1 : ((spAt sp k).1 : Int) = (j : Int)
            · have q1' : (((spAt sp k).1 : Int) == (j : Int)) = true := by rw [beq_iff_eq]; exact q1
              clear hqd q1
              go_wp2_with (first | (at_builtin; (refine wpList_append_lies _ (by rfl) _ _ _ (by rfl) w1.heap.size 55 i0 _ 10 96 evs_under hi0 hz0 hz1 hz2 rfl (by omega) _ m.length _ (by rfl) (O3.out.alloc _) ⟨wr.heap.size, 0, none⟩ 1 1 [.int .i64 (evAt hs j).th, .bool (evAt hs j).ret, .int .i64 (evAt hs j).op.kind, .int .i64 (evAt hs j).op.key, .int .i64 (evAt hs j).op.val, .int .i64 (evAt hs j).op.hi, .bool (evAt hs j).rt.ok, .int .i64 (evAt hs j).rt.key, .int .i64 (evAt hs j).rt.val, .slice (pb j) (evAt hs j).rt.pairs.length (pc j)] (by rfl) (by rfl) (World.news_of_block (cs := #[.int .i64 (evAt hs j).th, .bool (evAt hs j).ret, .int .i64 (evAt hs j).op.kind, .int .i64 (evAt hs j).op.key, .int .i64 (evAt hs j).op.val, .int .i64 (evAt hs j).op.hi, .bool (evAt hs j).rt.ok, .int .i64 (evAt hs j).rt.key, .int .i64 (evAt hs j).rt.val, .slice (pb j) (evAt hs j).rt.pairs.length (pc j)]) (t := 55) (fr := (0, 0)) (heap_alloc_at _ _ _ (by simp))) (by simp [Value.oneCell']) (by omega) (by unfold maxLen; omega) (by omega) (by simp; omega) (wr.heap.size + 1) (by simp) ?_); intro gg cap w3 hown3 hgrow hat hlt3; have FF : Hid _ := FIN.out gg cap w3 hown3 hgrow hat; clear hown3 hgrow hat))
              obtain ⟨f1, f2, f3, f4⟩ := FF.out
              exact ⟨⟨j + 1, m ++ [(evAt hs j, Value.slice (pb j) (evAt hs j).rt.pairs.length (pc j))], by omega, by go_num, f1, f2, f3, f4⟩, by simp [intOf]; omega⟩
            · have q1' : (((spAt sp k).1 : Int) == (j : Int)) = false := by rw [beq_eq_false_iff_ne]; exact q1
              have q2' : ((spAt sp k).2 == (j : Int)) = true := by simp [q1] at hqd; rw [beq_iff_eq]; exact hqd
              clear hqd q1
              go_wp2_with (first | (at_builtin; (refine wpList_append_lies _ (by rfl) _ _ _ (by rfl) w1.heap.size 55 i0 _ 10 96 evs_under hi0 hz0 hz1 hz2 rfl (by omega) _ m.length _ (by rfl) (O3.out.alloc _) ⟨wr.heap.size, 0, none⟩ 1 1 [.int .i64 (evAt hs j).th, .bool (evAt hs j).ret, .int .i64 (evAt hs j).op.kind, .int .i64 (evAt hs j).op.key, .int .i64 (evAt hs j).op.val, .int .i64 (evAt hs j).op.hi, .bool (evAt hs j).rt.ok, .int .i64 (evAt hs j).rt.key, .int .i64 (evAt hs j).rt.val, .slice (pb j) (evAt hs j).rt.pairs.length (pc j)] (by rfl) (by rfl) (World.news_of_block (cs := #[.int .i64 (evAt hs j).th, .bool (evAt hs j).ret, .int .i64 (evAt hs j).op.kind, .int .i64 (evAt hs j).op.key, .int .i64 (evAt hs j).op.val, .int .i64 (evAt hs j).op.hi, .bool (evAt hs j).rt.ok, .int .i64 (evAt hs j).rt.key, .int .i64 (evAt hs j).rt.val, .slice (pb j) (evAt hs j).rt.pairs.length (pc j)]) (t := 55) (fr := (0, 0)) (heap_alloc_at _ _ _ (by simp))) (by simp [Value.oneCell']) (by omega) (by unfold maxLen; omega) (by omega) (by simp; omega) (wr.heap.size + 1) (by simp) ?_); intro gg cap w3 hown3 hgrow hat hlt3; have FF : Hid _ := FIN.out gg cap w3 hown3 hgrow hat; clear hown3 hgrow hat))
              obtain ⟨f1, f2, f3, f4⟩ := FF.out
              exact ⟨⟨j + 1, m ++ [(evAt hs j, Value.slice (pb j) (evAt hs j).rt.pairs.length (pc j))], by omega, by go_num, f1, f2, f3, f4⟩, by simp [intOf]; omega⟩
        · obtain rfl : k = sp.length := by omega
          have HNX : Hid _ := HN.out j _ hlt rfl HAL.out
          clear hbx
          go_wp2_with fail
          exact ⟨⟨j + 1, m, by omega, by go_num, HW.out.trans (HX.out.mono zw), by rw [HNX.out]; exact HMp.out, owns_below HO.out HX.out, HR.out.below HX.out⟩, by simp [intOf]; omega⟩
    · obtain rfl : j = hs.length := by omega
      obtain ⟨base3, cap3, g3, pb3, pc3, pg3, po3, e3, hE3, _, _, _⟩ := own_evs HMp.out HO.out HR.out
      have E3 : Hid _ := hE3
      have hol := keptN_le hs K hs.length
      have hzw := HW.out.size
      clear hbw hmap hown hrets hE3
      rw [e3]
      go_wp2_with fail
      refine (copyEvents_any base3 g3 0 cap3 (keptN hs K hs.length) pb3 pc3 pg3 po3 _ E3.out (by omega)).mono ?_
      rintro e w4 ⟨v4, rfl, hb4, hE4⟩
      have E4 : Hid _ := hE4
      have B4 : Hid (Below w.heap.size w w4) := B1.out.trans ((HW.out.trans (hb4.mono hzw)).mono hz1s)
      clear hE4 hb4
      go_wp2_with fail
      go_ret
      exact ⟨_, rfl, B4.out, EvsNew.down E4.out (by omega) (by omega)⟩
end Go.Proofs.Ytgbfippcnmpgfaa
