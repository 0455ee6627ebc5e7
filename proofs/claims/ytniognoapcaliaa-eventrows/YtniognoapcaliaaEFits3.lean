/- Layer 5: the reference's fits and Fits. -/
import Derived.Test.YtniognoapcaliaaEFits2
import Derived.Test.YtniognoapcaliaaERef4
namespace Go.Proofs.Ytniognoapcaliaa
open Go.RowKit
attribute [local go_sem ↓] Go.wp_at_zero Go.wp_at_succ

structure OrdOk0 (n : Nat) (ord : List Int) (j : Nat) : Prop where
  rng : ∀ i, i < j → 0 ≤ oAt ord i ∧ oAt ord i < n
  once : ∀ i k, i < k → k < j → oAt ord i ≠ oAt ord k

set_option maxRecDepth 100000 in
set_option maxHeartbeats 2000000 in
theorem fits_any (hs : List EvD) (base : Option Addr) (g cap : Nat) (l : List (Sp × Value)) (sp : List Sp) (w : World) (h : CallsAt hs w base g l) (hm : l.map (·.1) = sp) (hsn : sp.length ≤ 100000)
    (obase : Option Addr) (ob oo oc : Nat) (ord : List Int) (ho : OrdAt w obase ob oo ord) :
    Calls Try.prog 67 #[.slice base l.length cap, .slice obase ord.length oc] w fun e w' => ∃ r, e = .returned (.bool r) ∧ Below w.heap.size w w' ∧ (r = true ↔ FitsP sp ord) := by
  have HC : Hid _ := h
  have HM : Hid _ := hm
  have HO : Hid _ := ho
  have hll : l.length = sp.length := by rw [← hm, List.length_map]
  have hll1 : l.length ≤ sp.length := by omega
  have hll2 : sp.length ≤ l.length := by omega
  clear h hm ho hll
  have hom := HO.out.len
  unfold maxLen at hom
  have hm1 : ∀ w : World, (Instr.makeSlice 67 (.int .i64 l.length) (.int .i64 l.length)).run Try.prog w = .ok (.slice (some ⟨w.heap.size, 0, none⟩) l.length l.length) (w.alloc (.cells (madeCells #[.bool false] (l.length * 1)) 4)) := fun w => run_make_known (P := Try.prog) 67 4 (.bool false) 1 1 bs_under b_info l.length (by omega) (by omega) w
  go_enter Try.func67, Try.ntmps67
  go_wp2_with fail
  go_loopw [6] (fun i wr => ∃ j : Nat, j ≤ ord.length ∧ i = .int .i64 j ∧ Below w.heap.size w wr ∧ w.heap.size < wr.heap.size ∧ Vals wr w.heap.size l.length (fun x => .bool (seenN ord j x)) ∧ OrdOk0 l.length ord j) (fun i _ => ord.length - (intOf i).toNat)
  case atStart =>
    exact ⟨0, Nat.zero_le _, rfl, below_alloc _ _, by simp, Vals.made w _ _ (.bool false), ⟨fun i hi => by omega, fun i k _ hk => by omega⟩⟩
  case round =>
    obtain ⟨j, hj, rfl, hbw, hsz, hV, hOK⟩ := hrel
    have HW : Hid _ := hbw
    have HV : Hid (Vals _ _ _ _) := hV
    have HOK : Hid _ := hOK
    by_cases hlt : j < ord.length
    · obtain rfl : obase = some ⟨ob, oo, none⟩ := HO.out.base (by omega)
      have c0 := (HO.out.below hbw).cells j hlt
      have j0 : (0 : Int) ≤ (j : Int) := Int.natCast_nonneg _
      have j1 : (j : Int) < (ord.length : Int) := by omega
      clear hbw hV hOK
      by_cases h0 : oAt ord j < 0
      · have BAD : Hid (¬ FitsP sp ord) := fun hf => by have := (hf.1.rng j hlt).1; omega
        go_wp2_with fail
        go_ret
        exact ⟨false, rfl, HW.out, ⟨(fun h => by cases h), fun h => absurd h BAD.out⟩⟩
      · by_cases h1 : (l.length : Int) ≤ oAt ord j
        · have BAD : Hid (¬ FitsP sp ord) := fun hf => by have := (hf.1.rng j hlt).2; omega
          have h0' : 0 ≤ oAt ord j := by omega
          clear h0
          go_wp2_with fail
          go_ret
          exact ⟨false, rfl, HW.out, ⟨(fun h => by cases h), fun h => absurd h BAD.out⟩⟩
        · obtain ⟨x, hx⟩ : ∃ x : Nat, oAt ord j = x := ⟨(oAt ord j).toNat, by omega⟩
          have hxl : x < l.length := by omega
          obtain ⟨v0, v1⟩ := HV.out x hxl
          simp only at v0
          rw [hx] at c0
          have x0 : (0 : Int) ≤ (x : Int) := Int.natCast_nonneg _
          have x1 : (x : Int) < (l.length : Int) := by omega
          have HX : Hid _ := hx
          clear h0 h1 hx
          cases hs2 : seenN ord j x
          · rw [hs2] at v0
            have ob' : ob ≠ w.heap.size := by have := HO.out.lt (by omega); omega
            go_wp2_with fail
            refine ⟨⟨j + 1, by omega, by go_num, HW.out.setCell (by simp) _, by simp; omega, ?_, ?_, ?_⟩, by simp [intOf]; omega⟩
            · refine (HV.out.set x (.bool true)).fn (fun y _ => ?_)
              simp only [putV, seenN]
              by_cases q : y = x
              · rw [if_pos q, q, HX.out]; simp
              · rw [if_neg q, HX.out]
                have : decide ((x : Int) = (y : Int)) = false := by simp; omega
                rw [this, Bool.or_false]
            · intro i hi
              by_cases q : i = j
              · subst q; rw [HX.out]; omega
              · exact HOK.out.rng i (by omega)
            · intro i k hik hk
              by_cases q : k = j
              · subst q
                intro e
                rw [HX.out] at e
                have : seenN ord k x = true := seenN_iff.2 ⟨i, hik, e⟩
                rw [hs2] at this; cases this
              · exact HOK.out.once i k hik (by omega)
          · rw [hs2] at v0
            have BAD : Hid (¬ FitsP sp ord) := by
              intro hf
              obtain ⟨i, hi, q⟩ := seenN_iff.1 hs2
              exact hf.1.once i j hi hlt (by rw [q, HX.out])
            go_wp2_with fail
            go_ret
            exact ⟨false, rfl, HW.out, ⟨(fun h => by cases h), fun h => absurd h BAD.out⟩⟩
    · obtain rfl : j = ord.length := by omega
      clear hbw hV hOK
      generalize wr = W0 at *
      go_wp2_with fail
      go_loopw [7] (fun i wr => ∃ k : Nat, k ≤ l.length ∧ i = .int .i64 k ∧ wr = W0 ∧ ∀ x, x < k → (spAt sp x).2 ≠ -1 → seenN ord ord.length x = true) (fun i _ => l.length - (intOf i).toNat)
      case atStart => exact ⟨0, Nat.zero_le _, rfl, rfl, fun x hx => by omega⟩
      case round =>
        obtain ⟨k, hk, rfl, hwr, hall⟩ := hrel
        subst hwr
        have HALL : Hid _ := hall
        clear hall
        by_cases hlk : k < l.length
        · obtain rfl : base = some ⟨g, 0, none⟩ := HC.out.base (by omega)
          obtain ⟨s0, s1⟩ := (HC.out.below HW.out).ft HM.out (k := k) (by omega)
          obtain ⟨v0, v1⟩ := HV.out k hlk
          simp only at v0
          have k0 : (0 : Int) ≤ (k : Int) := Int.natCast_nonneg _
          have k1 : (k : Int) < (l.length : Int) := by omega
          by_cases hp : (spAt sp k).2 = -1
          · have hd : ((spAt sp k).2 != -1) = false := by simp [hp]
            have NX : Hid (∀ x, x < k + 1 → (spAt sp x).2 ≠ -1 → seenN ord ord.length x = true) := by
              intro x hx hxn
              by_cases q : x = k
              · subst q; exact absurd hp hxn
              · exact HALL.out x (by omega) hxn
            clear hp
            go_wp2_with fail
            exact ⟨⟨k + 1, by omega, by go_num, trivial, NX.out⟩, by simp [intOf]; omega⟩
          · have hd : ((spAt sp k).2 != -1) = true := by simp [hp]
            cases hsn3 : seenN ord ord.length k
            · have BAD : Hid (¬ FitsP sp ord) := by
                intro hf
                have := hf.2 k (by omega) hp
                rw [hsn3] at this; cases this
              rw [hsn3] at v0
              clear hp
              go_wp2_with fail
              go_ret
              exact ⟨false, rfl, HW.out, ⟨(fun h => by cases h), fun h => absurd h BAD.out⟩⟩
            · have NX : Hid (∀ x, x < k + 1 → (spAt sp x).2 ≠ -1 → seenN ord ord.length x = true) := by
                intro x hx hxn
                by_cases q : x = k
                · subst q; exact hsn3
                · exact HALL.out x (by omega) hxn
              rw [hsn3] at v0
              clear hp
              go_wp2_with fail
              exact ⟨⟨k + 1, by omega, by go_num, trivial, NX.out⟩, by simp [intOf]; omega⟩
        · obtain rfl : k = l.length := by omega
          clear HV
          go_wp2_with fail
          go_loopw [8] (fun i wr => ∃ k : Nat, k ≤ ord.length ∧ i = .int .i64 k ∧ Below w.heap.size w wr ∧ ∀ x y, x < k → x < y → y < ord.length → ahd (spAt sp (oAt ord y).toNat) (spAt sp (oAt ord x).toNat) = false) (fun i _ => ord.length - (intOf i).toNat)
          case atStart => exact ⟨0, Nat.zero_le _, rfl, HW.out, fun x y hx => by omega⟩
          case round =>
            obtain ⟨x, hx, rfl, hbw, hpr⟩ := hrel
            have HW2 : Hid _ := hbw
            have HPR : Hid _ := hpr
            clear hbw hpr
            by_cases hlx : x < ord.length
            · have xx1 : (x : Int) < (ord.length : Int) := by omega
              generalize wr = W2 at *
              go_wp2_with fail
              go_loopw [9] (fun i wr => ∃ k : Nat, x + 1 ≤ k ∧ k ≤ ord.length ∧ i = .int .i64 k ∧ Below w.heap.size w wr ∧ ∀ y, x < y → y < k → ahd (spAt sp (oAt ord y).toNat) (spAt sp (oAt ord x).toNat) = false) (fun i _ => ord.length - (intOf i).toNat)
              case atStart => exact ⟨x + 1, Nat.le_refl _, by omega, by go_num, HW2.out, fun y h1 h2 => by omega⟩
              case round =>
                obtain ⟨y, hy0, hy, rfl, hbw, hpr⟩ := hrel
                have HW3 : Hid _ := hbw
                have HPR2 : Hid _ := hpr
                clear hpr
                by_cases hly : y < ord.length
                · obtain rfl : obase = some ⟨ob, oo, none⟩ := HO.out.base (by omega)
                  have c0 := (HO.out.below hbw).cells x hlx
                  have c1 := (HO.out.below hbw).cells y hly
                  obtain ⟨r0, r1⟩ := HOK.out.rng x hlx
                  obtain ⟨r2, r3⟩ := HOK.out.rng y hly
                  obtain ⟨p, hp⟩ : ∃ p : Nat, oAt ord x = p := ⟨(oAt ord x).toNat, by omega⟩
                  obtain ⟨q, hq⟩ : ∃ q : Nat, oAt ord y = q := ⟨(oAt ord y).toNat, by omega⟩
                  rw [hp] at c0 r0 r1
                  rw [hq] at c1 r2 r3
                  have hobl : ob < wr.heap.size := Nat.lt_of_lt_of_le (HO.out.lt (by omega)) hbw.size
                  have d0 := BelowBy.cell (b := ob) hobl c0
                  have d1 := BelowBy.cell (b := ob) hobl c1
                  have x0 : (0 : Int) ≤ (x : Int) := Int.natCast_nonneg _
                  have y0 : (0 : Int) ≤ (y : Int) := Int.natCast_nonneg _
                  have y1 : (y : Int) < (ord.length : Int) := by omega
                  have BF : Hid (∀ pp : BelowBy wr, Calls Try.prog 60 #[.slice base l.length cap, .int .i64 q, .int .i64 p] pp.W fun e w' => e = .returned (.bool (ahd (spAt sp q) (spAt sp p))) ∧ Below pp.W.heap.size pp.W w') := fun pp => before_any hs base g cap q p l sp _ (HC.out.below (HW3.out.trans (pp.h.mono HW3.out.size))) HM.out (by omega) (by omega)
                  have HPX : Hid _ := hp
                  have HQX : Hid _ := hq
                  clear hp hq hbw
                  go_wp2_with fail
                  refine wp_region_below (by kernel_rfl) (by kernel_rfl) ?_
                  repeat (go_big_quiet_step ((first | (go_at_call 60; exact below_call (BF.out _)))))
                  refine wpQuiet_nil ?_
                  rintro _ ⟨pp, rfl⟩
                  have PB : Hid (Below wr.heap.size wr pp.W) := pp.h
                  clear d0 d1
                  cases ha : ahd (spAt sp q) (spAt sp p)
                  · go_wp2_with fail
                    refine ⟨⟨y + 1, by omega, by omega, by go_num, HW3.out.trans (PB.out.mono HW3.out.size), ?_⟩, by simp [intOf]; omega⟩
                    intro z hz1 hz2
                    by_cases e : z = y
                    · subst e; rw [HPX.out, HQX.out]; exact ha
                    · exact HPR2.out z hz1 (by omega)
                  · have BAD : Hid (¬ FitsP sp ord) := by
                      intro hf
                      have := hf.1.ahead x y (by omega) hly
                      rw [HPX.out, HQX.out] at this
                      simp only [Int.toNat_natCast] at this
                      rw [ha] at this; cases this
                    go_wp2_with fail
                    go_ret
                    exact ⟨false, rfl, HW3.out.trans (PB.out.mono HW3.out.size), ⟨(fun h => by cases h), fun h => absurd h BAD.out⟩⟩
                · obtain rfl : y = ord.length := by omega
                  clear hbw
                  go_wp2_with fail
                  refine ⟨⟨x + 1, by omega, by go_num, HW3.out, ?_⟩, by simp [intOf]; omega⟩
                  intro a b h1 h2 h3
                  by_cases e : a = x
                  · subst e; exact HPR2.out b h2 h3
                  · exact HPR.out a b (by omega) h2 h3
            · obtain rfl : x = ord.length := by omega
              go_wp2_with fail
              go_ret
              refine ⟨true, rfl, HW2.out, ⟨fun _ => ⟨⟨fun i hi => ?_, HOK.out.once, fun i k hik hk => HPR.out i k (by omega) hik hk⟩, fun k hk => HALL.out k (by omega)⟩, fun _ => rfl⟩⟩
              have := HOK.out.rng i hi
              omega

set_option maxRecDepth 100000 in
set_option maxHeartbeats 1000000 in
theorem rFits_any (base : Option Addr) (b o c : Nat) (hs : List EvD) (pb : Nat → Option Addr) (pc pg po : Nat → Nat) (w : World) (h : EvsAt w base b o hs pb pc pg po)
    (obase : Option Addr) (ob oo oc : Nat) (ord : List Int) (ho : OrdAt w obase ob oo ord) :
    Calls Try.prog 38 #[.slice base hs.length c, .slice obase ord.length oc] w fun e w' => ∃ r, e = .returned (.tuple #[.bool r, .int .i64 (hErr hs)]) ∧ Below w.heap.size w w' ∧ (hErr hs ≠ 0 → r = false) ∧ (hErr hs = 0 → (r = true ↔ FitsP (spansL hs) ord)) := by
  have HA : Hid _ := h
  have HO : Hid _ := ho
  clear h ho
  by_cases he : hErr hs = 0
  · have hn : (hErr hs != 0) = false := by simp [he]
    obtain ⟨hbn, s, hst, hsl⟩ := hErr_zero he
    have hsn : (spansL hs).length ≤ 100000 := by rw [hsl]; have := (stN_ok hst).len; omega
    have HE : Hid _ := he
    clear he hst hsl hbn
    go_enter Try.func38, Try.ntmps38
    go_wp2_with fail
    refine (rCalls_any base b o c hs pb pc pg po _ HA.out).mono ?_
    rintro e w1 ⟨v, rfl, hb, _, hown⟩
    obtain ⟨l, hm, ho, _⟩ := hown HE.out
    obtain ⟨base1, cap, g, rfl, hnil, hca, hmx⟩ := calls_of_owns ho
    have HC : Hid _ := hca
    have HM : Hid _ := hm
    clear hown ho hnil hca hm
    go_wp2_with fail
    refine (fits_any hs base1 g cap l (spansL hs) _ HC.out HM.out hsn obase ob oo oc ord (HO.out.below hb)).mono ?_
    rintro e w2 ⟨r, rfl, hb2, hr⟩
    have HR : Hid _ := hr
    clear hr
    go_wp2_with fail
    go_ret2
    exact ⟨r, by rw [HE.out]; rfl, hb.trans (hb2.mono hb.size), fun h => absurd HE.out h, fun _ => HR.out⟩
  · have hn : (hErr hs != 0) = true := by simp [he]
    have HE : Hid _ := he
    clear he
    go_enter Try.func38, Try.ntmps38
    go_wp2_with fail
    refine (rCalls_any base b o c hs pb pc pg po _ HA.out).mono ?_
    rintro e w1 ⟨v, rfl, hb, _, hown⟩
    clear hown
    go_wp2_with fail
    go_ret2
    exact ⟨_, rfl, hb, fun _ => rfl, fun h => absurd h HE.out⟩
end Go.Proofs.Ytniognoapcaliaa
