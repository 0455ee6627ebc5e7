/- Layer 5: EventAhead, walked: the table of who is ahead of whom. -/
import Derived.Test.YtplkhknoomninaaEAhead1
namespace Go.Proofs.Ytplkhknoomninaa
open Go.RowKit
attribute [local go_sem ↓] Go.wp_at_zero Go.wp_at_succ

/-- A table of bools: m rows of n are there. -/
structure MatAt (w : World) (gA n m : Nat) (R : Nat → Nat) (A : Nat → Nat → Bool) : Prop where
  top : Vals w gA n (fun x => if x < m then .slice (some ⟨R x, 0, none⟩) n n else .slice none 0 0)
  lo : ∀ x, x < m → gA < R x ∧ R x < w.heap.size
  row : ∀ x, x < m → Vals w (R x) n (fun k => .bool (A x k))
theorem MatAt.below {w w' : World} {gA n m : Nat} {R : Nat → Nat} {A : Nat → Nat → Bool} (h : MatAt w gA n m R A) (hg : gA < w.heap.size) (hb : Below w.heap.size w w') : MatAt w' gA n m R A :=
  ⟨h.top.below hg hb, fun x hx => ⟨(h.lo x hx).1, Nat.lt_of_lt_of_le (h.lo x hx).2 hb.size⟩, fun x hx => (h.row x hx).below (h.lo x hx).2 hb⟩
/-- The row m is being filled: k of it are there. -/
structure MatTo (w : World) (gA n m k H : Nat) (R : Nat → Nat) (A : Nat → Nat → Bool) : Prop where
  top : Vals w gA n (fun x => if x < m then .slice (some ⟨R x, 0, none⟩) n n else if x = m then .slice (some ⟨H, 0, none⟩) n n else .slice none 0 0)
  lo : ∀ x, x < m → gA < R x ∧ R x < H
  row : ∀ x, x < m → Vals w (R x) n (fun k => .bool (A x k))
  at_ : Vals w H n (fun y => .bool (if y < k then A m y else false))
  hi : gA < H ∧ H < w.heap.size
theorem MatTo.below {w w' : World} {gA n m k H : Nat} {R : Nat → Nat} {A : Nat → Nat → Bool} (h : MatTo w gA n m k H R A) (hb : Below w.heap.size w w') : MatTo w' gA n m k H R A := by
  have := h.hi
  exact ⟨h.top.below (by omega) hb, h.lo, fun x hx => (h.row x hx).below (by have := h.lo x hx; omega) hb, h.at_.below (by omega) hb, ⟨h.hi.1, Nat.lt_of_lt_of_le h.hi.2 hb.size⟩⟩
theorem MatTo.put {w : World} {gA n m k H : Nat} {R : Nat → Nat} {A : Nat → Nat → Bool} (h : MatTo w gA n m k H R A) : MatTo (w.setCell ⟨H, k, none⟩ (.bool (A m k))) gA n m (k + 1) H R A := by
  have hh := h.hi
  refine ⟨h.top.apart _ _ _ (by omega), h.lo, fun x hx => (h.row x hx).apart _ _ _ (by have := h.lo x hx; omega), ?_, by simpa using h.hi⟩
  refine (h.at_.set k (.bool (A m k))).fn (fun y _ => ?_)
  simp only [putV]
  by_cases e : y = k
  · rw [if_pos e, e, if_pos (by omega)]
  · rw [if_neg e]
    by_cases q : y < k
    · rw [if_pos q, if_pos (by omega)]
    · rw [if_neg q, if_neg (by omega)]
theorem MatTo.done {w : World} {gA n m H : Nat} {R : Nat → Nat} {A : Nat → Nat → Bool} (h : MatTo w gA n m n H R A) : MatAt w gA n (m + 1) (fun x => if x = m then H else R x) A := by
  have hh := h.hi
  refine ⟨h.top.fn (fun x _ => ?_), fun x hx => ?_, fun x hx => ?_⟩
  · by_cases e : x = m
    · subst e; rw [if_neg (by omega), if_pos rfl, if_pos (by omega), if_pos rfl]
    · by_cases q : x < m
      · rw [if_pos q, if_pos (by omega), if_neg e]
      · rw [if_neg q, if_neg e, if_neg (by omega)]
  · by_cases e : x = m
    · simp only [e, if_true]; exact hh
    · simp only [if_neg e]; have := h.lo x (by omega); exact ⟨this.1, by omega⟩
  · by_cases e : x = m
    · simp only [e, if_true]
      exact h.at_.fn (fun y hy => by rw [if_pos hy])
    · simp only [if_neg e]; exact h.row x (by omega)
theorem MatAt.new {w : World} {gA n m : Nat} {R : Nat → Nat} {A : Nat → Nat → Bool} {T : TypeId} (h : MatAt w gA n m R A) (hg : gA < w.heap.size) :
    MatTo ((w.setCell ⟨gA, m, none⟩ (.slice (some ⟨w.heap.size, 0, none⟩) n n)).alloc (.cells (madeCells #[.bool false] n) T)) gA n m 0 w.heap.size R A := by
  have zs : (w.setCell ⟨gA, m, none⟩ (.slice (some ⟨w.heap.size, 0, none⟩) n n)).heap.size = w.heap.size := by simp
  refine ⟨?_, h.lo, fun x hx => ?_, ?_, ⟨hg, by simp⟩⟩
  · refine ((h.top.set m (.slice (some ⟨w.heap.size, 0, none⟩) n n)).fn (fun x _ => ?_)).below (by rw [zs]; exact hg) (below_alloc _ _)
    simp only [putV]
    by_cases e : x = m
    · subst e; rw [if_pos rfl, if_neg (by omega), if_pos rfl]
    · rw [if_neg e]
      by_cases q : x < m
      · rw [if_pos q, if_pos q]
      · rw [if_neg q, if_neg q, if_neg e]
  · have := h.lo x hx
    exact ((h.row x hx).apart _ _ _ (by omega)).below (by rw [zs]; exact this.2) (below_alloc _ _)
  · have := Vals.made (w.setCell ⟨gA, m, none⟩ (.slice (some ⟨w.heap.size, 0, none⟩) n n)) n T (.bool false)
    rw [zs] at this
    exact this.fn (fun y _ => by simp)
theorem bss_info : (Try.prog.info? 67).map (fun i => (i.zero, i.size, i.bytes)) = some (some (.slice none 0 0), 1, 24) := by kernel_rfl
theorem bss_under : Try.prog.underlying 66 = some (.slice 67) := by kernel_rfl

set_option maxRecDepth 100000 in
set_option maxHeartbeats 4000000 in
theorem ahead_short (base : Option Addr) (b o c : Nat) (hs0 hs : List EvD) (pb : Nat → Option Addr) (pc pg po : Nat → Nat) (w : World) (h0 : EvsAt w base b o hs pb pc pg po) (hcap : hs0.length ≤ c) (hl : hs0.length ≤ 60) (hhs : hs0 = hs) :
    Calls Try.prog 9 #[.slice base hs0.length c] w fun e w' => e = .returned (.bool true) ∧ Below w.heap.size w w' := by
  have HA : Hid _ := h0
  clear h0
  subst hhs
  have hli : (hs0.length : Int) ≤ 60 := by omega
  go_enter Try.func9, Try.ntmps9
  go_wp2_with fail
  refine (known_any _).mono ?_
  rintro e w1 ⟨rfl, hb1⟩
  have B1 : Hid _ := hb1
  clear hb1
  go_wp2_with fail
  refine (Calls_any base b o c hs0 pb pc pg po _ (HA.out.below B1.out)).mono ?_
  rintro e w2 ⟨v, rfl, hb2, hv2, ho2⟩
  have B2 : Hid _ := B1.out.trans (hb2.mono B1.out.size)
  clear hb2
  by_cases he : hErr hs0 = 0
  · have hn : (hErr hs0 != 0) = false := by simp [he]
    obtain ⟨hbn, s, hst, hsl⟩ := hErr_zero he
    have hok := stN_ok hst
    have hwd := wd_inv hst
    obtain ⟨g, l, hg1, hg2, rfl, hm, hca, _⟩ := ho2 he
    have hln : (spansL hs0).length ≤ 60 := by rw [hsl]; have := hok.len; omega
    have hself : Hid (∀ i, i < (spansL hs0).length → ahd (spAt (spansL hs0) i) (spAt (spansL hs0) i) = false) := by
      intro i hi
      rw [hsl] at hi ⊢
      unfold ahd
      rcases hok.to i hi with q | q
      · simp [q]
      · have : ¬ (spAt s.spans i).2 < ((spAt s.spans i).1 : Int) := by omega
        simp [this]
    have hthr : Hid (∀ i k, i < k → k < (spansL hs0).length → (evAt hs0 (spAt (spansL hs0) i).1).th = (evAt hs0 (spAt (spansL hs0) k).1).th → ahd (spAt (spansL hs0) i) (spAt (spansL hs0) k) = true) := by
      intro i k hik hk he
      rw [hsl] at hk he ⊢
      exact ahd_true.2 (hok.row i k hik hk he)
    have htr : Hid (∀ i k m, i < (spansL hs0).length → k < (spansL hs0).length → ahd (spAt (spansL hs0) i) (spAt (spansL hs0) k) = true → ahd (spAt (spansL hs0) k) (spAt (spansL hs0) m) = true → ahd (spAt (spansL hs0) i) (spAt (spansL hs0) m) = true) := by
      intro i k m hi hk h1 h2
      rw [hsl] at hi hk
      rw [ahd_true] at h1 h2 ⊢
      rw [hsl] at h1 h2 ⊢
      refine ⟨h1.1, ?_⟩
      rcases hok.to k hk with q | q
      · exact absurd q h2.1
      · omega
    have hrow : Hid ((decide (hErr hs0 = 0) && decide (widthA hs0 ≤ 1)) = true ↔ allAhd (spansL hs0)) := by
      rw [show widthA hs0 = (wdN hs0 hs0.length).2 by unfold widthA; rw [if_pos he], he, hsl]
      simp only [decide_true, Bool.true_and, decide_eq_true_eq]
      exact hwd.2.2
    have hahd : Hid (∀ i k : Nat, i < (spansL hs0).length → k < (spansL hs0).length → aheadA hs0 i k = (ahd (spAt (spansL hs0) i) (spAt (spansL hs0) k), 0)) := by
      intro i k hi hk
      unfold aheadA; rw [if_neg (by simp [he]), if_pos (by omega)]; rfl
    have hout : Hid (aheadA hs0 ((spansL hs0).length : Int) 0 = (false, 1)) := by
      show aheadA hs0 ((spansL hs0).length : Int) 0 = (false, 1)
      unfold aheadA; rw [if_neg (by simp [he]), if_neg (by omega)]
    have HE : Hid _ := he
    have HC : Hid _ := hca
    have HM : Hid _ := hm
    clear he hst hsl hbn hok hwd hca hm hv2 ho2 hg1
    generalize spansL hs0 = sp at *
    obtain ⟨rowB, hrowB⟩ : ∃ rowB, (decide (hErr hs0 = 0) && decide (widthA hs0 ≤ 1)) = rowB := ⟨_, rfl⟩
    have HRB : Hid _ := hrowB
    rw [hrowB] at hrow
    clear hrowB
    have hll : l.length = sp.length := by rw [← HM.out, List.length_map]
    have hm1 : ∀ w : World, (Instr.makeSlice 66 (.int .i64 sp.length) (.int .i64 sp.length)).run Try.prog w = .ok (.slice (some ⟨w.heap.size, 0, none⟩) sp.length sp.length) (w.alloc (.cells (madeCells #[.slice none 0 0] (sp.length * 1)) 67)) := fun w => run_make_known (P := Try.prog) 66 67 (.slice none 0 0) 1 24 bss_under bss_info sp.length (by omega) (by omega) w
    have hm2 : ∀ w : World, (Instr.makeSlice 67 (.int .i64 sp.length) (.int .i64 sp.length)).run Try.prog w = .ok (.slice (some ⟨w.heap.size, 0, none⟩) sp.length sp.length) (w.alloc (.cells (madeCells #[.bool false] (sp.length * 1)) 4)) := fun w => run_make_known (P := Try.prog) 67 4 (.bool false) 1 1 bs_under b_info sp.length (by omega) (by omega) w
    have HLL : Hid _ := hll
    clear hll
    go_wp2_with fail
    go_loopw [10] (fun i wr => ∃ (m : Nat) (R : Nat → Nat), m ≤ sp.length ∧ i = .int .i64 m ∧ Below w2.heap.size w2 wr ∧ w2.heap.size < wr.heap.size ∧ MatAt wr w2.heap.size sp.length m R (fun x y => ahd (spAt sp x) (spAt sp y))) (fun i _ => sp.length - (intOf i).toNat)
    case atStart =>
      exact ⟨0, fun _ => 0, Nat.zero_le _, rfl, below_alloc _ _, by simp, ⟨(Vals.made w2 _ _ (.slice none 0 0)).fn (fun x _ => by simp), fun x hx => by omega, fun x hx => by omega⟩⟩
    case round =>
      obtain ⟨m, R, hm, rfl, hbw, hsz, hMat⟩ := hrel
      have HW : Hid _ := hbw
      have HMt : Hid _ := hMat
      clear hbw hMat
      generalize wr = W0 at *
      by_cases hlt : m < sp.length
      · have m0 : (0 : Int) ≤ (m : Int) := Int.natCast_nonneg _
        have m1 : (m : Int) < (sp.length : Int) := by omega
        obtain ⟨x0, x1⟩ := HMt.out.top m hlt
        simp only [Nat.lt_irrefl, if_false] at x0
        go_wp2_with fail
        go_loopw [11] (fun i wr => ∃ k : Nat, k ≤ sp.length ∧ i = .int .i64 k ∧ Below w2.heap.size w2 wr ∧ MatTo wr w2.heap.size sp.length m k W0.heap.size R (fun x y => ahd (spAt sp x) (spAt sp y))) (fun i _ => sp.length - (intOf i).toNat)
        case atStart =>
          refine ⟨0, Nat.zero_le _, rfl, ?_, HMt.out.new hsz⟩
          exact (HW.out.setCell (by simp) _).alloc (by simp; have := HW.out.size; omega) _
        case round =>
          obtain ⟨k, hk, rfl, hbw, hMat⟩ := hrel
          have HW2 : Hid _ := hbw
          have HMt2 : Hid _ := hMat
          clear hbw hMat
          by_cases hlk : k < sp.length
          · have k0 : (0 : Int) ≤ (k : Int) := Int.natCast_nonneg _
            have k1 : (k : Int) < (sp.length : Int) := by omega
            go_wp2_with fail
            refine (Ahead_any base b o c hs0 pb pc pg po _ (HA.out.below (B2.out.trans (HW2.out.mono B2.out.size))) m k).mono ?_
            rw [hahd.out m k hlt hlk]
            rintro e w3 ⟨rfl, hb3⟩
            have M3 : Hid _ := HMt2.out.below hb3
            have B3 : Hid _ := HW2.out.trans (hb3.mono HW2.out.size)
            clear hb3
            obtain ⟨y0, y1⟩ := M3.out.top m hlt
            simp only [Nat.lt_irrefl, if_false, if_true] at y0
            obtain ⟨z0, z1⟩ := M3.out.at_ k hlk
            have hh := M3.out.hi
            go_wp2_with fail
            exact ⟨⟨k + 1, by omega, by go_num, B3.out.setCell (by simp; omega) _, M3.out.put⟩, by simp [intOf]; omega⟩
          · obtain rfl : k = sp.length := by omega
            go_wp2_with fail
            have hh := HMt2.out.hi
            exact ⟨⟨m + 1, _, by omega, by go_num, HW2.out, by omega, HMt2.out.done⟩, by simp [intOf]; omega⟩
      · obtain rfl : m = sp.length := by omega
        go_wp2_with fail
        go_loopw [9, 14] (fun al i wr => ∃ (i' : Nat) (r : Bool), i' ≤ sp.length ∧ i = .int .i64 i' ∧ al = .bool r ∧ Below W0.heap.size W0 wr ∧ (r = true ↔ ∀ x y, x < i' → x < y → y < sp.length → ahd (spAt sp x) (spAt sp y) = true)) (fun _ i _ => sp.length - (intOf i).toNat)
        case atStart => exact ⟨0, true, Nat.zero_le _, rfl, rfl, Below.refl _ _, ⟨fun _ x y hx => by omega, fun _ => rfl⟩⟩
        case round =>
          obtain ⟨i, r, hi, rfl, rfl, hbw2, hr⟩ := hrel
          have HB2 : Hid _ := hbw2
          have HR2 : Hid _ := hr
          clear hbw2 hr
          generalize wr = W1 at *
          by_cases hli : i < sp.length
          · have i0 : (0 : Int) ≤ (i : Int) := Int.natCast_nonneg _
            have i1 : (i : Int) < (sp.length : Int) := by omega
            have MT := HMt.out.below hsz HB2.out
            obtain ⟨a1, a2⟩ := MT.top i hli
            simp only [if_pos hli] at a1
            have a5 := (MT.row i hli i hli).1
            simp only at a5
            rw [hself.out i hli] at a5
            clear MT
            go_wp2_with fail
            clear a1 a2 a5
            go_loopw [9, 15] (fun al j wr => ∃ (k : Nat) (r : Bool), k ≤ sp.length ∧ j = .int .i64 k ∧ al = .bool r ∧ Below W0.heap.size W0 wr ∧ (r = true ↔ (∀ x y, x < i → x < y → y < sp.length → ahd (spAt sp x) (spAt sp y) = true) ∧ ∀ y, y < k → i < y → ahd (spAt sp i) (spAt sp y) = true)) (fun _ i _ => sp.length - (intOf i).toNat)
            case atStart => exact ⟨0, r, Nat.zero_le _, rfl, rfl, HB2.out, ⟨fun h => ⟨HR2.out.1 h, fun y hy => by omega⟩, fun h => HR2.out.2 h.1⟩⟩
            case round =>
              obtain ⟨k, r, hk, rfl, rfl, hbw3, hr3⟩ := hrel
              have HB3 : Hid _ := hbw3
              have HR3 : Hid _ := hr3
              clear hbw3 hr3
              by_cases hlk : k < sp.length
              · have k0 : (0 : Int) ≤ (k : Int) := Int.natCast_nonneg _
                have k1 : (k : Int) < (sp.length : Int) := by omega
                have hz3 := HB3.out.size
                have hz4 := HW.out.size
                have HM3 : Hid (MatAt wr w2.heap.size sp.length sp.length R (fun x y => ahd (spAt sp x) (spAt sp y))) := HMt.out.below hsz HB3.out
                have CA := (HC.out.below HW.out).below HB3.out
                obtain ⟨xi, hxi, exi, _⟩ := getE_of_map HM.out hli
                obtain ⟨xk, hxk, exk, _⟩ := getE_of_map HM.out hlk
                have t1 := CA.cells i xi hxi 0 (by omega)
                have t2 := CA.cells k xk hxk 0 (by omega)
                simp only [callC, List.getElem?_cons_zero, Nat.add_zero] at t1 t2
                rw [exi] at t1
                rw [exk] at t2
                clear CA hxi hxk exi exk
                have hthr' := hthr.out i k
                obtain ⟨thI, hthI⟩ : ∃ thI, thI = (evAt hs0 (spAt sp i).1).th := ⟨_, rfl⟩
                obtain ⟨thK, hthK⟩ : ∃ thK, thK = (evAt hs0 (spAt sp k).1).th := ⟨_, rfl⟩
                rw [← hthI] at t1 hthr'
                rw [← hthK] at t2 hthr'
                clear hthI hthK
                obtain ⟨a1, a2⟩ := HM3.out.top i hli
                simp only [if_pos hli] at a1
                obtain ⟨a3, a4⟩ := HM3.out.top k hlk
                simp only [if_pos hlk] at a3
                have HTH : Hid _ := hthr'
                clear hthr'
                by_cases hik : i < k
                · have hikI : (i : Int) < (k : Int) := by omega
                  have hikB : decide ((i : Int) < (k : Int)) = true := by simp; omega
                  cases hA : ahd (spAt sp i) (spAt sp k)
                  · have hth : thI ≠ thK := by
                      intro e
                      have := HTH.out hik hlk e
                      rw [hA] at this; cases this
                    have a5 := (HM3.out.row i hli k hlk).1
                    simp only at a5
                    rw [hA] at a5
                    have te : (thI == thK) = false := by simp [hth]
                    clear hth
                    have NX : Hid (false = true ↔ (∀ x y, x < i → x < y → y < sp.length → ahd (spAt sp x) (spAt sp y) = true) ∧ ∀ y, y < k + 1 → i < y → ahd (spAt sp i) (spAt sp y) = true) := by
                      show false = true ↔ _
                      constructor
                      · intro h; cases h
                      · rintro ⟨_, h2⟩
                        have := h2 k (by omega) hik
                        rw [hA] at this; cases this
                    go_wp2_with fail
                    go_quiet (fail)
                    have MW : Hid (MatAt (wr.drewN nq) w2.heap.size sp.length sp.length R (fun x y => ahd (spAt sp x) (spAt sp y))) := HM3.out.below (by omega) (below_drewN (Below.refl _ _) nq)
                    have BK : Hid (Below W0.heap.size W0 (wr.drewN nq)) := below_drewN HB3.out nq
                    obtain ⟨b1, b2⟩ := MW.out.top i hli
                    simp only [if_pos hli] at b1
                    obtain ⟨b3, b4⟩ := MW.out.top k hlk
                    simp only [if_pos hlk] at b3
                    clear a1 a2 a3 a4 t1 t2
                    generalize wr.drewN nq = W2 at *
                    clear a5
                    have a5 := (MW.out.row i hli k hlk).1
                    simp only at a5
                    rw [hA] at a5
                    go_wp2_with fail
                    clear a5
                    go_loopw [16] (fun i wr => ∃ m : Nat, m ≤ sp.length ∧ i = .int .i64 m ∧ wr = W2) (fun i _ => sp.length - (intOf i).toNat)
                    case atStart => exact ⟨0, Nat.zero_le _, rfl, rfl⟩
                    case round =>
                      obtain ⟨q, hq, rfl, hwr⟩ := hrel
                      subst hwr
                      by_cases hlq : q < sp.length
                      · have q0 : (0 : Int) ≤ (q : Int) := Int.natCast_nonneg _
                        have q1 : (q : Int) < (sp.length : Int) := by omega
                        have c1 := (MW.out.row i hli k hlk).1
                        have c2 := (MW.out.row k hlk q hlq).1
                        have c3 := (MW.out.row i hli q hlq).1
                        simp only at c1 c2 c3
                        have T := htr.out i k q hli hlk
                        cases hAik : ahd (spAt sp i) (spAt sp k)
                        · rw [hAik] at c1
                          clear T
                          go_wp2_with fail
                          exact ⟨⟨q + 1, by omega, by go_num, trivial⟩, by simp [intOf]; omega⟩
                        · rw [hAik] at c1
                          cases hAkq : ahd (spAt sp k) (spAt sp q)
                          · rw [hAkq] at c2
                            clear T
                            go_wp2_with fail
                            exact ⟨⟨q + 1, by omega, by go_num, trivial⟩, by simp [intOf]; omega⟩
                          · rw [hAkq] at c2
                            rw [T hAik hAkq] at c3
                            clear T
                            go_wp2_with fail
                            exact ⟨⟨q + 1, by omega, by go_num, trivial⟩, by simp [intOf]; omega⟩
                      · go_wp2_with fail
                        exact ⟨⟨k + 1, false, by omega, by go_num, rfl, BK.out, NX.out⟩, by simp [intOf]; omega⟩
                  · have a5 := (HM3.out.row i hli k hlk).1
                    simp only at a5
                    rw [hA] at a5
                    by_cases hth : thI = thK
                    · have te : (thI == thK) = true := by simp [hth]
                      clear hth
                      have NX : Hid (r = true ↔ (∀ x y, x < i → x < y → y < sp.length → ahd (spAt sp x) (spAt sp y) = true) ∧ ∀ y, y < k + 1 → i < y → ahd (spAt sp i) (spAt sp y) = true) := by
                        show r = true ↔ _
                        rw [HR3.out]
                        constructor
                        · rintro ⟨h1, h2⟩
                          refine ⟨h1, fun y hy hiy => ?_⟩
                          by_cases e : y = k
                          · subst e; exact hA
                          · exact h2 y (by omega) hiy
                        · rintro ⟨h1, h2⟩
                          exact ⟨h1, fun y hy hiy => h2 y (by omega) hiy⟩
                      go_wp2_with fail
                      go_quiet (fail)
                      have MW : Hid (MatAt (wr.drewN nq) w2.heap.size sp.length sp.length R (fun x y => ahd (spAt sp x) (spAt sp y))) := HM3.out.below (by omega) (below_drewN (Below.refl _ _) nq)
                      have BK : Hid (Below W0.heap.size W0 (wr.drewN nq)) := below_drewN HB3.out nq
                      obtain ⟨b1, b2⟩ := MW.out.top i hli
                      simp only [if_pos hli] at b1
                      obtain ⟨b3, b4⟩ := MW.out.top k hlk
                      simp only [if_pos hlk] at b3
                      clear a1 a2 a3 a4 t1 t2
                      generalize wr.drewN nq = W2 at *
                      clear a5
                      have a5 := (MW.out.row i hli k hlk).1
                      simp only at a5
                      rw [hA] at a5
                      go_wp2_with fail
                      clear a5
                      go_loopw [16] (fun i wr => ∃ m : Nat, m ≤ sp.length ∧ i = .int .i64 m ∧ wr = W2) (fun i _ => sp.length - (intOf i).toNat)
                      case atStart => exact ⟨0, Nat.zero_le _, rfl, rfl⟩
                      case round =>
                        obtain ⟨q, hq, rfl, hwr⟩ := hrel
                        subst hwr
                        by_cases hlq : q < sp.length
                        · have q0 : (0 : Int) ≤ (q : Int) := Int.natCast_nonneg _
                          have q1 : (q : Int) < (sp.length : Int) := by omega
                          have c1 := (MW.out.row i hli k hlk).1
                          have c2 := (MW.out.row k hlk q hlq).1
                          have c3 := (MW.out.row i hli q hlq).1
                          simp only at c1 c2 c3
                          have T := htr.out i k q hli hlk
                          cases hAik : ahd (spAt sp i) (spAt sp k)
                          · rw [hAik] at c1
                            clear T
                            go_wp2_with fail
                            exact ⟨⟨q + 1, by omega, by go_num, trivial⟩, by simp [intOf]; omega⟩
                          · rw [hAik] at c1
                            cases hAkq : ahd (spAt sp k) (spAt sp q)
                            · rw [hAkq] at c2
                              clear T
                              go_wp2_with fail
                              exact ⟨⟨q + 1, by omega, by go_num, trivial⟩, by simp [intOf]; omega⟩
                            · rw [hAkq] at c2
                              rw [T hAik hAkq] at c3
                              clear T
                              go_wp2_with fail
                              exact ⟨⟨q + 1, by omega, by go_num, trivial⟩, by simp [intOf]; omega⟩
                        · go_wp2_with fail
                          exact ⟨⟨k + 1, r, by omega, by go_num, rfl, BK.out, NX.out⟩, by simp [intOf]; omega⟩
                    · have te : (thI == thK) = false := by simp [hth]
                      clear hth
                      have NX : Hid (r = true ↔ (∀ x y, x < i → x < y → y < sp.length → ahd (spAt sp x) (spAt sp y) = true) ∧ ∀ y, y < k + 1 → i < y → ahd (spAt sp i) (spAt sp y) = true) := by
                        show r = true ↔ _
                        rw [HR3.out]
                        constructor
                        · rintro ⟨h1, h2⟩
                          refine ⟨h1, fun y hy hiy => ?_⟩
                          by_cases e : y = k
                          · subst e; exact hA
                          · exact h2 y (by omega) hiy
                        · rintro ⟨h1, h2⟩
                          exact ⟨h1, fun y hy hiy => h2 y (by omega) hiy⟩
                      go_wp2_with fail
                      go_quiet (fail)
                      have MW : Hid (MatAt (wr.drewN nq) w2.heap.size sp.length sp.length R (fun x y => ahd (spAt sp x) (spAt sp y))) := HM3.out.below (by omega) (below_drewN (Below.refl _ _) nq)
                      have BK : Hid (Below W0.heap.size W0 (wr.drewN nq)) := below_drewN HB3.out nq
                      obtain ⟨b1, b2⟩ := MW.out.top i hli
                      simp only [if_pos hli] at b1
                      obtain ⟨b3, b4⟩ := MW.out.top k hlk
                      simp only [if_pos hlk] at b3
                      clear a1 a2 a3 a4 t1 t2
                      generalize wr.drewN nq = W2 at *
                      clear a5
                      have a5 := (MW.out.row i hli k hlk).1
                      simp only at a5
                      rw [hA] at a5
                      go_wp2_with fail
                      clear a5
                      go_loopw [16] (fun i wr => ∃ m : Nat, m ≤ sp.length ∧ i = .int .i64 m ∧ wr = W2) (fun i _ => sp.length - (intOf i).toNat)
                      case atStart => exact ⟨0, Nat.zero_le _, rfl, rfl⟩
                      case round =>
                        obtain ⟨q, hq, rfl, hwr⟩ := hrel
                        subst hwr
                        by_cases hlq : q < sp.length
                        · have q0 : (0 : Int) ≤ (q : Int) := Int.natCast_nonneg _
                          have q1 : (q : Int) < (sp.length : Int) := by omega
                          have c1 := (MW.out.row i hli k hlk).1
                          have c2 := (MW.out.row k hlk q hlq).1
                          have c3 := (MW.out.row i hli q hlq).1
                          simp only at c1 c2 c3
                          have T := htr.out i k q hli hlk
                          cases hAik : ahd (spAt sp i) (spAt sp k)
                          · rw [hAik] at c1
                            clear T
                            go_wp2_with fail
                            exact ⟨⟨q + 1, by omega, by go_num, trivial⟩, by simp [intOf]; omega⟩
                          · rw [hAik] at c1
                            cases hAkq : ahd (spAt sp k) (spAt sp q)
                            · rw [hAkq] at c2
                              clear T
                              go_wp2_with fail
                              exact ⟨⟨q + 1, by omega, by go_num, trivial⟩, by simp [intOf]; omega⟩
                            · rw [hAkq] at c2
                              rw [T hAik hAkq] at c3
                              clear T
                              go_wp2_with fail
                              exact ⟨⟨q + 1, by omega, by go_num, trivial⟩, by simp [intOf]; omega⟩
                        · go_wp2_with fail
                          exact ⟨⟨k + 1, r, by omega, by go_num, rfl, BK.out, NX.out⟩, by simp [intOf]; omega⟩
                · have hikI : (k : Int) ≤ (i : Int) := by omega
                  have hikB : decide ((i : Int) < (k : Int)) = false := by simp; omega
                  have a5 := (HM3.out.row i hli k hlk).1
                  simp only at a5
                  by_cases hth : thI = thK
                  · have te : (thI == thK) = true := by simp [hth]
                    clear hth
                    have NX : Hid (r = true ↔ (∀ x y, x < i → x < y → y < sp.length → ahd (spAt sp x) (spAt sp y) = true) ∧ ∀ y, y < k + 1 → i < y → ahd (spAt sp i) (spAt sp y) = true) := by
                      show r = true ↔ _
                      rw [HR3.out]
                      constructor
                      · rintro ⟨h1, h2⟩
                        refine ⟨h1, fun y hy hiy => ?_⟩
                        by_cases e : y = k
                        · subst e; omega
                        · exact h2 y (by omega) hiy
                      · rintro ⟨h1, h2⟩
                        exact ⟨h1, fun y hy hiy => h2 y (by omega) hiy⟩
                    go_wp2_with fail
                    go_quiet (fail)
                    have MW : Hid (MatAt (wr.drewN nq) w2.heap.size sp.length sp.length R (fun x y => ahd (spAt sp x) (spAt sp y))) := HM3.out.below (by omega) (below_drewN (Below.refl _ _) nq)
                    have BK : Hid (Below W0.heap.size W0 (wr.drewN nq)) := below_drewN HB3.out nq
                    obtain ⟨b1, b2⟩ := MW.out.top i hli
                    simp only [if_pos hli] at b1
                    obtain ⟨b3, b4⟩ := MW.out.top k hlk
                    simp only [if_pos hlk] at b3
                    clear a1 a2 a3 a4 t1 t2
                    generalize wr.drewN nq = W2 at *
                    clear a5
                    have a5 := (MW.out.row i hli k hlk).1
                    simp only at a5
                    go_wp2_with fail
                    clear a5
                    go_loopw [16] (fun i wr => ∃ m : Nat, m ≤ sp.length ∧ i = .int .i64 m ∧ wr = W2) (fun i _ => sp.length - (intOf i).toNat)
                    case atStart => exact ⟨0, Nat.zero_le _, rfl, rfl⟩
                    case round =>
                      obtain ⟨q, hq, rfl, hwr⟩ := hrel
                      subst hwr
                      by_cases hlq : q < sp.length
                      · have q0 : (0 : Int) ≤ (q : Int) := Int.natCast_nonneg _
                        have q1 : (q : Int) < (sp.length : Int) := by omega
                        have c1 := (MW.out.row i hli k hlk).1
                        have c2 := (MW.out.row k hlk q hlq).1
                        have c3 := (MW.out.row i hli q hlq).1
                        simp only at c1 c2 c3
                        have T := htr.out i k q hli hlk
                        cases hAik : ahd (spAt sp i) (spAt sp k)
                        · rw [hAik] at c1
                          clear T
                          go_wp2_with fail
                          exact ⟨⟨q + 1, by omega, by go_num, trivial⟩, by simp [intOf]; omega⟩
                        · rw [hAik] at c1
                          cases hAkq : ahd (spAt sp k) (spAt sp q)
                          · rw [hAkq] at c2
                            clear T
                            go_wp2_with fail
                            exact ⟨⟨q + 1, by omega, by go_num, trivial⟩, by simp [intOf]; omega⟩
                          · rw [hAkq] at c2
                            rw [T hAik hAkq] at c3
                            clear T
                            go_wp2_with fail
                            exact ⟨⟨q + 1, by omega, by go_num, trivial⟩, by simp [intOf]; omega⟩
                      · go_wp2_with fail
                        exact ⟨⟨k + 1, r, by omega, by go_num, rfl, BK.out, NX.out⟩, by simp [intOf]; omega⟩
                  · have te : (thI == thK) = false := by simp [hth]
                    clear hth
                    have NX : Hid (r = true ↔ (∀ x y, x < i → x < y → y < sp.length → ahd (spAt sp x) (spAt sp y) = true) ∧ ∀ y, y < k + 1 → i < y → ahd (spAt sp i) (spAt sp y) = true) := by
                      show r = true ↔ _
                      rw [HR3.out]
                      constructor
                      · rintro ⟨h1, h2⟩
                        refine ⟨h1, fun y hy hiy => ?_⟩
                        by_cases e : y = k
                        · subst e; omega
                        · exact h2 y (by omega) hiy
                      · rintro ⟨h1, h2⟩
                        exact ⟨h1, fun y hy hiy => h2 y (by omega) hiy⟩
                    go_wp2_with fail
                    go_quiet (fail)
                    have MW : Hid (MatAt (wr.drewN nq) w2.heap.size sp.length sp.length R (fun x y => ahd (spAt sp x) (spAt sp y))) := HM3.out.below (by omega) (below_drewN (Below.refl _ _) nq)
                    have BK : Hid (Below W0.heap.size W0 (wr.drewN nq)) := below_drewN HB3.out nq
                    obtain ⟨b1, b2⟩ := MW.out.top i hli
                    simp only [if_pos hli] at b1
                    obtain ⟨b3, b4⟩ := MW.out.top k hlk
                    simp only [if_pos hlk] at b3
                    clear a1 a2 a3 a4 t1 t2
                    generalize wr.drewN nq = W2 at *
                    clear a5
                    have a5 := (MW.out.row i hli k hlk).1
                    simp only at a5
                    go_wp2_with fail
                    clear a5
                    go_loopw [16] (fun i wr => ∃ m : Nat, m ≤ sp.length ∧ i = .int .i64 m ∧ wr = W2) (fun i _ => sp.length - (intOf i).toNat)
                    case atStart => exact ⟨0, Nat.zero_le _, rfl, rfl⟩
                    case round =>
                      obtain ⟨q, hq, rfl, hwr⟩ := hrel
                      subst hwr
                      by_cases hlq : q < sp.length
                      · have q0 : (0 : Int) ≤ (q : Int) := Int.natCast_nonneg _
                        have q1 : (q : Int) < (sp.length : Int) := by omega
                        have c1 := (MW.out.row i hli k hlk).1
                        have c2 := (MW.out.row k hlk q hlq).1
                        have c3 := (MW.out.row i hli q hlq).1
                        simp only at c1 c2 c3
                        have T := htr.out i k q hli hlk
                        cases hAik : ahd (spAt sp i) (spAt sp k)
                        · rw [hAik] at c1
                          clear T
                          go_wp2_with fail
                          exact ⟨⟨q + 1, by omega, by go_num, trivial⟩, by simp [intOf]; omega⟩
                        · rw [hAik] at c1
                          cases hAkq : ahd (spAt sp k) (spAt sp q)
                          · rw [hAkq] at c2
                            clear T
                            go_wp2_with fail
                            exact ⟨⟨q + 1, by omega, by go_num, trivial⟩, by simp [intOf]; omega⟩
                          · rw [hAkq] at c2
                            rw [T hAik hAkq] at c3
                            clear T
                            go_wp2_with fail
                            exact ⟨⟨q + 1, by omega, by go_num, trivial⟩, by simp [intOf]; omega⟩
                      · go_wp2_with fail
                        exact ⟨⟨k + 1, r, by omega, by go_num, rfl, BK.out, NX.out⟩, by simp [intOf]; omega⟩
              · obtain rfl : k = sp.length := by omega
                have NX : Hid (r = true ↔ ∀ x y, x < i + 1 → x < y → y < sp.length → ahd (spAt sp x) (spAt sp y) = true) := by
                  show r = true ↔ _
                  rw [HR3.out]
                  constructor
                  · rintro ⟨h1, h2⟩ x y hx hxy hy
                    by_cases e : x = i
                    · subst e; exact h2 y hy hxy
                    · exact h1 x y (by omega) hxy hy
                  · intro h
                    exact ⟨fun x y hx => h x y (by omega), fun y hy hiy => h i y (by omega) hiy hy⟩
                go_wp2_with fail
                exact ⟨⟨i + 1, r, by omega, by go_num, rfl, HB3.out, NX.out⟩, by simp [intOf]; omega⟩
          · have hisp : Hid (i = sp.length) := by show i = sp.length; omega
            go_wp2_with fail
            have BW : Hid (Below w.heap.size w W1) := (B2.out.trans (HW.out.mono B2.out.size)).trans (HB2.out.mono (B2.out.trans (HW.out.mono B2.out.size)).size)
            refine (Row_any base b o c hs0 pb pc pg po _ (HA.out.below BW.out)).mono ?_
            rw [HRB.out, HE.out]
            rintro e w5 ⟨rfl, hb5⟩
            have B5 : Hid _ := BW.out.trans (hb5.mono BW.out.size)
            clear hb5
            go_wp2_with fail
            refine (Ahead_any base b o c hs0 pb pc pg po _ (HA.out.below B5.out) sp.length 0).mono ?_
            rw [hout.out]
            rintro e w6 ⟨rfl, hb6⟩
            have B6 : Hid _ := B5.out.trans (hb6.mono B5.out.size)
            clear hb6
            have hrr : rowB = r := by
              have a := hrow.out
              have b := HR2.out
              rw [hisp.out] at b
              cases rowB <;> cases r
              · rfl
              · have := a.2 (fun i k hik hk => b.1 rfl i k (by omega) hik hk); cases this
              · have := b.2 (fun x y hx hxy hy => a.1 rfl x y hxy hy); cases this
              · rfl
            subst hrr
            have qq : (rowB == rowB) = true := by simp
            go_wp2_with fail
            go_ret
            exact ⟨rfl, B6.out⟩
  · have hn : (hErr hs0 != 0) = true := by simp [he]
    have F : Hid (aheadA hs0 0 0 = (false, hErr hs0)) := by show aheadA hs0 0 0 = _; unfold aheadA; rw [if_pos he]
    obtain rfl := hv2 he
    clear he ho2 hv2
    go_wp2_with fail
    refine (Ahead_any base b o c hs0 pb pc pg po _ (HA.out.below B2.out) 0 0).mono ?_
    rw [F.out]
    rintro e w3 ⟨rfl, hb3⟩
    go_wp2_with fail
    go_ret
    exact ⟨rfl, B2.out.trans (hb3.mono B2.out.size)⟩

set_option maxRecDepth 100000 in
set_option maxHeartbeats 4000000 in
theorem ahead_long (base : Option Addr) (b o c : Nat) (hs0 hs : List EvD) (pb : Nat → Option Addr) (pc pg po : Nat → Nat) (w : World) (h0 : EvsAt w base b o hs pb pc pg po) (hcap : hs0.length ≤ c) (hl : 60 < hs0.length) (hhs : hs.length = 60) :
    Calls Try.prog 9 #[.slice base hs0.length c] w fun e w' => e = .returned (.bool true) ∧ Below w.heap.size w w' := by
  have HA : Hid _ := h0
  clear h0
  have hli : (60 : Int) < (hs0.length : Int) := by omega
  have HH : Hid _ := hhs
  have hl2 : hs.length ≤ 60 := by omega
  clear hhs
  go_enter Try.func9, Try.ntmps9
  go_wp2_with fail
  refine (known_any _).mono ?_
  rintro e w1 ⟨rfl, hb1⟩
  have B1 : Hid _ := hb1
  clear hb1
  go_wp2_with fail
  rw [show (60 : Nat) = hs.length from HH.out.symm]
  refine (Calls_any base b o c hs pb pc pg po _ (HA.out.below B1.out)).mono ?_
  rintro e w2 ⟨v, rfl, hb2, hv2, ho2⟩
  have B2 : Hid _ := B1.out.trans (hb2.mono B1.out.size)
  clear hb2
  by_cases he : hErr hs = 0
  · have hn : (hErr hs != 0) = false := by simp [he]
    obtain ⟨hbn, s, hst, hsl⟩ := hErr_zero he
    have hok := stN_ok hst
    have hwd := wd_inv hst
    obtain ⟨g, l, hg1, hg2, rfl, hm, hca, _⟩ := ho2 he
    have hln : (spansL hs).length ≤ 60 := by rw [hsl]; have := hok.len; omega
    have hself : Hid (∀ i, i < (spansL hs).length → ahd (spAt (spansL hs) i) (spAt (spansL hs) i) = false) := by
      intro i hi
      rw [hsl] at hi ⊢
      unfold ahd
      rcases hok.to i hi with q | q
      · simp [q]
      · have : ¬ (spAt s.spans i).2 < ((spAt s.spans i).1 : Int) := by omega
        simp [this]
    have hthr : Hid (∀ i k, i < k → k < (spansL hs).length → (evAt hs (spAt (spansL hs) i).1).th = (evAt hs (spAt (spansL hs) k).1).th → ahd (spAt (spansL hs) i) (spAt (spansL hs) k) = true) := by
      intro i k hik hk he
      rw [hsl] at hk he ⊢
      exact ahd_true.2 (hok.row i k hik hk he)
    have htr : Hid (∀ i k m, i < (spansL hs).length → k < (spansL hs).length → ahd (spAt (spansL hs) i) (spAt (spansL hs) k) = true → ahd (spAt (spansL hs) k) (spAt (spansL hs) m) = true → ahd (spAt (spansL hs) i) (spAt (spansL hs) m) = true) := by
      intro i k m hi hk h1 h2
      rw [hsl] at hi hk
      rw [ahd_true] at h1 h2 ⊢
      rw [hsl] at h1 h2 ⊢
      refine ⟨h1.1, ?_⟩
      rcases hok.to k hk with q | q
      · exact absurd q h2.1
      · omega
    have hrow : Hid ((decide (hErr hs = 0) && decide (widthA hs ≤ 1)) = true ↔ allAhd (spansL hs)) := by
      rw [show widthA hs = (wdN hs hs.length).2 by unfold widthA; rw [if_pos he], he, hsl]
      simp only [decide_true, Bool.true_and, decide_eq_true_eq]
      exact hwd.2.2
    have hahd : Hid (∀ i k : Nat, i < (spansL hs).length → k < (spansL hs).length → aheadA hs i k = (ahd (spAt (spansL hs) i) (spAt (spansL hs) k), 0)) := by
      intro i k hi hk
      unfold aheadA; rw [if_neg (by simp [he]), if_pos (by omega)]; rfl
    have hout : Hid (aheadA hs ((spansL hs).length : Int) 0 = (false, 1)) := by
      show aheadA hs ((spansL hs).length : Int) 0 = (false, 1)
      unfold aheadA; rw [if_neg (by simp [he]), if_neg (by omega)]
    have HE : Hid _ := he
    have HC : Hid _ := hca
    have HM : Hid _ := hm
    clear he hst hsl hbn hok hwd hca hm hv2 ho2 hg1
    generalize spansL hs = sp at *
    obtain ⟨rowB, hrowB⟩ : ∃ rowB, (decide (hErr hs = 0) && decide (widthA hs ≤ 1)) = rowB := ⟨_, rfl⟩
    have HRB : Hid _ := hrowB
    rw [hrowB] at hrow
    clear hrowB
    have hll : l.length = sp.length := by rw [← HM.out, List.length_map]
    have hm1 : ∀ w : World, (Instr.makeSlice 66 (.int .i64 sp.length) (.int .i64 sp.length)).run Try.prog w = .ok (.slice (some ⟨w.heap.size, 0, none⟩) sp.length sp.length) (w.alloc (.cells (madeCells #[.slice none 0 0] (sp.length * 1)) 67)) := fun w => run_make_known (P := Try.prog) 66 67 (.slice none 0 0) 1 24 bss_under bss_info sp.length (by omega) (by omega) w
    have hm2 : ∀ w : World, (Instr.makeSlice 67 (.int .i64 sp.length) (.int .i64 sp.length)).run Try.prog w = .ok (.slice (some ⟨w.heap.size, 0, none⟩) sp.length sp.length) (w.alloc (.cells (madeCells #[.bool false] (sp.length * 1)) 4)) := fun w => run_make_known (P := Try.prog) 67 4 (.bool false) 1 1 bs_under b_info sp.length (by omega) (by omega) w
    have HLL : Hid _ := hll
    clear hll
    go_wp2_with fail
    go_loopw [10] (fun i wr => ∃ (m : Nat) (R : Nat → Nat), m ≤ sp.length ∧ i = .int .i64 m ∧ Below w2.heap.size w2 wr ∧ w2.heap.size < wr.heap.size ∧ MatAt wr w2.heap.size sp.length m R (fun x y => ahd (spAt sp x) (spAt sp y))) (fun i _ => sp.length - (intOf i).toNat)
    case atStart =>
      exact ⟨0, fun _ => 0, Nat.zero_le _, rfl, below_alloc _ _, by simp, ⟨(Vals.made w2 _ _ (.slice none 0 0)).fn (fun x _ => by simp), fun x hx => by omega, fun x hx => by omega⟩⟩
    case round =>
      obtain ⟨m, R, hm, rfl, hbw, hsz, hMat⟩ := hrel
      have HW : Hid _ := hbw
      have HMt : Hid _ := hMat
      clear hbw hMat
      generalize wr = W0 at *
      by_cases hlt : m < sp.length
      · have m0 : (0 : Int) ≤ (m : Int) := Int.natCast_nonneg _
        have m1 : (m : Int) < (sp.length : Int) := by omega
        obtain ⟨x0, x1⟩ := HMt.out.top m hlt
        simp only [Nat.lt_irrefl, if_false] at x0
        go_wp2_with fail
        go_loopw [11] (fun i wr => ∃ k : Nat, k ≤ sp.length ∧ i = .int .i64 k ∧ Below w2.heap.size w2 wr ∧ MatTo wr w2.heap.size sp.length m k W0.heap.size R (fun x y => ahd (spAt sp x) (spAt sp y))) (fun i _ => sp.length - (intOf i).toNat)
        case atStart =>
          refine ⟨0, Nat.zero_le _, rfl, ?_, HMt.out.new hsz⟩
          exact (HW.out.setCell (by simp) _).alloc (by simp; have := HW.out.size; omega) _
        case round =>
          obtain ⟨k, hk, rfl, hbw, hMat⟩ := hrel
          have HW2 : Hid _ := hbw
          have HMt2 : Hid _ := hMat
          clear hbw hMat
          by_cases hlk : k < sp.length
          · have k0 : (0 : Int) ≤ (k : Int) := Int.natCast_nonneg _
            have k1 : (k : Int) < (sp.length : Int) := by omega
            go_wp2_with fail
            refine (Ahead_any base b o c hs pb pc pg po _ (HA.out.below (B2.out.trans (HW2.out.mono B2.out.size))) m k).mono ?_
            rw [hahd.out m k hlt hlk]
            rintro e w3 ⟨rfl, hb3⟩
            have M3 : Hid _ := HMt2.out.below hb3
            have B3 : Hid _ := HW2.out.trans (hb3.mono HW2.out.size)
            clear hb3
            obtain ⟨y0, y1⟩ := M3.out.top m hlt
            simp only [Nat.lt_irrefl, if_false, if_true] at y0
            obtain ⟨z0, z1⟩ := M3.out.at_ k hlk
            have hh := M3.out.hi
            go_wp2_with fail
            exact ⟨⟨k + 1, by omega, by go_num, B3.out.setCell (by simp; omega) _, M3.out.put⟩, by simp [intOf]; omega⟩
          · obtain rfl : k = sp.length := by omega
            go_wp2_with fail
            have hh := HMt2.out.hi
            exact ⟨⟨m + 1, _, by omega, by go_num, HW2.out, by omega, HMt2.out.done⟩, by simp [intOf]; omega⟩
      · obtain rfl : m = sp.length := by omega
        go_wp2_with fail
        go_loopw [9, 14] (fun al i wr => ∃ (i' : Nat) (r : Bool), i' ≤ sp.length ∧ i = .int .i64 i' ∧ al = .bool r ∧ Below W0.heap.size W0 wr ∧ (r = true ↔ ∀ x y, x < i' → x < y → y < sp.length → ahd (spAt sp x) (spAt sp y) = true)) (fun _ i _ => sp.length - (intOf i).toNat)
        case atStart => exact ⟨0, true, Nat.zero_le _, rfl, rfl, Below.refl _ _, ⟨fun _ x y hx => by omega, fun _ => rfl⟩⟩
        case round =>
          obtain ⟨i, r, hi, rfl, rfl, hbw2, hr⟩ := hrel
          have HB2 : Hid _ := hbw2
          have HR2 : Hid _ := hr
          clear hbw2 hr
          generalize wr = W1 at *
          by_cases hli : i < sp.length
          · have i0 : (0 : Int) ≤ (i : Int) := Int.natCast_nonneg _
            have i1 : (i : Int) < (sp.length : Int) := by omega
            have MT := HMt.out.below hsz HB2.out
            obtain ⟨a1, a2⟩ := MT.top i hli
            simp only [if_pos hli] at a1
            have a5 := (MT.row i hli i hli).1
            simp only at a5
            rw [hself.out i hli] at a5
            clear MT
            go_wp2_with fail
            clear a1 a2 a5
            go_loopw [9, 15] (fun al j wr => ∃ (k : Nat) (r : Bool), k ≤ sp.length ∧ j = .int .i64 k ∧ al = .bool r ∧ Below W0.heap.size W0 wr ∧ (r = true ↔ (∀ x y, x < i → x < y → y < sp.length → ahd (spAt sp x) (spAt sp y) = true) ∧ ∀ y, y < k → i < y → ahd (spAt sp i) (spAt sp y) = true)) (fun _ i _ => sp.length - (intOf i).toNat)
            case atStart => exact ⟨0, r, Nat.zero_le _, rfl, rfl, HB2.out, ⟨fun h => ⟨HR2.out.1 h, fun y hy => by omega⟩, fun h => HR2.out.2 h.1⟩⟩
            case round =>
              obtain ⟨k, r, hk, rfl, rfl, hbw3, hr3⟩ := hrel
              have HB3 : Hid _ := hbw3
              have HR3 : Hid _ := hr3
              clear hbw3 hr3
              by_cases hlk : k < sp.length
              · have k0 : (0 : Int) ≤ (k : Int) := Int.natCast_nonneg _
                have k1 : (k : Int) < (sp.length : Int) := by omega
                have hz3 := HB3.out.size
                have hz4 := HW.out.size
                have HM3 : Hid (MatAt wr w2.heap.size sp.length sp.length R (fun x y => ahd (spAt sp x) (spAt sp y))) := HMt.out.below hsz HB3.out
                have CA := (HC.out.below HW.out).below HB3.out
                obtain ⟨xi, hxi, exi, _⟩ := getE_of_map HM.out hli
                obtain ⟨xk, hxk, exk, _⟩ := getE_of_map HM.out hlk
                have t1 := CA.cells i xi hxi 0 (by omega)
                have t2 := CA.cells k xk hxk 0 (by omega)
                simp only [callC, List.getElem?_cons_zero, Nat.add_zero] at t1 t2
                rw [exi] at t1
                rw [exk] at t2
                clear CA hxi hxk exi exk
                have hthr' := hthr.out i k
                obtain ⟨thI, hthI⟩ : ∃ thI, thI = (evAt hs (spAt sp i).1).th := ⟨_, rfl⟩
                obtain ⟨thK, hthK⟩ : ∃ thK, thK = (evAt hs (spAt sp k).1).th := ⟨_, rfl⟩
                rw [← hthI] at t1 hthr'
                rw [← hthK] at t2 hthr'
                clear hthI hthK
                obtain ⟨a1, a2⟩ := HM3.out.top i hli
                simp only [if_pos hli] at a1
                obtain ⟨a3, a4⟩ := HM3.out.top k hlk
                simp only [if_pos hlk] at a3
                have HTH : Hid _ := hthr'
                clear hthr'
                by_cases hik : i < k
                · have hikI : (i : Int) < (k : Int) := by omega
                  have hikB : decide ((i : Int) < (k : Int)) = true := by simp; omega
                  cases hA : ahd (spAt sp i) (spAt sp k)
                  · have hth : thI ≠ thK := by
                      intro e
                      have := HTH.out hik hlk e
                      rw [hA] at this; cases this
                    have a5 := (HM3.out.row i hli k hlk).1
                    simp only at a5
                    rw [hA] at a5
                    have te : (thI == thK) = false := by simp [hth]
                    clear hth
                    have NX : Hid (false = true ↔ (∀ x y, x < i → x < y → y < sp.length → ahd (spAt sp x) (spAt sp y) = true) ∧ ∀ y, y < k + 1 → i < y → ahd (spAt sp i) (spAt sp y) = true) := by
                      show false = true ↔ _
                      constructor
                      · intro h; cases h
                      · rintro ⟨_, h2⟩
                        have := h2 k (by omega) hik
                        rw [hA] at this; cases this
                    go_wp2_with fail
                    go_quiet (fail)
                    have MW : Hid (MatAt (wr.drewN nq) w2.heap.size sp.length sp.length R (fun x y => ahd (spAt sp x) (spAt sp y))) := HM3.out.below (by omega) (below_drewN (Below.refl _ _) nq)
                    have BK : Hid (Below W0.heap.size W0 (wr.drewN nq)) := below_drewN HB3.out nq
                    obtain ⟨b1, b2⟩ := MW.out.top i hli
                    simp only [if_pos hli] at b1
                    obtain ⟨b3, b4⟩ := MW.out.top k hlk
                    simp only [if_pos hlk] at b3
                    clear a1 a2 a3 a4 t1 t2
                    generalize wr.drewN nq = W2 at *
                    clear a5
                    have a5 := (MW.out.row i hli k hlk).1
                    simp only at a5
                    rw [hA] at a5
                    go_wp2_with fail
                    clear a5
                    go_loopw [16] (fun i wr => ∃ m : Nat, m ≤ sp.length ∧ i = .int .i64 m ∧ wr = W2) (fun i _ => sp.length - (intOf i).toNat)
                    case atStart => exact ⟨0, Nat.zero_le _, rfl, rfl⟩
                    case round =>
                      obtain ⟨q, hq, rfl, hwr⟩ := hrel
                      subst hwr
                      by_cases hlq : q < sp.length
                      · have q0 : (0 : Int) ≤ (q : Int) := Int.natCast_nonneg _
                        have q1 : (q : Int) < (sp.length : Int) := by omega
                        have c1 := (MW.out.row i hli k hlk).1
                        have c2 := (MW.out.row k hlk q hlq).1
                        have c3 := (MW.out.row i hli q hlq).1
                        simp only at c1 c2 c3
                        have T := htr.out i k q hli hlk
                        cases hAik : ahd (spAt sp i) (spAt sp k)
                        · rw [hAik] at c1
                          clear T
                          go_wp2_with fail
                          exact ⟨⟨q + 1, by omega, by go_num, trivial⟩, by simp [intOf]; omega⟩
                        · rw [hAik] at c1
                          cases hAkq : ahd (spAt sp k) (spAt sp q)
                          · rw [hAkq] at c2
                            clear T
                            go_wp2_with fail
                            exact ⟨⟨q + 1, by omega, by go_num, trivial⟩, by simp [intOf]; omega⟩
                          · rw [hAkq] at c2
                            rw [T hAik hAkq] at c3
                            clear T
                            go_wp2_with fail
                            exact ⟨⟨q + 1, by omega, by go_num, trivial⟩, by simp [intOf]; omega⟩
                      · go_wp2_with fail
                        exact ⟨⟨k + 1, false, by omega, by go_num, rfl, BK.out, NX.out⟩, by simp [intOf]; omega⟩
                  · have a5 := (HM3.out.row i hli k hlk).1
                    simp only at a5
                    rw [hA] at a5
                    by_cases hth : thI = thK
                    · have te : (thI == thK) = true := by simp [hth]
                      clear hth
                      have NX : Hid (r = true ↔ (∀ x y, x < i → x < y → y < sp.length → ahd (spAt sp x) (spAt sp y) = true) ∧ ∀ y, y < k + 1 → i < y → ahd (spAt sp i) (spAt sp y) = true) := by
                        show r = true ↔ _
                        rw [HR3.out]
                        constructor
                        · rintro ⟨h1, h2⟩
                          refine ⟨h1, fun y hy hiy => ?_⟩
                          by_cases e : y = k
                          · subst e; exact hA
                          · exact h2 y (by omega) hiy
                        · rintro ⟨h1, h2⟩
                          exact ⟨h1, fun y hy hiy => h2 y (by omega) hiy⟩
                      go_wp2_with fail
                      go_quiet (fail)
                      have MW : Hid (MatAt (wr.drewN nq) w2.heap.size sp.length sp.length R (fun x y => ahd (spAt sp x) (spAt sp y))) := HM3.out.below (by omega) (below_drewN (Below.refl _ _) nq)
                      have BK : Hid (Below W0.heap.size W0 (wr.drewN nq)) := below_drewN HB3.out nq
                      obtain ⟨b1, b2⟩ := MW.out.top i hli
                      simp only [if_pos hli] at b1
                      obtain ⟨b3, b4⟩ := MW.out.top k hlk
                      simp only [if_pos hlk] at b3
                      clear a1 a2 a3 a4 t1 t2
                      generalize wr.drewN nq = W2 at *
                      clear a5
                      have a5 := (MW.out.row i hli k hlk).1
                      simp only at a5
                      rw [hA] at a5
                      go_wp2_with fail
                      clear a5
                      go_loopw [16] (fun i wr => ∃ m : Nat, m ≤ sp.length ∧ i = .int .i64 m ∧ wr = W2) (fun i _ => sp.length - (intOf i).toNat)
                      case atStart => exact ⟨0, Nat.zero_le _, rfl, rfl⟩
                      case round =>
                        obtain ⟨q, hq, rfl, hwr⟩ := hrel
                        subst hwr
                        by_cases hlq : q < sp.length
                        · have q0 : (0 : Int) ≤ (q : Int) := Int.natCast_nonneg _
                          have q1 : (q : Int) < (sp.length : Int) := by omega
                          have c1 := (MW.out.row i hli k hlk).1
                          have c2 := (MW.out.row k hlk q hlq).1
                          have c3 := (MW.out.row i hli q hlq).1
                          simp only at c1 c2 c3
                          have T := htr.out i k q hli hlk
                          cases hAik : ahd (spAt sp i) (spAt sp k)
                          · rw [hAik] at c1
                            clear T
                            go_wp2_with fail
                            exact ⟨⟨q + 1, by omega, by go_num, trivial⟩, by simp [intOf]; omega⟩
                          · rw [hAik] at c1
                            cases hAkq : ahd (spAt sp k) (spAt sp q)
                            · rw [hAkq] at c2
                              clear T
                              go_wp2_with fail
                              exact ⟨⟨q + 1, by omega, by go_num, trivial⟩, by simp [intOf]; omega⟩
                            · rw [hAkq] at c2
                              rw [T hAik hAkq] at c3
                              clear T
                              go_wp2_with fail
                              exact ⟨⟨q + 1, by omega, by go_num, trivial⟩, by simp [intOf]; omega⟩
                        · go_wp2_with fail
                          exact ⟨⟨k + 1, r, by omega, by go_num, rfl, BK.out, NX.out⟩, by simp [intOf]; omega⟩
                    · have te : (thI == thK) = false := by simp [hth]
                      clear hth
                      have NX : Hid (r = true ↔ (∀ x y, x < i → x < y → y < sp.length → ahd (spAt sp x) (spAt sp y) = true) ∧ ∀ y, y < k + 1 → i < y → ahd (spAt sp i) (spAt sp y) = true) := by
                        show r = true ↔ _
                        rw [HR3.out]
                        constructor
                        · rintro ⟨h1, h2⟩
                          refine ⟨h1, fun y hy hiy => ?_⟩
                          by_cases e : y = k
                          · subst e; exact hA
                          · exact h2 y (by omega) hiy
                        · rintro ⟨h1, h2⟩
                          exact ⟨h1, fun y hy hiy => h2 y (by omega) hiy⟩
                      go_wp2_with fail
                      go_quiet (fail)
                      have MW : Hid (MatAt (wr.drewN nq) w2.heap.size sp.length sp.length R (fun x y => ahd (spAt sp x) (spAt sp y))) := HM3.out.below (by omega) (below_drewN (Below.refl _ _) nq)
                      have BK : Hid (Below W0.heap.size W0 (wr.drewN nq)) := below_drewN HB3.out nq
                      obtain ⟨b1, b2⟩ := MW.out.top i hli
                      simp only [if_pos hli] at b1
                      obtain ⟨b3, b4⟩ := MW.out.top k hlk
                      simp only [if_pos hlk] at b3
                      clear a1 a2 a3 a4 t1 t2
                      generalize wr.drewN nq = W2 at *
                      clear a5
                      have a5 := (MW.out.row i hli k hlk).1
                      simp only at a5
                      rw [hA] at a5
                      go_wp2_with fail
                      clear a5
                      go_loopw [16] (fun i wr => ∃ m : Nat, m ≤ sp.length ∧ i = .int .i64 m ∧ wr = W2) (fun i _ => sp.length - (intOf i).toNat)
                      case atStart => exact ⟨0, Nat.zero_le _, rfl, rfl⟩
                      case round =>
                        obtain ⟨q, hq, rfl, hwr⟩ := hrel
                        subst hwr
                        by_cases hlq : q < sp.length
                        · have q0 : (0 : Int) ≤ (q : Int) := Int.natCast_nonneg _
                          have q1 : (q : Int) < (sp.length : Int) := by omega
                          have c1 := (MW.out.row i hli k hlk).1
                          have c2 := (MW.out.row k hlk q hlq).1
                          have c3 := (MW.out.row i hli q hlq).1
                          simp only at c1 c2 c3
                          have T := htr.out i k q hli hlk
                          cases hAik : ahd (spAt sp i) (spAt sp k)
                          · rw [hAik] at c1
                            clear T
                            go_wp2_with fail
                            exact ⟨⟨q + 1, by omega, by go_num, trivial⟩, by simp [intOf]; omega⟩
                          · rw [hAik] at c1
                            cases hAkq : ahd (spAt sp k) (spAt sp q)
                            · rw [hAkq] at c2
                              clear T
                              go_wp2_with fail
                              exact ⟨⟨q + 1, by omega, by go_num, trivial⟩, by simp [intOf]; omega⟩
                            · rw [hAkq] at c2
                              rw [T hAik hAkq] at c3
                              clear T
                              go_wp2_with fail
                              exact ⟨⟨q + 1, by omega, by go_num, trivial⟩, by simp [intOf]; omega⟩
                        · go_wp2_with fail
                          exact ⟨⟨k + 1, r, by omega, by go_num, rfl, BK.out, NX.out⟩, by simp [intOf]; omega⟩
                · have hikI : (k : Int) ≤ (i : Int) := by omega
                  have hikB : decide ((i : Int) < (k : Int)) = false := by simp; omega
                  have a5 := (HM3.out.row i hli k hlk).1
                  simp only at a5
                  by_cases hth : thI = thK
                  · have te : (thI == thK) = true := by simp [hth]
                    clear hth
                    have NX : Hid (r = true ↔ (∀ x y, x < i → x < y → y < sp.length → ahd (spAt sp x) (spAt sp y) = true) ∧ ∀ y, y < k + 1 → i < y → ahd (spAt sp i) (spAt sp y) = true) := by
                      show r = true ↔ _
                      rw [HR3.out]
                      constructor
                      · rintro ⟨h1, h2⟩
                        refine ⟨h1, fun y hy hiy => ?_⟩
                        by_cases e : y = k
                        · subst e; omega
                        · exact h2 y (by omega) hiy
                      · rintro ⟨h1, h2⟩
                        exact ⟨h1, fun y hy hiy => h2 y (by omega) hiy⟩
                    go_wp2_with fail
                    go_quiet (fail)
                    have MW : Hid (MatAt (wr.drewN nq) w2.heap.size sp.length sp.length R (fun x y => ahd (spAt sp x) (spAt sp y))) := HM3.out.below (by omega) (below_drewN (Below.refl _ _) nq)
                    have BK : Hid (Below W0.heap.size W0 (wr.drewN nq)) := below_drewN HB3.out nq
                    obtain ⟨b1, b2⟩ := MW.out.top i hli
                    simp only [if_pos hli] at b1
                    obtain ⟨b3, b4⟩ := MW.out.top k hlk
                    simp only [if_pos hlk] at b3
                    clear a1 a2 a3 a4 t1 t2
                    generalize wr.drewN nq = W2 at *
                    clear a5
                    have a5 := (MW.out.row i hli k hlk).1
                    simp only at a5
                    go_wp2_with fail
                    clear a5
                    go_loopw [16] (fun i wr => ∃ m : Nat, m ≤ sp.length ∧ i = .int .i64 m ∧ wr = W2) (fun i _ => sp.length - (intOf i).toNat)
                    case atStart => exact ⟨0, Nat.zero_le _, rfl, rfl⟩
                    case round =>
                      obtain ⟨q, hq, rfl, hwr⟩ := hrel
                      subst hwr
                      by_cases hlq : q < sp.length
                      · have q0 : (0 : Int) ≤ (q : Int) := Int.natCast_nonneg _
                        have q1 : (q : Int) < (sp.length : Int) := by omega
                        have c1 := (MW.out.row i hli k hlk).1
                        have c2 := (MW.out.row k hlk q hlq).1
                        have c3 := (MW.out.row i hli q hlq).1
                        simp only at c1 c2 c3
                        have T := htr.out i k q hli hlk
                        cases hAik : ahd (spAt sp i) (spAt sp k)
                        · rw [hAik] at c1
                          clear T
                          go_wp2_with fail
                          exact ⟨⟨q + 1, by omega, by go_num, trivial⟩, by simp [intOf]; omega⟩
                        · rw [hAik] at c1
                          cases hAkq : ahd (spAt sp k) (spAt sp q)
                          · rw [hAkq] at c2
                            clear T
                            go_wp2_with fail
                            exact ⟨⟨q + 1, by omega, by go_num, trivial⟩, by simp [intOf]; omega⟩
                          · rw [hAkq] at c2
                            rw [T hAik hAkq] at c3
                            clear T
                            go_wp2_with fail
                            exact ⟨⟨q + 1, by omega, by go_num, trivial⟩, by simp [intOf]; omega⟩
                      · go_wp2_with fail
                        exact ⟨⟨k + 1, r, by omega, by go_num, rfl, BK.out, NX.out⟩, by simp [intOf]; omega⟩
                  · have te : (thI == thK) = false := by simp [hth]
                    clear hth
                    have NX : Hid (r = true ↔ (∀ x y, x < i → x < y → y < sp.length → ahd (spAt sp x) (spAt sp y) = true) ∧ ∀ y, y < k + 1 → i < y → ahd (spAt sp i) (spAt sp y) = true) := by
                      show r = true ↔ _
                      rw [HR3.out]
                      constructor
                      · rintro ⟨h1, h2⟩
                        refine ⟨h1, fun y hy hiy => ?_⟩
                        by_cases e : y = k
                        · subst e; omega
                        · exact h2 y (by omega) hiy
                      · rintro ⟨h1, h2⟩
                        exact ⟨h1, fun y hy hiy => h2 y (by omega) hiy⟩
                    go_wp2_with fail
                    go_quiet (fail)
                    have MW : Hid (MatAt (wr.drewN nq) w2.heap.size sp.length sp.length R (fun x y => ahd (spAt sp x) (spAt sp y))) := HM3.out.below (by omega) (below_drewN (Below.refl _ _) nq)
                    have BK : Hid (Below W0.heap.size W0 (wr.drewN nq)) := below_drewN HB3.out nq
                    obtain ⟨b1, b2⟩ := MW.out.top i hli
                    simp only [if_pos hli] at b1
                    obtain ⟨b3, b4⟩ := MW.out.top k hlk
                    simp only [if_pos hlk] at b3
                    clear a1 a2 a3 a4 t1 t2
                    generalize wr.drewN nq = W2 at *
                    clear a5
                    have a5 := (MW.out.row i hli k hlk).1
                    simp only at a5
                    go_wp2_with fail
                    clear a5
                    go_loopw [16] (fun i wr => ∃ m : Nat, m ≤ sp.length ∧ i = .int .i64 m ∧ wr = W2) (fun i _ => sp.length - (intOf i).toNat)
                    case atStart => exact ⟨0, Nat.zero_le _, rfl, rfl⟩
                    case round =>
                      obtain ⟨q, hq, rfl, hwr⟩ := hrel
                      subst hwr
                      by_cases hlq : q < sp.length
                      · have q0 : (0 : Int) ≤ (q : Int) := Int.natCast_nonneg _
                        have q1 : (q : Int) < (sp.length : Int) := by omega
                        have c1 := (MW.out.row i hli k hlk).1
                        have c2 := (MW.out.row k hlk q hlq).1
                        have c3 := (MW.out.row i hli q hlq).1
                        simp only at c1 c2 c3
                        have T := htr.out i k q hli hlk
                        cases hAik : ahd (spAt sp i) (spAt sp k)
                        · rw [hAik] at c1
                          clear T
                          go_wp2_with fail
                          exact ⟨⟨q + 1, by omega, by go_num, trivial⟩, by simp [intOf]; omega⟩
                        · rw [hAik] at c1
                          cases hAkq : ahd (spAt sp k) (spAt sp q)
                          · rw [hAkq] at c2
                            clear T
                            go_wp2_with fail
                            exact ⟨⟨q + 1, by omega, by go_num, trivial⟩, by simp [intOf]; omega⟩
                          · rw [hAkq] at c2
                            rw [T hAik hAkq] at c3
                            clear T
                            go_wp2_with fail
                            exact ⟨⟨q + 1, by omega, by go_num, trivial⟩, by simp [intOf]; omega⟩
                      · go_wp2_with fail
                        exact ⟨⟨k + 1, r, by omega, by go_num, rfl, BK.out, NX.out⟩, by simp [intOf]; omega⟩
              · obtain rfl : k = sp.length := by omega
                have NX : Hid (r = true ↔ ∀ x y, x < i + 1 → x < y → y < sp.length → ahd (spAt sp x) (spAt sp y) = true) := by
                  show r = true ↔ _
                  rw [HR3.out]
                  constructor
                  · rintro ⟨h1, h2⟩ x y hx hxy hy
                    by_cases e : x = i
                    · subst e; exact h2 y hy hxy
                    · exact h1 x y (by omega) hxy hy
                  · intro h
                    exact ⟨fun x y hx => h x y (by omega), fun y hy hiy => h i y (by omega) hiy hy⟩
                go_wp2_with fail
                exact ⟨⟨i + 1, r, by omega, by go_num, rfl, HB3.out, NX.out⟩, by simp [intOf]; omega⟩
          · have hisp : Hid (i = sp.length) := by show i = sp.length; omega
            go_wp2_with fail
            have BW : Hid (Below w.heap.size w W1) := (B2.out.trans (HW.out.mono B2.out.size)).trans (HB2.out.mono (B2.out.trans (HW.out.mono B2.out.size)).size)
            refine (Row_any base b o c hs pb pc pg po _ (HA.out.below BW.out)).mono ?_
            rw [HRB.out, HE.out]
            rintro e w5 ⟨rfl, hb5⟩
            have B5 : Hid _ := BW.out.trans (hb5.mono BW.out.size)
            clear hb5
            go_wp2_with fail
            refine (Ahead_any base b o c hs pb pc pg po _ (HA.out.below B5.out) sp.length 0).mono ?_
            rw [hout.out]
            rintro e w6 ⟨rfl, hb6⟩
            have B6 : Hid _ := B5.out.trans (hb6.mono B5.out.size)
            clear hb6
            have hrr : rowB = r := by
              have a := hrow.out
              have b := HR2.out
              rw [hisp.out] at b
              cases rowB <;> cases r
              · rfl
              · have := a.2 (fun i k hik hk => b.1 rfl i k (by omega) hik hk); cases this
              · have := b.2 (fun x y hx hxy hy => a.1 rfl x y hxy hy); cases this
              · rfl
            subst hrr
            have qq : (rowB == rowB) = true := by simp
            go_wp2_with fail
            go_ret
            exact ⟨rfl, B6.out⟩
  · have hn : (hErr hs != 0) = true := by simp [he]
    have F : Hid (aheadA hs 0 0 = (false, hErr hs)) := by show aheadA hs 0 0 = _; unfold aheadA; rw [if_pos he]
    obtain rfl := hv2 he
    clear he ho2 hv2
    go_wp2_with fail
    refine (Ahead_any base b o c hs pb pc pg po _ (HA.out.below B2.out) 0 0).mono ?_
    rw [F.out]
    rintro e w3 ⟨rfl, hb3⟩
    go_wp2_with fail
    go_ret
    exact ⟨rfl, B2.out.trans (hb3.mono B2.out.size)⟩
end Go.Proofs.Ytplkhknoomninaa
