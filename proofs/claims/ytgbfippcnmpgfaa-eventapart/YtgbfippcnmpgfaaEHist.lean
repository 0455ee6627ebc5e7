
/- Layer 5: the program's isHistoryOf. -/

import Derived.Test.YtgbfippcnmpgfaaEEvs

namespace Go.Proofs.Ytgbfippcnmpgfaa

open Go.RowKit

attribute [local go_sem ↓] Go.wp_at_zero Go.wp_at_succ

def spEq (a b c d : Int) : Bool := decide (a = c ∧ b = d)
theorem sp_eql (a b c d : Int) (w : World) : (binOp .eql 61 (.agg #[.int .i64 a, .int .i64 b]) (.agg #[.int .i64 c, .int .i64 d])).run Try.prog w = .ok (.bool (spEq a b c d)) w := by
  have u3 := Try.underlying3
  have a3 := Try.isAgg3
  have z3 := Try.sizeOf3
  have hS : Try.prog.underlying 61 = some (.struct (Try.prog.fieldsOf 61)) := by kernel_rfl
  have hp : Try.prog.stoodInHeld 61 = false := by kernel_rfl
  rw [run_eql_struct, show (10000 : Nat) = 9999 + 1 from rfl, run_equalIn_agg w 9999 61 _ _ hS hp]
  simp only [Program.fieldsOf, Try.underlying61]
  go_simp
  unfold spEq
  by_cases h1 : a = c <;> by_cases h2 : b = d <;> simp [h1, h2]
/-- Does an operation stand where it says? -/
def mtB (p : Int × Int) (c : CD) : Bool := spEq p.1 p.2 c.fr c.to && (decide (p.2 ≠ -1) || isZ c.rt)

set_option maxRecDepth 100000 in
set_option maxHeartbeats 1000000 in
theorem isHist1_any (p q : Int) (c : CD) (pb : Option Addr) (pc : Nat) (w : World) :
    Calls Try.prog 46 #[.agg #[.int .i64 p, .int .i64 q], .agg #[.int .i64 c.th, .int .i64 c.op.kind, .int .i64 c.op.key, .int .i64 c.op.val, .int .i64 c.op.hi, .bool c.rt.ok, .int .i64 c.rt.key, .int .i64 c.rt.val, .slice pb c.rt.pairs.length pc, .int .i64 c.fr, .int .i64 c.to]] w fun e w' => e = .returned (.bool (mtB (p, q) c)) ∧ Below w.heap.size w w' := by
  have hsp := sp_eql
  unfold mtB
  cases h1 : spEq p q c.fr c.to
  · go_enter Try.func46, Try.ntmps46
    go_wp2_with fail
    go_ret
    exact ⟨by simp, (below_alloc _ _).alloc (by simp) _⟩
  · go_enter Try.func46, Try.ntmps46
    go_wp2_with fail
    refine (returned_any _ _ _).mono ?_
    rintro e w1 ⟨rfl, hb⟩
    cases h2 : decide (q ≠ -1)
    · obtain ⟨q0, q1, q2, q3⟩ := two_cells hb
      have hz : w.heap.size + 1 < w1.heap.size := by have := hb.size; simp at this; omega
      have HB : Hid _ := hb
      clear hb
      go_wp2_with fail
      refine (zero_any _ _ _ _).mono ?_
      rintro e w2 ⟨rfl, hb2⟩
      go_wp2_with fail
      go_ret
      exact ⟨by simp [h2], ((below_alloc _ _).alloc (by simp) _).trans ((HB.out.mono (by simp; omega)).trans (hb2.mono (by omega)))⟩
    · go_wp2_with fail
      go_ret
      exact ⟨by simp [h2], ((below_alloc _ _).alloc (by simp) _).trans (hb.mono (by simp; omega))⟩

set_option maxRecDepth 100000 in
set_option maxHeartbeats 2000000 in
theorem equalFunc_any (a1 a2 : Option Addr) (g c1 b o c2 : Nat) (sp : List Sp) (l : List CD) (pb : Nat → Option Addr) (pc pg po : Nat → Nat) (w : World) (hx : SpsAt w a1 g sp) (hxl : sp.length ≤ maxLen) (hy : CdsAt w a2 b o l pb pc pg po) :
    Calls Try.prog 45 #[.slice a1 sp.length c1, .slice a2 l.length c2, .func (.func 46) #[] #[]] w fun e w' => ∃ r, e = .returned (.bool r) ∧ Below w.heap.size w w' ∧ (r = true ↔ sp.length = l.length ∧ ∀ k, k < l.length → mtB (((spAt sp k).1 : Int), (spAt sp k).2) (cdAt l k) = true) := by
  have lx := hxl
  have ly := hy.len
  unfold maxLen at lx ly
  have HX : Hid _ := hx
  have HY : Hid _ := hy
  clear hx hy hxl
  by_cases hl : sp.length = l.length
  · have hd : ((sp.length : Int) != (l.length : Int)) = false := by simp [hl]
    have HL : Hid _ := hl
    clear hl
    go_enter Try.func45, Try.ntmps45
    go_wp2_with fail
    go_loopw [17] (fun i wr => ∃ j : Nat, j ≤ sp.length ∧ i = .int .i64 j ∧ (∀ k, k < j → mtB (((spAt sp k).1 : Int), (spAt sp k).2) (cdAt l k) = true) ∧ Below w.heap.size w wr) (fun i _ => sp.length - (intOf i).toNat)
    case atStart => exact ⟨0, Nat.zero_le _, rfl, fun k hk => by omega, Below.refl _ _⟩
    case round =>
      obtain ⟨j, hj, rfl, hall, hbw⟩ := hrel
      have HAL : Hid _ := hall
      have HW : Hid _ := hbw
      clear hall
      by_cases hlt : j < sp.length
      · have hlb : j < l.length := by have := HL.out; omega
        obtain rfl : a1 = some ⟨g, 0, none⟩ := HX.out.base (by omega)
        obtain rfl : a2 = some ⟨b, o, none⟩ := HY.out.base (by omega)
        have EX := HX.out.below hbw
        have EY := HY.out.below hbw
        have zx : g < wr.heap.size := EX.lt (by omega)
        have zy : b < wr.heap.size := EY.lt (by omega)
        obtain ⟨s0, s1⟩ := EX.cells j hlt
        obtain ⟨d0, d1, d2, d3, d4⟩ := EY.c0 j hlb
        obtain ⟨d5, d6, d7, d8⟩ := EY.c1 j hlb
        obtain ⟨d9, d10⟩ := EY.c2 j hlb
        have j0 : (0 : Int) ≤ (j : Int) := Int.natCast_nonneg _
        have j1 : (j : Int) < (sp.length : Int) := by omega
        have j2 : (j : Int) < (l.length : Int) := by omega
        clear EX EY hbw
        go_wp2_with fail
        refine (isHist1_any _ _ (cdAt l j) (pb j) (pc j) _).mono ?_
        rintro e w2 ⟨rfl, hb2⟩
        have B2 : Hid (Below w.heap.size w w2) := ((HW.out.alloc HW.out.size _).alloc (by have := HW.out.size; simp; omega) _).trans (hb2.mono (by have := HW.out.size; simp; omega))
        clear hb2 s0 s1 d0 d1 d2 d3 d4 d5 d6 d7 d8 d9 d10
        cases hq : mtB (((spAt sp j).1 : Int), (spAt sp j).2) (cdAt l j)
        · have BAD : Hid (¬ (sp.length = l.length ∧ ∀ k, k < l.length → mtB (((spAt sp k).1 : Int), (spAt sp k).2) (cdAt l k) = true)) := by
            rintro ⟨_, q⟩
            have := q j hlb
            rw [hq] at this
            cases this
          go_wp2_with fail
          go_ret
          exact ⟨false, rfl, B2.out, ⟨(fun h => by cases h), fun h => absurd h BAD.out⟩⟩
        · have HQ : Hid _ := hq
          go_wp2_with fail
          refine ⟨⟨j + 1, by omega, by go_num, fun k hk => ?_, B2.out⟩, by simp [intOf]; omega⟩
          by_cases e : k = j
          · subst e; exact HQ.out
          · exact HAL.out k (by omega)
      · clear hbw
        go_wp2_with fail
        go_ret
        exact ⟨true, rfl, HW.out, ⟨fun _ => ⟨HL.out, fun k hk => HAL.out k (by have := HL.out; omega)⟩, fun _ => rfl⟩⟩
  · have hd : ((sp.length : Int) != (l.length : Int)) = true := by simp; omega
    have BAD : Hid (¬ (sp.length = l.length ∧ ∀ k, k < l.length → mtB (((spAt sp k).1 : Int), (spAt sp k).2) (cdAt l k) = true)) := fun q => hl q.1
    clear hl
    go_enter Try.func45, Try.ntmps45
    go_wp2_with fail
    go_ret
    exact ⟨false, rfl, Below.refl _ _, ⟨(fun h => by cases h), fun h => absurd h BAD.out⟩⟩
theorem mt_iff (sp : List Sp) (l : List CD) : (sp.length = l.length ∧ ∀ k, k < l.length → mtB (((spAt sp k).1 : Int), (spAt sp k).2) (cdAt l k) = true) ↔ Matches sp l ∧ ∀ k, k < l.length → (cdAt l k).to = -1 → isZ (cdAt l k).rt = true := by
  unfold Matches mtB spEq
  simp only [Bool.and_eq_true, Bool.or_eq_true, decide_eq_true_eq]
  constructor
  · rintro ⟨h1, h2⟩
    refine ⟨⟨h1, fun k hk => (h2 k hk).1⟩, fun k hk ht => ?_⟩
    rcases (h2 k hk).2 with q | q
    · exact absurd ((h2 k hk).1.2.trans ht) q
    · exact q
  · rintro ⟨⟨h1, h2⟩, h3⟩
    refine ⟨h1, fun k hk => ⟨h2 k hk, ?_⟩⟩
    by_cases q : (spAt sp k).2 = -1
    · exact Or.inr (h3 k hk ((h2 k hk).2.symm.trans q))
    · exact Or.inl q

set_option maxRecDepth 100000 in
set_option maxHeartbeats 1000000 in
theorem isHistoryOf_any (base a2 : Option Addr) (b o c b2 o2 c2 : Nat) (hs : List EvD) (l : List CD) (pb qb : Nat → Option Addr) (pc pg po qc qg qo : Nat → Nat) (w : World) (h : EvsAt w base b o hs pb pc pg po) (hy : CdsAt w a2 b2 o2 l qb qc qg qo) :
    Calls Try.prog 30 #[.slice base hs.length c, .slice a2 l.length c2] w fun e w' => ∃ r, e = .returned (.bool r) ∧ Below w.heap.size w w' ∧ (r = true ↔ hErr hs = 0 ∧ Matches (spansL hs) l ∧ ∀ k, k < l.length → (cdAt l k).to = -1 → isZ (cdAt l k).rt = true) := by
  have HA : Hid _ := h
  have HY : Hid _ := hy
  clear h hy
  by_cases he : hErr hs = 0
  · have hn : (hErr hs == 0) = true := by simp [he]
    have HE : Hid _ := he
    clear he
    go_enter Try.func30, Try.ntmps30
    go_wp2_with fail
    refine (spansOf_any base b o c hs pb pc pg po _ HA.out).mono ?_
    rintro e w1 ⟨v, rfl, hb, _, hown⟩
    obtain ⟨base1, cap, g, rfl, hg, hnil, hsp, hmx⟩ := sps_of_owns (hown HE.out)
    have HB : Hid _ := hb
    have HP : Hid _ := hsp
    clear hown hg hnil hsp hb
    go_wp2_with fail
    refine (equalFunc_any base1 a2 g cap b2 o2 c2 (spansL hs) l qb qc qg qo _ HP.out hmx (HY.out.below HB.out)).mono ?_
    rintro e w2 ⟨r, rfl, hb2, hr⟩
    have HR : Hid _ := hr
    clear hr
    go_wp2_with fail
    go_ret
    exact ⟨r, rfl, HB.out.trans (hb2.mono HB.out.size), by rw [HR.out, mt_iff]; exact ⟨fun q => ⟨HE.out, q⟩, fun q => q.2⟩⟩
  · have hn : (hErr hs == 0) = false := by simp [he]
    have HE : Hid _ := he
    clear he
    go_enter Try.func30, Try.ntmps30
    go_wp2_with fail
    refine (spansOf_any base b o c hs pb pc pg po _ HA.out).mono ?_
    rintro e w1 ⟨v, rfl, hb, _, hown⟩
    clear hown
    go_wp2_with fail
    go_ret
    exact ⟨false, rfl, hb, ⟨(fun q => by cases q), fun q => absurd q.1 HE.out⟩⟩
end Go.Proofs.Ytgbfippcnmpgfaa
