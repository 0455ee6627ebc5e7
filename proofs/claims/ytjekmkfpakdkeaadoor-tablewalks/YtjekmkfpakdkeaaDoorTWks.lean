/- Layer 16: the law TableWalks. -/
import Derived.Test.YtjekmkfpakdkeaaDoorTWkP
import Derived.Test.YtjekmkfpakdkeaaDoorTKnow
namespace Go.Proofs.YtjekmkfpakdkeaaDoor
open Go.RowKit
attribute [local go_sem ↓] Go.wp_at_zero Go.wp_at_succ

theorem owns_len' {w : World} {B sz : Nat} {e : TypeId} {v : Value} {n : Nat} {xs : List Value} (h : w.ownsRow B e sz v n xs) : n ≤ maxLen := by
  obtain ⟨_, h⟩ := h
  rcases h with ⟨_, h0⟩ | ⟨g, cap, cur, rfl, hg, hh, h1, h2, h3, h4⟩ <;> omega
theorem parL_len {t : NL} (he : formE t = 0) : (parL t).length = t.length := by unfold parL; rw [if_pos he, upL_length]
theorem parL_get {t : NL} (he : formE t = 0) (x : Nat) (hx : x < t.length) : (parL t).getD x 0 = upN t t.length x := by
  unfold parL
  rw [if_pos he]
  simp [upL, List.getD_eq_getElem?_getD, List.getElem?_range hx]
theorem cntB_le (f : Nat → Bool) : ∀ n, cntB f n ≤ n
  | 0 => Nat.le_refl _
  | n + 1 => by
    have := cntB_le f n
    unfold cntB
    split <;> omega
theorem wrap_ok (a : Int) (h1 : -9223372036854775808 ≤ a) (h2 : a ≤ 9223372036854775807) : IntKind.i64.wrap a = a := by rw [IntKind.wrap_i64] <;> omega
/-- What the search has passed. -/
structure WayOk (t : NL) (W : List Nat) : Prop where
  lt : ∀ i, i < W.length → W.getD i 0 < t.length
  up : ∀ i, i + 1 < W.length → upN t t.length (W.getD (i + 1) 0) = ((W.getD i 0 : Nat) : Int)
  mid : ∀ i, i + 1 < W.length → (ndAt t (W.getD i 0)).l ≠ -1
  last : ∀ i, i + 1 = W.length → (ndAt t (W.getD i 0)).l = -1
  first : W.getD 0 0 = 0
  pos : 0 < W.length
theorem way_ok {t : NL} (hf : InForm t) (he : formE t = 0) (key : Int) : WayOk t (wayL t key) := by
  obtain ⟨hT, -, -⟩ := theL_form hf
  obtain ⟨P, hP, -⟩ := way_of key hT
  rw [wayL_of he hP]
  have hc := way_chain hP
  obtain ⟨P', hP'⟩ := hP.head
  refine ⟨fun i hi => (hc i hi).1, fun i hi => ?_, fun i hi => ((hc i (by omega)).2.1 hi).2, fun i hi => (hc i (by omega)).2.2 hi, by rw [hP']; rfl, by rw [hP']; simp⟩
  have := (hc i (by omega)).2.1 hi
  have hp := (hc i (by omega)).1
  exact up_child hf.good hp this.1 t.length hp (Nat.le_refl _)
theorem inner_up {t : NL} (hf : InForm t) {m l r : Nat} (hm : m < t.length) (hl : (ndAt t m).l = (l : Int)) (hr : (ndAt t m).r = (r : Int)) : l < t.length ∧ r < t.length ∧ upN t t.length l = (m : Int) ∧ upN t t.length r = (m : Int) :=
  ⟨(child_pos hf.good hm (Or.inl hl)).2, (child_pos hf.good hm (Or.inr hr)).2, up_child hf.good hm (Or.inl hl) _ hm (Nat.le_refl _), up_child hf.good hm (Or.inr hr) _ hm (Nat.le_refl _)⟩
theorem node_lr {t : NL} (hf : InForm t) {m : Nat} (hm : m < t.length) (h : (ndAt t m).l ≠ -1) : ∃ l r : Nat, (ndAt t m).l = (l : Int) ∧ (ndAt t m).r = (r : Int) := by
  rcases (hf.good.node m hm).1 with h1 | h1
  · exact absurd h1.1 h
  · exact ⟨(ndAt t m).l.toNat, (ndAt t m).r.toNat, by omega, by omega⟩
set_option maxRecDepth 100000 in
set_option maxHeartbeats 4000000 in
theorem walks_any (ba : Option Addr) (ga oa ca : Nat) (t : NL) (key : Int) (w : World) (ha : NodesAt w ba ga oa t) (hin : NodesIn t) (hlaid : LaidB w.heap.size w) :
    Calls Tryd.prog 8 #[.slice ba t.length ca, .int .i64 key] w fun e w' => e = .returned (.bool true) ∧ Below w.heap.size w w' := by
  have HA : Hid (NodesAt _ _ _ _ _) := ha
  have HIN : Hid (NodesIn t) := hin
  have HL : Hid (LaidB _ _) := hlaid
  clear ha hin hlaid
  by_cases he : formE t = 0
  · obtain ⟨hbig, hf⟩ := formE_ok he
    have hpos := hf.pos
    obtain rfl : ba = some ⟨ga, oa, none⟩ := HA.out.base (by omega)
    have hgl := HA.out.lt (by omega)
    have HF : Hid (InForm t) := hf
    have HE : Hid (formE t = 0) := he
    have HPL : Hid ((parL t).length = t.length) := parL_len he
    have HPG : Hid (∀ x, x < t.length → (parL t).getD x 0 = upN t t.length x) := parL_get he
    have HW : Hid (WayOk t (wayL t key)) := way_ok hf he key
    obtain ⟨h1, h2, h3⟩ := way_height hf he key
    obtain ⟨h4, h5⟩ := leaves_count hf he
    have HWB : Hid (∀ k, (wayL t k).length ≤ 200000) := fun k => by have := way_height hf he k; omega
    have HX : Hid (ordB t = true → ∀ i, i < (pairL t).length → (0 < i → keyAt (pairL t) (i - 1) < keyAt (pairL t) i) ∧ ∃ (q : Nat) (P : List Nat), wayL t (keyAt (pairL t) i) = P ++ [q] ∧ q < t.length ∧ (ndAt t q).inf = 0 ∧ (ndAt t q).key = keyAt (pairL t) i ∧ (ndAt t q).val = valAt (pairL t) i) := fun q => pairs_rise hf he (by
      by_cases ho : ordP t
      · exact ho
      · rw [ordB_no ho] at q; cases q)
    obtain ⟨W, hW⟩ : ∃ W, W = wayL t key := ⟨_, rfl⟩
    obtain ⟨H, hH⟩ : ∃ H, H = hgtA t := ⟨_, rfl⟩
    obtain ⟨K, hK⟩ : ∃ K, K = cntB (lfB t) t.length := ⟨_, rfl⟩
    obtain ⟨E, hE⟩ : ∃ E, E = formE t := ⟨_, rfl⟩
    have EW : Hid (W = wayL t key) := hW
    have EH : Hid (H = hgtA t) := hH
    have EK : Hid (K = cntB (lfB t) t.length) := hK
    have EL : Hid ((leafL t).length = K) := h4.trans hK.symm
    rw [← hW] at h1 h2 HW
    rw [← hH] at h2 h3
    rw [h4, ← hK] at h5
    have up0 : Hid (upN t t.length 0 = -1) := up_zero hf.good _ (Nat.le_refl _)
    clear hW hH hK h4 he hf hE E
    have wz : ((W.length : Int) == 0) = false := beq_eq_false_iff_ne.2 (by omega)
    have wp : (0 : Int) < (W.length : Int) := by omega
    have tp : (0 : Int) < (t.length : Int) := by omega
    have kb : ((t.length : Int) != 2 * (K : Int) - 1) = false := bne_eq_false_iff_eq.2 (by omega)
    have kl : (K : Int) ≤ 100000 := by omega
    have d5 : decide (H < (W.length : Int) - 1) = false := decide_eq_false (by omega)
    have d6 : decide ((t.length : Int) ≤ H) = false := decide_eq_false (by omega)
    have wlen : W.length ≤ 200000 := by omega
    clear h2 h3 h5
    have HWL : Hid (W.length = (wayL t key).length) := by show _ = _; rw [EW.out]
    go_enter Tryd.func8, Tryd.ntmps8
    go_wp2_with (first | (go_at_call 12; refine (known_any _ HL.out).mono ?_; rintro e w1 ⟨rfl, hb1⟩; have B1 : Hid (Below _ _ _) := hb1; clear hb1 HL) | (go_at_call 13; refine (check_any _ ga oa ca t _ (HA.out.below B1.out)).mono ?_; rintro e w2 ⟨rfl, hb2⟩; rw [HE.out]; have B2 : Hid (Below _ _ _) := B1.out.trans (hb2.mono B1.out.size); clear hb2) | (go_at_call 31; have hq := HWL; refine (Search_any _ ga oa ca t key _ (HA.out.below B2.out)).mono ?_; rintro e w3 ⟨v3, rfl, ho3, hb3⟩; rw [← EW.out] at ho3; rw [HE.out]; obtain ⟨a3, c3, g3, rfl, -, -, hp3⟩ := pls_of_owns ho3; obtain rfl := hp3.base (by omega); have P3 : Hid (PlsAt _ _ _ _) := hp3; have B3 : Hid (Below _ _ _) := B2.out.trans (hb3.mono B2.out.size); clear hb3 ho3 hp3 hq HWL) | (go_at_call 27; refine (Parents_any _ ga oa ca t _ (HA.out.below B3.out)).mono ?_; rintro e w4 ⟨a4, n4, c4, g4, rfl, hn4, hp4, hb4⟩; rw [HPL.out] at hn4; subst hn4; rw [HE.out]; obtain rfl := hp4.base (by rw [HPL.out]; omega); have P4 : Hid (IsAt _ _ _ _) := hp4; have M3 : Hid (PlsAt _ _ _ _) := P3.out.below hb4; have B4 : Hid (Below _ _ _) := B3.out.trans (hb4.mono B3.out.size); clear hb4 hp4 P3) | (go_at_call 21; refine (Leaves_any _ ga oa ca t _ (HA.out.below B4.out)).mono ?_; rintro e w5 ⟨a5, n5, c5, g5, rfl, hn5, hp5, hb5⟩; rw [EL.out] at hn5; subst hn5; rw [HE.out]; have N3 : Hid (PlsAt _ _ _ _) := M3.out.below hb5; have N4 : Hid (IsAt _ _ _ _) := P4.out.below hb5; have B5 : Hid (Below _ _ _) := B4.out.trans (hb5.mono B4.out.size); have f0 : w5.cell? ⟨g3, 0, none⟩ = some (.int .i64 0) := (by have := N3.out.cells 0 h1; rw [HW.out.first] at this; exact this); have f1 := N4.out.cells 0 (by rw [HPL.out]; omega); rw [HPG.out 0 hpos, up0.out] at f1; have f2 := N3.out.lt (by omega); have f3 := N4.out.lt (by rw [HPL.out]; omega); have f4 := B5.out.size; clear hb5 hp5 M3 P4))
    clear f0 f1
    go_loopw [12] (fun i wr => ∃ m : Nat, m ≤ W.length ∧ i = .int .i64 m ∧ Below w5.heap.size w5 wr) (fun i _ => W.length - (intOf i).toNat)
    case atStart => exact ⟨0, Nat.zero_le _, rfl, Below.refl _ _⟩
    case round =>
      obtain ⟨m, hm, rfl, hb⟩ := hrel
      have HB : Hid (Below _ _ _) := hb
      have hz := hb.size
      have f2' : g3 < wr.heap.size := by omega
      have f3' : g4 < wr.heap.size := by omega
      have f5' : ga < wr.heap.size := by omega
      by_cases hlm : m < W.length
      · have m0 : (0 : Int) ≤ (m : Int) := Int.natCast_nonneg _
        have m1 : (m : Int) < (W.length : Int) := by omega
        have hx := HW.out.lt m hlm
        have e1 := (N3.out.below hb).cells m hlm
        have e2 := (N4.out.below hb).cells (W.getD m 0) (by rw [HPL.out]; exact hx)
        rw [HPG.out _ hx] at e2
        have e3 := ((HA.out.below B5.out).below hb).cells (W.getD m 0) hx
        obtain ⟨-, -, -, -, e3, -⟩ := e3
        have wl : IntKind.i64.wrap ((W.length : Int) - 1) = (W.length : Int) - 1 := wrap_ok _ (by omega) (by omega)
        by_cases h0 : 0 < m
        · obtain ⟨y', hy'⟩ : ∃ y', m = y' + 1 := ⟨m - 1, by omega⟩
          have e5 := (N3.out.below hb).cells y' (by omega)
          have e6 := HW.out.up y' (by omega)
          rw [← hy'] at e6
          rw [e6] at e2
          have g0 : decide ((0 : Int) < (m : Int)) = true := decide_eq_true (by omega)
          have g0n : decide (0 < m) = true := decide_eq_true (by omega)
          have g3 : IntKind.i64.wrap ((m : Int) - 1) = (y' : Int) := by rw [wrap_ok _ (by omega) (by omega)]; omega
          have g4 : (y' : Int) < (W.length : Int) := by omega
          have g5 : (0 : Int) ≤ (y' : Int) := Int.natCast_nonneg _
          generalize W.getD y' 0 = y at *
          have y0 : ((y : Int) != (y : Int)) = false := by simp
          have y0n : (y != y) = false := by simp
          by_cases hl : m + 1 = W.length
          · have e4 := HW.out.last m hl
            rw [e4] at e3
            have g1 : ((m : Int) == (W.length : Int) - 1) = true := beq_iff_eq.2 (by omega)
            generalize W.getD m 0 = x at *
            have x0 : decide ((x : Int) < 0) = false := decide_eq_false (by omega)
            have x1 : decide ((t.length : Int) ≤ (x : Int)) = false := decide_eq_false (by omega)
            have x1n : decide (t.length ≤ x) = false := decide_eq_false (by omega)
            have x2 : (0 : Int) ≤ (x : Int) := Int.natCast_nonneg _
            have x3 : (x : Int) < (t.length : Int) := by omega
            clear hl hb e4 e6 hy' h0
            go_wp2_with fail
            go_quiet (fail)
            go_wp2_with fail
            exact ⟨⟨m + 1, by omega, by go_num, below_drewN HB.out nq⟩, by simp [intOf]; omega⟩
          · have e4 := HW.out.mid m (by omega)
            have g1 : ((m : Int) == (W.length : Int) - 1) = false := beq_eq_false_iff_ne.2 (by omega)
            generalize W.getD m 0 = x at *
            generalize (ndAt t x).l = k4 at *
            have g2 : (k4 == -1) = false := by simp [e4]
            have x0 : decide ((x : Int) < 0) = false := decide_eq_false (by omega)
            have x1 : decide ((t.length : Int) ≤ (x : Int)) = false := decide_eq_false (by omega)
            have x1n : decide (t.length ≤ x) = false := decide_eq_false (by omega)
            have x2 : (0 : Int) ≤ (x : Int) := Int.natCast_nonneg _
            have x3 : (x : Int) < (t.length : Int) := by omega
            clear hl hb e4 e6 hy' h0
            go_wp2_with fail
            go_quiet (fail)
            go_wp2_with fail
            exact ⟨⟨m + 1, by omega, by go_num, below_drewN HB.out nq⟩, by simp [intOf]; omega⟩
        · have g0 : decide ((0 : Int) < (m : Int)) = false := decide_eq_false (by omega)
          have g0n : decide (0 < m) = false := decide_eq_false (by omega)
          clear e2
          by_cases hl : m + 1 = W.length
          · have e4 := HW.out.last m hl
            rw [e4] at e3
            have g1 : ((m : Int) == (W.length : Int) - 1) = true := beq_iff_eq.2 (by omega)
            generalize W.getD m 0 = x at *
            have x0 : decide ((x : Int) < 0) = false := decide_eq_false (by omega)
            have x1 : decide ((t.length : Int) ≤ (x : Int)) = false := decide_eq_false (by omega)
            have x1n : decide (t.length ≤ x) = false := decide_eq_false (by omega)
            have x2 : (0 : Int) ≤ (x : Int) := Int.natCast_nonneg _
            have x3 : (x : Int) < (t.length : Int) := by omega
            clear hl hb e4 h0
            go_wp2_with fail
            go_quiet (fail)
            go_wp2_with fail
            exact ⟨⟨m + 1, by omega, by go_num, below_drewN HB.out nq⟩, by simp [intOf]; omega⟩
          · have e4 := HW.out.mid m (by omega)
            have g1 : ((m : Int) == (W.length : Int) - 1) = false := beq_eq_false_iff_ne.2 (by omega)
            generalize W.getD m 0 = x at *
            generalize (ndAt t x).l = k4 at *
            have g2 : (k4 == -1) = false := by simp [e4]
            have x0 : decide ((x : Int) < 0) = false := decide_eq_false (by omega)
            have x1 : decide ((t.length : Int) ≤ (x : Int)) = false := decide_eq_false (by omega)
            have x1n : decide (t.length ≤ x) = false := decide_eq_false (by omega)
            have x2 : (0 : Int) ≤ (x : Int) := Int.natCast_nonneg _
            have x3 : (x : Int) < (t.length : Int) := by omega
            clear hl hb e4 h0
            go_wp2_with fail
            go_quiet (fail)
            go_wp2_with fail
            exact ⟨⟨m + 1, by omega, by go_num, below_drewN HB.out nq⟩, by simp [intOf]; omega⟩
      · obtain rfl : m = W.length := by omega
        have BX : Hid (Below w.heap.size w wr) := B5.out.trans (hb.mono B5.out.size)
        have Q4 : Hid (IsAt _ _ _ _) := N4.out.below hb
        clear hb
        go_wp2_with fail
        generalize wr = w6 at *
        clear N3 N4 f2 f3
        go_loopw [13, 14] (fun n i wr => ∃ m : Nat, m ≤ t.length ∧ i = .int .i64 m ∧ n = .int .i64 (cntB (lfB t) m : Nat) ∧ Below w6.heap.size w6 wr) (fun _ i _ => t.length - (intOf i).toNat)
        case atStart => exact ⟨0, Nat.zero_le _, rfl, rfl, Below.refl _ _⟩
        case round =>
          obtain ⟨m, hm, rfl, rfl, hb⟩ := hrel
          have HB2 : Hid (Below _ _ _) := hb
          have hz2 := hb.size
          have f3'' : g4 < wr.heap.size := by omega
          have f5'' : ga < wr.heap.size := by omega
          by_cases hlm : m < t.length
          · have m0 : (0 : Int) ≤ (m : Int) := Int.natCast_nonneg _
            have m1 : (m : Int) < (t.length : Int) := by omega
            have e3 := ((HA.out.below BX.out).below hb).cells m hlm
            obtain ⟨-, -, -, -, e3, e4⟩ := e3
            have cl := cntB_le (lfB t) m
            by_cases hl : (ndAt t m).l = -1
            · rw [hl] at e3
              have HS : Hid (cntB (lfB t) (m + 1) = cntB (lfB t) m + 1) := by show cntB (lfB t) m + (if lfB t m then 1 else 0) = _; simp [lfB, hl]
              clear hl hb e4
              generalize cntB (lfB t) m = n at *
              go_wp2_with fail
              exact ⟨⟨m + 1, by omega, by go_num, by rw [HS.out]; go_num, HB2.out⟩, by simp [intOf]; omega⟩
            · obtain ⟨l, r, hl', hr'⟩ := node_lr HF.out hlm hl
              obtain ⟨l1, r1, l2, r2⟩ := inner_up HF.out hlm hl' hr'
              have HS : Hid (cntB (lfB t) (m + 1) = cntB (lfB t) m) := by show cntB (lfB t) m + (if lfB t m then 1 else 0) = _; simp [lfB, hl]
              have e5 := (Q4.out.below hb).cells l (by rw [HPL.out]; exact l1)
              have e6 := (Q4.out.below hb).cells r (by rw [HPL.out]; exact r1)
              rw [HPG.out _ l1, l2] at e5
              rw [HPG.out _ r1, r2] at e6
              rw [hl'] at e3
              rw [hr'] at e4
              have l0 : ((l : Int) == -1) = false := beq_eq_false_iff_ne.2 (by omega)
              have l3 : (0 : Int) ≤ (l : Int) := Int.natCast_nonneg _
              have l4 : (l : Int) < (t.length : Int) := by omega
              have r3 : (0 : Int) ≤ (r : Int) := Int.natCast_nonneg _
              have r4 : (r : Int) < (t.length : Int) := by omega
              clear hl hb hl' hr' l2 r2
              generalize cntB (lfB t) m = n at *
              go_wp2_with fail
              exact ⟨⟨m + 1, by omega, by go_num, by rw [HS.out], HB2.out⟩, by simp [intOf]; omega⟩
          · obtain rfl : m = t.length := by omega
            have BY : Hid (Below w.heap.size w wr) := BX.out.trans (hb.mono BX.out.size)
            rw [← EK.out]
            clear hb
            go_wp2_with (first | (go_at_call 29; refine (Height_any _ ga oa ca t _ (HA.out.below BY.out)).mono ?_; rintro e w7 ⟨rfl, hb7⟩; rw [HE.out, ← EH.out]; have B7 : Hid (Below _ _ _) := BY.out.trans (hb7.mono BY.out.size); clear hb7) | (go_at_call 24; refine (Pairs_any _ ga oa ca t _ (HA.out.below B7.out)).mono ?_; rintro e w8 ⟨v8, rfl, ho8, hb8⟩; rw [HE.out]; obtain ⟨a8, c8, g8, rfl, -, -, hp8⟩ := pairs_of_owns ho8 (owns_len' ho8); have P8 : Hid (PairsAt _ _ _ _ _) := hp8; have B8 : Hid (Below _ _ _) := B7.out.trans (hb8.mono B7.out.size); clear hb8 ho8 hp8) | (go_at_call 33; refine (Ordered_any _ ga oa ca t _ (HA.out.below B8.out) HIN.out).mono ?_; rintro e w9 ⟨rfl, hb9⟩; rw [HE.out]; have P9 : Hid (PairsAt _ _ _ _ _) := P8.out.below hb9; have B9 : Hid (Below _ _ _) := B8.out.trans (hb9.mono B8.out.size); clear hb9 P8))
            have hz9 := B9.out.size
            generalize hO : ordB t = O at *
            generalize hXX : pairL t = X at *
            cases O with
            | false =>
              go_loopw [21] (fun i wr => ∃ m : Nat, m ≤ X.length ∧ i = .int .i64 m ∧ wr = w9) (fun i _ => X.length - (intOf i).toNat)
              case atStart => exact ⟨0, Nat.zero_le _, rfl, rfl⟩
              case round =>
                obtain ⟨m, hm, rfl, hwr⟩ := hrel
                subst hwr
                by_cases hlm : m < X.length
                · have m1 : (m : Int) < (X.length : Int) := by omega
                  go_wp2_with fail
                  go_ret
                  exact ⟨rfl, B9.out⟩
                · have m1 : ((m : Int) < (X.length : Int)) = False := by simp; omega
                  go_wp2_with fail
                  go_ret
                  exact ⟨rfl, B9.out⟩
            | true =>
              have HX' := HX.out rfl
              have HY : Hid _ := HX'
              clear HX' HX
              go_loopw [21] (fun i wr => ∃ m : Nat, m ≤ X.length ∧ i = .int .i64 m ∧ Below w9.heap.size w9 wr) (fun i _ => X.length - (intOf i).toNat)
              case atStart => exact ⟨0, Nat.zero_le _, rfl, Below.refl _ _⟩
              case round =>
                obtain ⟨m, hm, rfl, hb⟩ := hrel
                have BZ : Hid (Below w.heap.size w wr) := B9.out.trans (hb.mono B9.out.size)
                have HB3 : Hid (Below _ _ _) := hb
                have hz3 := hb.size
                by_cases hlm : m < X.length
                · have m0 : (0 : Int) ≤ (m : Int) := Int.natCast_nonneg _
                  have m1 : (m : Int) < (X.length : Int) := by omega
                  have xl := P9.out.len
                  unfold maxLen at xl
                  obtain rfl : a8 = some ⟨g8, 0, none⟩ := P9.out.base (by omega)
                  have g8l := P9.out.lt (by omega)
                  have P10 : Hid (PairsAt _ _ _ _ _) := P9.out.below hb
                  have hg8 : g8 < wr.heap.size := by omega
                  have c1 := P10.out.cells m hlm
                  simp only [Nat.zero_add] at c1
                  obtain ⟨c1, c2⟩ := c1
                  obtain ⟨r1, q, P, hW1, q1, q2, q3, q4⟩ := HY.out m hlm
                  have HWQ : Hid _ := hW1
                  have HQ : Hid _ := (⟨q2, q3, q4⟩ : _ ∧ _ ∧ _)
                  have HR : Hid _ := r1
                  clear hW1 q2 q3 q4 r1 hb
                  go_wp2_with fail
                  go_cut [260] from 245 to 260 (fun c wx => c = .bool false ∧ Below wr.heap.size wr wx)
                  case first =>
                    by_cases h0 : 0 < m
                    · obtain ⟨y', hy'⟩ : ∃ y', m = y' + 1 := ⟨m - 1, by omega⟩
                      have g0 : decide ((0 : Int) < (m : Int)) = true := decide_eq_true (by omega)
                      have g0n : decide (0 < m) = true := decide_eq_true (by omega)
                      have g3 : IntKind.i64.wrap ((m : Int) - 1) = (y' : Int) := by rw [wrap_ok _ (by omega) (by omega)]; omega
                      have g4 : (y' : Int) < (X.length : Int) := by omega
                      have g5 : (0 : Int) ≤ (y' : Int) := Int.natCast_nonneg _
                      have d1 := P10.out.cells y' (by omega)
                      simp only [Nat.zero_add] at d1
                      obtain ⟨d1, -⟩ := d1
                      have r2 := HR.out h0
                      rw [show m - 1 = y' by omega] at r2
                      generalize keyAt X y' = y at *
                      generalize keyAt X m = z at *
                      have g6 : decide (z ≤ y) = false := decide_eq_false (by omega)
                      clear r2 hy' h0
                      go_quiet (fail)
                      go_wp2_with fail
                      go_meet
                      exact ⟨rfl, below_drewN (Below.refl _ _) nq⟩
                    · have g0 : decide ((0 : Int) < (m : Int)) = false := decide_eq_false (by omega)
                      have g0n : decide (0 < m) = false := decide_eq_false (by omega)
                      clear h0
                      go_quiet (fail)
                      go_wp2_with fail
                      go_meet
                      exact ⟨rfl, below_drewN (Below.refl _ _) nq⟩
                  case rest =>
                    obtain ⟨rfl, hbc⟩ := hcut
                    have BC : Hid (Below w.heap.size w wc) := BZ.out.trans (hbc.mono BZ.out.size)
                    have hzc := hbc.size
                    clear c1 c2
                    have c1 := (P10.out.below hbc).cells m hlm
                    simp only [Nat.zero_add] at c1
                    obtain ⟨c1, c2⟩ := c1
                    have P11 : Hid (PairsAt _ _ _ _ _) := P10.out.below hbc
                    have HBC : Hid (Below w9.heap.size w9 wc) := HB3.out.trans (hbc.mono HB3.out.size)
                    clear hbc
                    generalize wc = w10 at *
                    go_wp2_with fail
                    refine (Search_any _ ga oa ca t (keyAt X m) _ (HA.out.below BC.out)).mono ?_
                    rintro e w11 ⟨v11, rfl, ho11, hb11⟩
                    rw [HWQ.out] at ho11
                    rw [HE.out]
                    obtain ⟨a11, c11, g11, rfl, -, -, hp11⟩ := pls_of_owns ho11
                    obtain rfl := hp11.base (by simp)
                    have gl11 := hp11.lt (by simp)
                    have e1 := hp11.cells P.length (by simp)
                    rw [show (P ++ [q]).getD P.length 0 = q by simp] at e1
                    simp only [List.length_append, List.length_cons, List.length_nil, Nat.zero_add]
                    have hi1 : ((P.length + 1 : Nat) : Int) - 1 = (P.length : Int) := by omega
                    have pl1 : P.length ≤ 200000 := (by have := HWB.out (keyAt X m); rw [HWQ.out] at this; simp at this; omega)
                    have B11 : Hid (Below w.heap.size w w11) := BC.out.trans (hb11.mono BC.out.size)
                    have HB11 : Hid (Below w9.heap.size w9 w11) := HBC.out.trans (hb11.mono HBC.out.size)
                    have n1 := (HA.out.below B11.out).cells q q1
                    obtain ⟨n1, n2, n3, n4, n5, n6⟩ := n1
                    rw [HQ.out.1] at n2
                    rw [HQ.out.2.1] at n1
                    rw [HQ.out.2.2] at n4
                    have c3 := (P11.out.below hb11).cells m hlm
                    simp only [Nat.zero_add] at c3
                    obtain ⟨c3, c4⟩ := c3
                    have hz11 := hb11.size
                    clear hb11 ho11 hp11
                    go_wp2_with fail
                    generalize keyAt X m = y at *
                    generalize valAt X m = z at *
                    have yy : (y != y) = false := by simp
                    have zz : (z != z) = false := by simp
                    have oo : ((0 : Int) != 0) = false := rfl
                    generalize hw12 : w11.alloc (.cells #[.int .i64 y, .int .i64 0, .int .i64 (ndAt t q).wt, .int .i64 z, .int .i64 (ndAt t q).l, .int .i64 (ndAt t q).r] 54) = w12
                    obtain ⟨bl, b0, b1, b2, b3, b4, b5⟩ := box_cells (hw12 ▸ heap_alloc_at w11 _ w11.heap.size rfl)
                    have B12 : Below w11.heap.size w11 w12 := hw12 ▸ below_alloc w11 _
                    have d3 := (B12.cell (p := ⟨g8, m * 2, none⟩) (by show g8 < _; omega)).trans c3
                    have d4 := (B12.cell (p := ⟨g8, m * 2 + 1, none⟩) (by show g8 < _; omega)).trans c4
                    have HB12 : Hid (Below w9.heap.size w9 w12) := HB11.out.trans (B12.mono HB11.out.size)
                    have hz12 := B12.size
                    have g8' : g8 < w12.heap.size := by omega
                    clear hw12 B12 c3 c4 n1 n2 n3 n4 n5 n6 c1 c2 e1
                    go_quiet (fail)
                    go_wp2_with fail
                    exact ⟨⟨m + 1, by omega, by go_num, below_drewN HB12.out nq⟩, by simp [intOf]; omega⟩
                · obtain rfl : m = X.length := by omega
                  have m1 : ((X.length : Int) < (X.length : Int)) = False := by simp
                  clear hb
                  go_wp2_with fail
                  go_ret
                  exact ⟨rfl, BZ.out⟩
  · obtain ⟨e1, e2⟩ := e_ne he
    clear he
    go_enter Tryd.func8, Tryd.ntmps8
    go_wp2_with (first | (go_at_call 12; refine (known_any _ HL.out).mono ?_; rintro e w1 ⟨rfl, hb1⟩; have B1 : Hid (Below _ _ _) := hb1; clear hb1 HL) | (go_at_call 13; refine (check_any _ ga oa ca t _ (HA.out.below B1.out)).mono ?_; rintro e w2 ⟨rfl, hb2⟩; have B2 : Hid (Below _ _ _) := B1.out.trans (hb2.mono B1.out.size); clear hb2) | (go_at_call 31; refine (Search_any _ ga oa ca t key _ (HA.out.below B2.out)).mono ?_; rintro e w3 ⟨v3, rfl, ho3, hb3⟩; have B3 : Hid (Below _ _ _) := B2.out.trans (hb3.mono B2.out.size); clear hb3 ho3) | (go_at_call 27; refine (Parents_any _ ga oa ca t _ (HA.out.below B3.out)).mono ?_; rintro e w4 ⟨a4, n4, c4, g4, rfl, hn4, hp4, hb4⟩; have B4 : Hid (Below _ _ _) := B3.out.trans (hb4.mono B3.out.size); clear hb4 hp4 hn4) | (go_at_call 21; refine (Leaves_any _ ga oa ca t _ (HA.out.below B4.out)).mono ?_; rintro e w5 ⟨a5, n5, c5, g5, rfl, hn5, hp5, hb5⟩; have B5 : Hid (Below _ _ _) := B4.out.trans (hb5.mono B4.out.size); clear hb5 hp5 hn5))
    go_ret
    exact ⟨rfl, B5.out⟩
end Go.Proofs.YtjekmkfpakdkeaaDoor
