/- Layer 16: the law TableGrafts. -/
import Derived.Test.YtjekmkfpakdkeaaDoorTBt3
import Derived.Test.YtjekmkfpakdkeaaDoorTKnow
namespace Go.Proofs.YtjekmkfpakdkeaaDoor
open Go.RowKit
attribute [local go_sem ↓] Go.wp_at_zero Go.wp_at_succ

theorem nlEq_me (a : NL) : nlEq a a = true := by unfold nlEq; simp
theorem owns_len' {w : World} {B sz : Nat} {e : TypeId} {v : Value} {n : Nat} {xs : List Value} (h : w.ownsRow B e sz v n xs) : n ≤ maxLen := by
  obtain ⟨_, h⟩ := h
  rcases h with ⟨_, h0⟩ | ⟨g, cap, cur, rfl, hg, hh, h1, h2, h3, h4⟩ <;> omega
theorem wrap_ok (a : Int) (h1 : -9223372036854775808 ≤ a) (h2 : a ≤ 9223372036854775807) : IntKind.i64.wrap a = a := by rw [IntKind.wrap_i64] <;> omega
theorem rest_of (p : Int) (n : Nat) (h : 0 < n) : ∃ x : Nat, x < n ∧ (IntKind.u64.wrap p).tmod (n : Int) = (x : Int) := by
  have h0 : 0 ≤ IntKind.u64.wrap p := by rw [IntKind.wrap_u64]; omega
  have h1 := Int.tmod_nonneg (n : Int) h0
  have h2 := Int.tmod_lt_of_pos (IntKind.u64.wrap p) (show (0 : Int) < (n : Int) by omega)
  exact ⟨((IntKind.u64.wrap p).tmod (n : Int)).toNat, by omega, by omega⟩
theorem rev_at (P : PL) (m : Nat) (h : m < P.length) : keyAt P.reverse (P.length - 1 - m) = keyAt P m ∧ valAt P.reverse (P.length - 1 - m) = valAt P m := by
  unfold keyAt valAt
  rw [List.getD_eq_getElem?_getD, List.getElem?_reverse (by omega), show P.length - 1 - (P.length - 1 - m) = m by omega, ← List.getD_eq_getElem?_getD]
  exact ⟨rfl, rfl⟩
theorem parL_len' {t : NL} (he : formE t = 0) : (parL t).length = t.length := by unfold parL; rw [if_pos he, upL_length]
set_option maxRecDepth 100000 in
set_option maxHeartbeats 4000000 in
theorem grafts_any (ba bb : Option Addr) (ga oa ca gb ob cb : Nat) (t u : NL) (p : Int) (w : World) (ha : NodesAt w ba ga oa t) (hb : NodesAt w bb gb ob u) (hlaid : LaidB w.heap.size w) :
    Calls Tryd.prog 9 #[.slice ba t.length ca, .int .i64 p, .slice bb u.length cb] w fun e w' => e = .returned (.bool true) ∧ Below w.heap.size w w' := by
  have HA : Hid (NodesAt _ _ _ _ _) := ha
  have HB : Hid (NodesAt _ _ _ _ _) := hb
  have HL : Hid (LaidB _ _) := hlaid
  have HK : Hid True := trivial
  clear ha hb hlaid
  by_cases he1 : formE t = 0
  · have HE1 : Hid (formE t = 0) := he1
    by_cases he2 : formE u = 0
    · have HE2 : Hid (formE u = 0) := he2
      obtain ⟨hbig, hf⟩ := formE_ok he1
      have hpos := hf.pos
      have tp : (0 : Int) < (t.length : Int) := by omega
      have tl : (t.length : Int) ≤ 100000 := by omega
      obtain ⟨x, hx, px⟩ := rest_of p t.length hpos
      obtain ⟨N, X, M, V, G, P, hG⟩ := gf_of he1 he2 hx
      have HG : Hid (GF t u x N X M V G P) := hG
      have hNp : 0 < N.length := by have := hG.n3; omega
      have hNl : N.length ≤ 100000 := by have := hG.n3; omega
      have HNX : Hid (x < N.length) := by have := hG.n3; show x < N.length; omega
      have HPL : Hid ((parL N).length = N.length) := parL_len' hG.n2
      have x0 : (0 : Int) ≤ (x : Int) := Int.natCast_nonneg _
      have x1 : (x : Int) < (t.length : Int) := by omega
      clear he1 he2 hf hG
      go_enter Tryd.func9, Tryd.ntmps9
      go_wp2_with (first | (go_at_call 12; refine (known_any _ HL.out).mono ?_; rintro e w1 ⟨rfl, hb1⟩; have B1 : Hid (Below w.heap.size w w1) := hb1; clear hb1 HL) | (go_at_call 13; have hq := HK; refine (check_any _ ga oa ca t _ (HA.out.below B1.out)).mono ?_; rintro e w2 ⟨rfl, hb2⟩; rw [HE1.out]; have B2 : Hid (Below w.heap.size w w2) := B1.out.trans (hb2.mono B1.out.size); clear hb2 hq HK) | (go_at_call 13; have hq := B2; refine (check_any _ gb ob cb u _ (HB.out.below B2.out)).mono ?_; rintro e w3 ⟨rfl, hb3⟩; rw [HE2.out]; have B3 : Hid (Below w.heap.size w w3) := B2.out.trans (hb3.mono B2.out.size); clear hb3 hq) | (go_at_call 16; refine (norm_any _ ga oa ca t _ (HA.out.below B3.out)).mono ?_; rintro e w4 ⟨v4, rfl, ho4, hb4⟩; rw [HG.out.n1] at ho4; rw [HE1.out]; obtain ⟨a4, c4, g4, rfl, -, -, hp4⟩ := nodes_of_owns ho4; obtain rfl := hp4.base (by omega); have P4 : Hid (NodesAt _ _ _ _ _) := hp4; have B4 : Hid (Below w.heap.size w w4) := B3.out.trans (hb4.mono B3.out.size); clear ho4 hb4 hp4) | (go_at_call 39; refine (Sub_any _ ga oa ca t (x : Int) _ (HA.out.below B4.out)).mono ?_; rintro e w5 ⟨v5, rfl, ho5, hb5⟩; rw [HG.out.s1] at ho5; rw [HG.out.s2]; obtain ⟨a5, c5, g5, rfl, -, -, hp5⟩ := nodes_of_owns ho5; have P5 : Hid (NodesAt _ _ _ _ _) := hp5; have Q4 : Hid (NodesAt _ _ _ _ _) := P4.out.below hb5; have B5 : Hid (Below w.heap.size w w5) := B4.out.trans (hb5.mono B4.out.size); clear ho5 hb5 hp5 P4) | (go_at_call 41; have hq := P5; refine (Graft_any _ _ ga oa ca g5 0 c5 t X (x : Int) _ (HA.out.below B5.out) P5.out).mono ?_; rintro e w6 ⟨v6, rfl, ho6, hb6⟩; rw [HG.out.g1] at ho6; rw [HG.out.g2]; obtain ⟨a6, c6, g6, rfl, -, -, hp6⟩ := nodes_of_owns ho6; have P6 : Hid (NodesAt _ _ _ _ _) := hp6; have R4 : Hid (NodesAt _ _ _ _ _) := Q4.out.below hb6; have B6 : Hid (Below w.heap.size w w6) := B5.out.trans (hb6.mono B5.out.size); clear ho6 hb6 hp6 Q4 P5 hq) | (go_at_call 19; refine (same_any _ _ ga oa ca g4 0 c4 t N _ (HA.out.below B6.out) R4.out).mono ?_; rintro e w7 ⟨rfl, hb7⟩; rw [HG.out.b1, HG.out.b2]; have S4 : Hid (NodesAt _ _ _ _ _) := R4.out.below hb7; have S6 : Hid (NodesAt _ _ _ _ _) := P6.out.below hb7; have B7 : Hid (Below w.heap.size w w7) := B6.out.trans (hb7.mono B6.out.size); clear hb7 R4 P6) | (go_at_call 17; have hq := S6; refine (rEqual_any _ _ g6 0 c6 g4 0 c4 N N _ S6.out S4.out).mono ?_; rintro e w8 ⟨rfl, hb8⟩; rw [nlEq_me]; have T4 : Hid (NodesAt _ _ _ _ _) := S4.out.below hb8; have B8 : Hid (Below w.heap.size w w8) := B7.out.trans (hb8.mono B7.out.size); clear hb8 S4 S6 hq) | (go_at_call 27; refine (Parents_any _ g4 0 c4 N _ T4.out).mono ?_; rintro e w9 ⟨a9, n9, c9, g9, rfl, hn9, hp9, hb9⟩; rw [HPL.out] at hn9; subst hn9; rw [HG.out.n2]; obtain rfl := hp9.base (by rw [HPL.out]; omega); have P9 : Hid (IsAt _ _ _ _) := hp9; have U4 : Hid (NodesAt _ _ _ _ _) := T4.out.below hb9; have B9 : Hid (Below w.heap.size w w9) := B8.out.trans (hb9.mono B8.out.size); have f9 := P9.out.lt (by rw [HPL.out]; omega); have f4 := U4.out.lt (by omega); clear hb9 hp9 T4))
      go_loopw [19] (fun i wr => ∃ m : Nat, 1 ≤ m ∧ m ≤ N.length ∧ i = .int .i64 m ∧ Below w9.heap.size w9 wr) (fun i _ => N.length - (intOf i).toNat)
      case atStart => exact ⟨1, Nat.le_refl _, hNp, rfl, Below.refl _ _⟩
      case round =>
        obtain ⟨m, hm0, hm, rfl, hb⟩ := hrel
        have HBR : Hid (Below _ _ _) := hb
        have hz := hb.size
        have f9' : g9 < wr.heap.size := by omega
        have f4' : g4 < wr.heap.size := by omega
        by_cases hlm : m < N.length
        · have m0 : (0 : Int) ≤ (m : Int) := Int.natCast_nonneg _
          have m1 : (m : Int) < (N.length : Int) := by omega
          obtain ⟨y, y1, y2, y3⟩ := HG.out.up m hm0 hlm
          have e1 := (P9.out.below hb).cells m (by rw [HPL.out]; exact hlm)
          rw [y1] at e1
          have hyl : y < N.length := by omega
          have e2 := ((U4.out.below hb).cells y hyl).2.2.2.2.1
          rw [y3, Nat.zero_add, show ((y + 1 : Nat) : Int) = (y : Int) + 1 by omega] at e2
          have z0 : (0 : Int) ≤ (y : Int) := Int.natCast_nonneg _
          have z1 : (y : Int) < (N.length : Int) := by omega
          have z2 : decide ((m : Int) ≤ (y : Int)) = false := decide_eq_false (by omega)
          have z3 : decide (m ≤ y) = false := decide_eq_false (by omega)
          have z4 : IntKind.i64.wrap ((y : Int) + 1) = (y : Int) + 1 := wrap_ok _ (by omega) (by omega)
          have z5 : ((y : Int) + 1 != (y : Int) + 1) = false := by simp
          clear hb y1 y3
          go_wp2_with fail
          go_quiet (fail)
          go_wp2_with fail
          exact ⟨⟨m + 1, by omega, by omega, by go_num, below_drewN HBR.out nq⟩, by simp [intOf]; omega⟩
        · obtain rfl : m = N.length := by omega
          have BA : Hid (Below w.heap.size w wr) := B9.out.trans (hb.mono B9.out.size)
          have U5 : Hid (NodesAt _ _ _ _ _) := U4.out.below hb
          have HK2 : Hid True := trivial
          clear hb U4 P9
          go_wp2_with (first | (go_at_call 43; have hq := HK2; refine (Mirror_any _ ga oa ca t _ (HA.out.below BA.out)).mono ?_; rintro e w11 ⟨v11, rfl, ho11, hb11⟩; rw [HG.out.m1] at ho11; rw [HE1.out]; obtain ⟨a11, c11, g11, rfl, -, -, hp11⟩ := nodes_of_owns ho11; have P11 : Hid (NodesAt _ _ _ _ _) := hp11; have V4 : Hid (NodesAt _ _ _ _ _) := U5.out.below hb11; have B11 : Hid (Below w.heap.size w w11) := BA.out.trans (hb11.mono BA.out.size); clear ho11 hb11 hp11 hq HK2) | (go_at_call 43; have hq := P11; refine (Mirror_any _ g11 0 c11 M _ P11.out).mono ?_; rintro e w12 ⟨v12, rfl, ho12, hb12⟩; rw [HG.out.m3] at ho12; rw [HG.out.m2]; obtain ⟨a12, c12, g12, rfl, -, -, hp12⟩ := nodes_of_owns ho12; have P12 : Hid (NodesAt _ _ _ _ _) := hp12; have Q11 : Hid (NodesAt _ _ _ _ _) := P11.out.below hb12; have W4 : Hid (NodesAt _ _ _ _ _) := V4.out.below hb12; have B12 : Hid (Below w.heap.size w w12) := B11.out.trans (hb12.mono B11.out.size); clear ho12 hb12 hp12 hq P11 V4) | (go_at_call 24; have hq := W4; refine (Pairs_any _ ga oa ca t _ (HA.out.below B12.out)).mono ?_; rintro e w13 ⟨v13, rfl, ho13, hb13⟩; rw [HG.out.p1] at ho13; rw [HE1.out]; obtain ⟨a13, c13, g13, rfl, -, -, hp13⟩ := pairs_of_owns ho13 (owns_len' ho13); have P13 : Hid (PairsAt _ _ _ _ _) := hp13; have R11 : Hid (NodesAt _ _ _ _ _) := Q11.out.below hb13; have X4 : Hid (NodesAt _ _ _ _ _) := W4.out.below hb13; have Q12 : Hid (NodesAt _ _ _ _ _) := P12.out.below hb13; have B13 : Hid (Below w.heap.size w w13) := B12.out.trans (hb13.mono B12.out.size); clear ho13 hb13 hp13 hq W4 Q11 P12) | (go_at_call 24; have hq := R11; refine (Pairs_any _ g11 0 c11 M _ R11.out).mono ?_; rintro e w14 ⟨v14, rfl, ho14, hb14⟩; rw [HG.out.p2] at ho14; rw [HG.out.m2]; obtain ⟨a14, c14, g14, hv14, -, -, hp14⟩ := pairs_of_owns ho14 (owns_len' ho14); rw [List.length_reverse] at hv14; subst hv14; have P14 : Hid (PairsAt _ _ _ _ _) := hp14; have Q13 : Hid (PairsAt _ _ _ _ _) := P13.out.below hb14; have Y4 : Hid (NodesAt _ _ _ _ _) := X4.out.below hb14; have R12 : Hid (NodesAt _ _ _ _ _) := Q12.out.below hb14; have B14 : Hid (Below w.heap.size w w14) := B13.out.trans (hb14.mono B13.out.size); clear ho14 hb14 hp14 hq X4 R11 Q12 P13) | (go_at_call 17; refine (rEqual_any _ _ g12 0 c12 g4 0 c4 N N _ R12.out Y4.out).mono ?_; rintro e w15 ⟨rfl, hb15⟩; rw [nlEq_me]; have Z4 : Hid (NodesAt _ _ _ _ _) := Y4.out.below hb15; have Q14 : Hid (PairsAt _ _ _ _ _) := P14.out.below hb15; have R13 : Hid (PairsAt _ _ _ _ _) := Q13.out.below hb15; have B15 : Hid (Below w.heap.size w w15) := B14.out.trans (hb15.mono B14.out.size); clear hb15 Y4 P14 Q13))
          have f13 := B15.out.size
          go_loopw [24] (fun i wr => ∃ m : Nat, m ≤ P.length ∧ i = .int .i64 m ∧ Below w15.heap.size w15 wr) (fun i _ => P.length - (intOf i).toNat)
          case atStart => exact ⟨0, Nat.zero_le _, rfl, Below.refl _ _⟩
          case round =>
            obtain ⟨m, hm, rfl, hb⟩ := hrel
            have HBS : Hid (Below _ _ _) := hb
            have hzs := hb.size
            by_cases hlm : m < P.length
            · have m0 : (0 : Int) ≤ (m : Int) := Int.natCast_nonneg _
              have m1 : (m : Int) < (P.length : Int) := by omega
              have pl := R13.out.len
              unfold maxLen at pl
              obtain rfl : a13 = some ⟨g13, 0, none⟩ := R13.out.base (by omega)
              obtain rfl : a14 = some ⟨g14, 0, none⟩ := Q14.out.base (by rw [List.length_reverse]; omega)
              have l13 := R13.out.lt (by omega)
              have l14 := Q14.out.lt (by rw [List.length_reverse]; omega)
              have l13' : g13 < wr.heap.size := by omega
              have l14' : g14 < wr.heap.size := by omega
              have c1 := (R13.out.below hb).cells m hlm
              have c2 := (Q14.out.below hb).cells (P.length - 1 - m) (by rw [List.length_reverse]; omega)
              rw [(rev_at P m hlm).1, (rev_at P m hlm).2] at c2
              simp only [Nat.zero_add] at c1 c2
              obtain ⟨k, hk⟩ : ∃ k, k = P.length - 1 - m := ⟨_, rfl⟩
              rw [← hk] at c2
              obtain ⟨d1, d2⟩ := c1
              obtain ⟨d3, d4⟩ := c2
              have k0 : (0 : Int) ≤ (k : Int) := Int.natCast_nonneg _
              have k1 : (k : Int) < (P.length : Int) := by omega
              have k2 : IntKind.i64.wrap ((P.length : Int) - 1) = (P.length : Int) - 1 := wrap_ok _ (by omega) (by omega)
              have k3 : IntKind.i64.wrap ((P.length : Int) - 1 - (m : Int)) = (k : Int) := by rw [wrap_ok _ (by omega) (by omega)]; omega
              have hpn := pr_neq
              generalize keyAt P m = kk at *
              generalize valAt P m = vv at *
              have hxx : (!(decide (kk = kk) && decide (vv = vv))) = false := by simp
              clear hb hk
              go_wp2_with fail
              go_quiet (fail)
              go_wp2_with fail
              exact ⟨⟨m + 1, by omega, by go_num, below_drewN HBS.out nq⟩, by simp [intOf]; omega⟩
            · obtain rfl : m = P.length := by omega
              have BZ : Hid (Below w.heap.size w wr) := B15.out.trans (hb.mono B15.out.size)
              have ZZ4 : Hid (NodesAt _ _ _ _ _) := Z4.out.below hb
              have xu : IntKind.u64.wrap (x : Int) = (x : Int) := by rw [IntKind.wrap_u64]; omega
              have xt : (x : Int).tmod (N.length : Int) = (x : Int) := Int.tmod_eq_of_lt (by omega) (by have := HNX.out; omega)
              have np : (0 : Int) < (N.length : Int) := by omega
              have nl : (N.length : Int) ≤ 100000 := by omega
              clear hb
              rcases HG.out.e1 with hE | hE
              · have HGE : Hid _ := hE
                clear hE
                go_wp2_with (first | (go_at_call 41; refine (Graft_any _ _ g4 0 c4 gb ob cb N u (x : Int) _ ZZ4.out (HB.out.below BZ.out)).mono ?_; rintro e w16 ⟨v16, rfl, ho16, hb16⟩; rw [HGE.out]; have B16 : Hid (Below w.heap.size w w16) := BZ.out.trans (hb16.mono BZ.out.size); clear ho16 hb16))
                go_ret
                exact ⟨rfl, B16.out⟩
              · have HGE : Hid (graE N (x : Int) u = 0 ∧ graA N (x : Int) u = G ∧ formE G = 0 ∧ subL G (x : Int) = V ∧ subE G (x : Int) = 0) := hE
                clear hE
                go_wp2_with (first | (go_at_call 41; refine (Graft_any _ _ g4 0 c4 gb ob cb N u (x : Int) _ ZZ4.out (HB.out.below BZ.out)).mono ?_; rintro e w16 ⟨v16, rfl, ho16, hb16⟩; rw [HGE.out.2.1] at ho16; rw [HGE.out.1]; obtain ⟨a16, c16, g16, rfl, -, -, hp16⟩ := nodes_of_owns ho16; have P16 : Hid (NodesAt _ _ _ _ _) := hp16; have B16 : Hid (Below w.heap.size w w16) := BZ.out.trans (hb16.mono BZ.out.size); clear ho16 hb16 hp16) | (go_at_call 16; refine (norm_any _ gb ob cb u _ (HB.out.below B16.out)).mono ?_; rintro e w17 ⟨v17, rfl, ho17, hb17⟩; rw [HG.out.w1] at ho17; rw [HE2.out]; obtain ⟨a17, c17, g17, rfl, -, -, hp17⟩ := nodes_of_owns ho17; have P17 : Hid (NodesAt _ _ _ _ _) := hp17; have Q16 : Hid (NodesAt _ _ _ _ _) := P16.out.below hb17; have B17 : Hid (Below w.heap.size w w17) := B16.out.trans (hb17.mono B16.out.size); clear ho17 hb17 hp17 P16) | (go_at_call 39; refine (Sub_any _ g16 0 c16 G (x : Int) _ Q16.out).mono ?_; rintro e w18 ⟨v18, rfl, ho18, hb18⟩; rw [HGE.out.2.2.2.1] at ho18; rw [HGE.out.2.2.2.2]; obtain ⟨a18, c18, g18, rfl, -, -, hp18⟩ := nodes_of_owns ho18; have P18 : Hid (NodesAt _ _ _ _ _) := hp18; have Q17 : Hid (NodesAt _ _ _ _ _) := P17.out.below hb18; have B18 : Hid (Below w.heap.size w w18) := B17.out.trans (hb18.mono B17.out.size); clear ho18 hb18 hp18 P17) | (go_at_call 17; refine (rEqual_any _ _ g18 0 c18 g17 0 c17 V V _ P18.out Q17.out).mono ?_; rintro e w19 ⟨rfl, hb19⟩; rw [nlEq_me]; have B19 : Hid (Below w.heap.size w w19) := B18.out.trans (hb19.mono B18.out.size); clear hb19))
                go_ret
                exact ⟨rfl, B19.out⟩
    · have FG : Hid ((graE t p u != 0) = true) := by
        show (graE t p u != 0) = true
        unfold graE
        have : sameE t u ≠ 0 := fun q => he2 (sameE_two q).2
        rw [if_pos this]
        simpa using this
      obtain ⟨e1, e2⟩ := e_ne he2
      clear he1 he2
      go_enter Tryd.func9, Tryd.ntmps9
      go_wp2_with (first | (go_at_call 12; refine (known_any _ HL.out).mono ?_; rintro e w1 ⟨rfl, hb1⟩; have B1 : Hid (Below w.heap.size w w1) := hb1; clear hb1 HL) | (go_at_call 13; have hq := HK; refine (check_any _ ga oa ca t _ (HA.out.below B1.out)).mono ?_; rintro e w2 ⟨rfl, hb2⟩; rw [HE1.out]; have B2 : Hid (Below w.heap.size w w2) := B1.out.trans (hb2.mono B1.out.size); clear hb2 hq HK) | (go_at_call 13; have hq := B2; refine (check_any _ gb ob cb u _ (HB.out.below B2.out)).mono ?_; rintro e w3 ⟨rfl, hb3⟩; have B3 : Hid (Below w.heap.size w w3) := B2.out.trans (hb3.mono B2.out.size); clear hb3 hq) | (go_at_call 41; refine (Graft_any _ _ ga oa ca gb ob cb t u p _ (HA.out.below B3.out) (HB.out.below B3.out)).mono ?_; rintro e w6 ⟨v6, rfl, ho6, hb6⟩; have B6 : Hid (Below w.heap.size w w6) := B3.out.trans (hb6.mono B3.out.size); clear ho6 hb6))
      go_ret
      exact ⟨by rw [FG.out]; rfl, B6.out⟩
  · have FG : Hid ((graE t p u != 0) = true) := by
      show (graE t p u != 0) = true
      unfold graE
      have : sameE t u ≠ 0 := fun q => he1 (sameE_two q).1
      rw [if_pos this]
      simpa using this
    obtain ⟨e1, e2⟩ := e_ne he1
    clear he1
    go_enter Tryd.func9, Tryd.ntmps9
    go_wp2_with (first | (go_at_call 12; refine (known_any _ HL.out).mono ?_; rintro e w1 ⟨rfl, hb1⟩; have B1 : Hid (Below w.heap.size w w1) := hb1; clear hb1 HL) | (go_at_call 13; have hq := HK; refine (check_any _ ga oa ca t _ (HA.out.below B1.out)).mono ?_; rintro e w2 ⟨rfl, hb2⟩; have B2 : Hid (Below w.heap.size w w2) := B1.out.trans (hb2.mono B1.out.size); clear hb2 hq HK) | (go_at_call 41; refine (Graft_any _ _ ga oa ca gb ob cb t u p _ (HA.out.below B2.out) (HB.out.below B2.out)).mono ?_; rintro e w6 ⟨v6, rfl, ho6, hb6⟩; have B6 : Hid (Below w.heap.size w w6) := B2.out.trans (hb6.mono B2.out.size); clear ho6 hb6))
    go_ret
    exact ⟨by rw [FG.out]; rfl, B6.out⟩
end Go.Proofs.YtjekmkfpakdkeaaDoor
