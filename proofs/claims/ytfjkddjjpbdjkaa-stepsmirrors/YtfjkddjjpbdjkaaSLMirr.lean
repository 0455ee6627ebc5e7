
/- Layer 18: the statements' flipped and mirrored. Layer 18: the law StepsMirrors. Made by mk_slaw.py. -/

import Derived.Test.YtfjkddjjpbdjkaaSOpen

import Derived.Test.YtfjkddjjpbdjkaaSQ14

import Derived.Test.YtfjkddjjpbdjkaaTBt3

namespace Go.Proofs.Ytfjkddjjpbdjkaa

open Go.RowKit

attribute [local go_sem ↓] Go.wp_at_zero Go.wp_at_succ

theorem flip_of {t : NL} {x l r s : Nat} {K : BT} (h : Crn t x l r s K) (hok : K.ok) (hs : K.size + 4 ≤ 100000) : subL t (x : Int) = K.lay 0 ∧ subE t (x : Int) = 0 ∧ mirA (K.lay 0) = K.mir.lay 0 ∧ formE (K.lay 0) = 0 ∧ graA t (x : Int) (K.mir.lay 0) = (crnB t l r s K.mir).lay 0 ∧ graE t (x : Int) (K.mir.lay 0) = 0 := by
  have f1 := lay_formE hok (by omega)
  have f2 := lay_formE (BT.mir_ok hok) (by rw [BT.mir_size]; omega)
  have g := h.graft K.mir
  have sz : (crnB t l r s K.mir).size = K.size + 4 := by simp only [crnB, BT.size, BT.mir_size]; omega
  have gE := graE_abs h.form f2 h.lt.1 (lay_abs0 K.mir) g
  rw [sz, if_neg (by omega)] at gE
  exact ⟨(subL_abs h.form h.lt.1 h.keys).1, (subL_abs h.form h.lt.1 h.keys).2, mirA_abs f1 (lay_abs0 K), f1, graA_abs h.form f2 h.lt.1 (lay_abs0 K.mir) g (by omega), gE⟩
set_option maxRecDepth 100000 in
set_option maxHeartbeats 1000000 in
theorem flipped_any (base : Option Addr) (b o c : Nat) (t : NL) (x l r s : Nat) (K : BT) (hc : Crn t x l r s K) (hok : K.ok) (hs : K.size + 4 ≤ 100000) (w : World) (h : NodesAt w base b o t) :
    Calls Try.prog 38 #[.slice base t.length c, .int .i64 (x : Int)] w fun e w' => ∃ v, e = .returned (.tuple #[v, .bool true]) ∧ w'.ownsRow w.heap.size 74 6 v ((crnB t l r s K.mir).lay 0).length (ndCells ((crnB t l r s K.mir).lay 0)) ∧ Below w.heap.size w w' := by
  obtain ⟨f1, f2, f3, f4, f5, f6⟩ := flip_of hc hok hs
  have HA : Hid (NodesAt w base b o t) := h
  have SB : Hid (∀ W, NodesAt W base b o t → Calls Try.prog 33 #[.slice base t.length c, .int .i64 (x : Int)] W fun e w' => ∃ v, e = .returned (.tuple #[v, .int .i64 0]) ∧ w'.ownsRow W.heap.size 74 6 v (K.lay 0).length (ndCells (K.lay 0)) ∧ Below W.heap.size W w') := fun W hW => by have := Sub_any base b o c t (x : Int) W hW; rw [f1, f2] at this; exact this
  have MI : Hid (∀ {W : World} {b2 : Option Addr} {g2 c2 : Nat}, NodesAt W b2 g2 0 (K.lay 0) → Calls Try.prog 76 #[.slice b2 (K.lay 0).length c2] W fun e w' => ∃ v, e = .returned (.tuple #[v, .int .i64 0]) ∧ w'.ownsRow W.heap.size 74 6 v (K.mir.lay 0).length (ndCells (K.mir.lay 0)) ∧ Below W.heap.size W w') := fun {W b2 g2 c2} hW => by have := Mirror_any b2 g2 0 c2 (K.lay 0) W hW; rw [f3, f4] at this; exact this
  have GR : Hid (∀ {W : World} {b2 : Option Addr} {g2 c2 : Nat}, NodesAt W base b o t → NodesAt W b2 g2 0 (K.mir.lay 0) → Calls Try.prog 34 #[.slice base t.length c, .int .i64 (x : Int), .slice b2 (K.mir.lay 0).length c2] W fun e w' => ∃ v, e = .returned (.tuple #[v, .int .i64 0]) ∧ w'.ownsRow W.heap.size 74 6 v ((crnB t l r s K.mir).lay 0).length (ndCells ((crnB t l r s K.mir).lay 0)) ∧ Below W.heap.size W w') := fun {W b2 g2 c2} hW hX => by have := Graft_any base b2 b o c g2 0 c2 t (K.mir.lay 0) (x : Int) W hW hX; rw [f5, f6] at this; exact this
  clear f1 f2 f3 f4 f5 f6 hc hok hs h
  generalize (crnB t l r s K.mir).lay 0 = Z at *
  generalize K.lay 0 = X at *
  generalize K.mir.lay 0 = Y at *
  go_enter Try.func38, Try.ntmps38
  go_wp2_with fail
  refine (SB.out _ HA.out).mono ?_
  rintro e w1 ⟨v1, rfl, ho, hb⟩
  obtain ⟨b1, c1, g1, rfl, -, -, hn⟩ := nodes_of_owns ho
  have B1 : Hid (Below w.heap.size w w1) := hb
  have N1 : Hid (NodesAt w1 b1 g1 0 X) := hn
  clear ho hb hn
  go_wp2_with fail
  refine (MI.out N1.out).mono ?_
  rintro e w2 ⟨v2, rfl, ho, hb⟩
  obtain ⟨b2, c2, g2, rfl, -, -, hn⟩ := nodes_of_owns ho
  have B2 : Hid (Below w.heap.size w w2) := B1.out.trans (hb.mono B1.out.size)
  have N2 : Hid (NodesAt w2 b2 g2 0 Y) := hn
  clear ho hb hn
  go_wp2_with fail
  refine (GR.out (HA.out.below B2.out) N2.out).mono ?_
  rintro e w3 ⟨v3, rfl, ho, hb⟩
  have B3 : Hid (Below w.heap.size w w3) := B2.out.trans (hb.mono B2.out.size)
  have O3 : Hid (World.ownsRow _ _ _ _ _ _ _) := owns_down ho B2.out.size
  clear ho hb
  go_wp2_with fail
  go_ret2
  exact ⟨_, rfl, O3.out, B3.out⟩
set_option maxRecDepth 100000 in
set_option maxHeartbeats 4000000 in
theorem mirrored_any (base : Option Addr) (b o c : Nat) (t u : NL) (n : Nat) (k : Int) (mj : Bool) (x l r s : Nat) (K Km K' : BT) (T1 T2 Z : NL) (q : Nat) (hc : Crn t x l r s K) (hM : MiF t u n k mj x l r s K Km K' T1 T2 Z q) (hn : n < t.length) (hbig : t.length ≤ 100000) (w : World) (h : NodesAt w base b o t) :
    Calls Try.prog 37 #[.slice base t.length c, .int .i64 (n : Int)] w fun e w' => ∃ v, e = .returned (.tuple #[v, .int .i64 (q : Int), .bool true]) ∧ w'.ownsRow w.heap.size 74 6 v T1.length (ndCells T1) ∧ Below w.heap.size w w' := by
  obtain rfl : base = some ⟨b, o, none⟩ := h.base (by omega)
  have HA : Hid (NodesAt w (some ⟨b, o, none⟩) b o t) := h
  have hs3 := hM.szm
  have RT : Hid (∀ W, NodesAt W (some ⟨b, o, none⟩) b o t → Calls Try.prog 32 #[.slice (some ⟨b, o, none⟩) t.length c] W fun e w' => e = .returned (.tuple #[.int .i64 (x : Int), .int .i64 0]) ∧ Below W.heap.size W w') := fun W hW => by have := Root_any (some ⟨b, o, none⟩) b o c t W hW; rw [hc.root] at this; exact this
  have FL1 : Hid (∀ W, NodesAt W (some ⟨b, o, none⟩) b o t → Calls Try.prog 38 #[.slice (some ⟨b, o, none⟩) t.length c, .int .i64 (x : Int)] W fun e w' => ∃ v, e = .returned (.tuple #[v, .bool true]) ∧ w'.ownsRow W.heap.size 74 6 v T1.length (ndCells T1) ∧ Below W.heap.size W w') := fun W hW => by have := flipped_any _ b o c t x l r s K hc hM.okM.1 hs3.2.2 W hW; rw [← hM.ek] at this; exact this
  have FL2 : Hid (∀ {W : World} {g2 c2 : Nat}, NodesAt W (some ⟨g2, 0, none⟩) g2 0 (wth t n 1000000) → Calls Try.prog 38 #[.slice (some ⟨g2, 0, none⟩) t.length c2, .int .i64 (x : Int)] W fun e w' => ∃ v, e = .returned (.tuple #[v, .bool true]) ∧ w'.ownsRow W.heap.size 74 6 v T2.length (ndCells T2) ∧ Below W.heap.size W w') := fun {W g2 c2} hW => by
    have := flipped_any _ g2 0 c2 (wth t n 1000000) x l r s Km hM.crm hM.okM.2.1 (by omega) W hW
    rw [hM.crb, ← hM.ekm, wth_length] at this
    exact this
  have hq := hM.qlt
  have hlen := hM.len
  have SM : Hid (∀ j, j < q → (ndAt T2 j).wt = (ndAt T1 j).wt) := hM.same
  have PT : Hid ((ndAt T2 q).wt ≠ (ndAt T1 q).wt) := hM.part
  have tl : T1.length ≤ 100000 := by
    have e : T1.length = K.size + 4 := by rw [hM.ek, BT.lay_length]; simp only [crnB, BT.size, BT.mir_size]; omega
    omega
  have HL : Hid (T2.length = T1.length) := hlen
  obtain ⟨i0, hi0, hz0, hz1, hz2⟩ := info_parts nd_info'
  have n0 : (0 : Int) ≤ (n : Int) := Int.natCast_nonneg _
  have n1 : (n : Int) < (t.length : Int) := by omega
  have hP : Hid (0 < t.length) := by show _ < _; omega
  have hNL : Hid (n < t.length) := hn
  clear hM hc h hs3 hlen
  go_enter Try.func37, Try.ntmps37
  go_wp2_with fail
  refine (RT.out _ HA.out).mono ?_
  rintro e w1 ⟨rfl, hb⟩
  have B1 : Hid (Below w.heap.size w w1) := hb
  have hz : w.heap.size ≤ w1.heap.size := hb.size
  clear hb
  go_wp2_with (first | (at_builtin; (refine wpList_append_all (by rfl) _ _ _ (by rfl) w1.heap.size 74 i0 _ 6 48 nds_under' hi0 hz0 hz1 hz2 rfl (by omega) _ 0 [] (by rfl) ⟨rfl, Or.inr ⟨w1.heap.size, 0, #[], rfl, Nat.le_refl _, heap_alloc_at _ _ _ rfl, Nat.le_refl _, (by unfold maxLen; omega), rfl, rfl⟩⟩ (some ⟨b, o, none⟩) t.length c (ndCells t) (by rfl) (fun h => by cases h) (ndCells_length _) (nodes_news ((HA.out.below B1.out).below (below_alloc _ _))) (ndCells_all _) (by unfold maxLen; omega) (by omega) (by simp) ?_); intro v2 w2 ho2 hgrow hnl; rw [Nat.zero_add, List.nil_append] at ho2; have B2 : Hid (Below w1.heap.size w1 w2) := Below.grown (below_alloc _ _) hgrow (by simp) (by intro k hk; simp [Value.ownBlock] at hk; omega); obtain ⟨g2, cap2, rfl, -⟩ := owns_some ho2 hP.out; have M2 : Hid (MAt w1 w2 g2 cap2 t) := ⟨ho2, B2.out⟩; have cz := M2.out.cell2 n hNL.out; have lg2 := M2.out.lt.2; clear ho2 hgrow hnl))
  have M3 : Hid (MAt w1 (w2.setCell ⟨g2, n * 6 + 2, none⟩ (.int .i64 1000000)) g2 cap2 (wth t n 1000000)) := M2.out.putW n 1000000 hNL.out M2.out.lt.1
  generalize w2.setCell ⟨g2, n * 6 + 2, none⟩ (.int .i64 1000000) = w3 at *
  have B3 : Hid (Below w.heap.size w w3) := B1.out.trans (M3.out.below.mono B1.out.size)
  clear cz M2 B2
  refine (FL1.out _ (HA.out.below B3.out)).mono ?_
  rintro e w4 ⟨v4, rfl, ho, hb⟩
  have B4 : Hid (Below w.heap.size w w4) := B3.out.trans (hb.mono B3.out.size)
  have M4 : Hid (MAt w1 w4 g2 cap2 (wth t n 1000000)) := M3.out.quiet hb
  have O4 : Hid (w4.ownsRow w.heap.size 74 6 v4 T1.length (ndCells T1)) := owns_down ho B3.out.size
  clear ho hb
  go_wp2_with fail
  refine (FL2.out M4.out.nodes).mono ?_
  rintro e w5 ⟨v5, rfl, ho, hb⟩
  have B5 : Hid (Below w.heap.size w w5) := B4.out.trans (hb.mono B4.out.size)
  have O5 : Hid (w5.ownsRow w.heap.size 74 6 v4 T1.length (ndCells T1)) := owns_below O4.out hb
  obtain ⟨b5, c5, g5, rfl, -, -, hn5⟩ := nodes_of_owns ho
  obtain ⟨b4, c4, g4, rfl, -, -, hn4⟩ := nodes_of_owns O5.out
  have N5 : Hid (NodesAt w5 b5 g5 0 T2) := hn5
  have N4 : Hid (NodesAt w5 b4 g4 0 T1) := hn4
  have HLi : Hid ((T2.length : Int) = (T1.length : Int)) := by show _ = _; rw [HL.out]
  clear ho hb hn4 hn5 O4
  go_wp2_with fail
  go_loopw [43] (fun i wr => ∃ j : Nat, j ≤ q ∧ i = .int .i64 j ∧ Below w5.heap.size w5 wr) (fun i _ => q - (intOf i).toNat)
  case atStart => exact ⟨0, Nat.zero_le _, rfl, Below.refl _ _⟩
  case round =>
    obtain ⟨j, hj, rfl, hbw⟩ := hrel
    have HB : Hid (Below w5.heap.size w5 wr) := hbw
    have hj1 : j < T1.length := by omega
    have hj2 : j < T2.length := by rw [HL.out]; omega
    obtain rfl : b5 = some ⟨g5, 0, none⟩ := N5.out.base (by omega)
    obtain rfl : b4 = some ⟨g4, 0, none⟩ := N4.out.base (by omega)
    have c5' := ((N5.out.below hbw).cells j hj2).2.2.1
    have c4' := ((N4.out.below hbw).cells j hj1).2.2.1
    simp only [Nat.zero_add] at c5' c4'
    have l5 := (N5.out.below hbw).lt (by omega)
    have l4 := (N4.out.below hbw).lt (by omega)
    have j0 : (0 : Int) ≤ (j : Int) := Int.natCast_nonneg _
    have j1 : (j : Int) < (T1.length : Int) := by omega
    have j2 : (j : Int) < (T2.length : Int) := by rw [HLi.out]; omega
    by_cases hlt : j < q
    · have dd : ((ndAt T2 j).wt != (ndAt T1 j).wt) = false := by rw [SM.out j hlt]; simp
      clear hbw hj1 hj2
      generalize (ndAt T2 j).wt = y2 at *
      generalize (ndAt T1 j).wt = y1 at *
      go_wp2_with fail
      go_quiet (fail)
      go_wp2_with fail
      exact ⟨⟨j + 1, by omega, by go_num, below_drewN HB.out _⟩, by simp [intOf]; omega⟩
    · obtain rfl : j = q := by omega
      have dd : ((ndAt T2 j).wt != (ndAt T1 j).wt) = true := by have := PT.out; simp [this]
      have O6 : Hid (∀ m, (wr.drewN m).ownsRow w.heap.size 74 6 (.slice (some ⟨g4, 0, none⟩) T1.length c4) T1.length (ndCells T1)) := fun m => drew_owns (owns_below O5.out hbw) m
      clear hbw hj1 hj2 SM PT
      generalize (ndAt T2 j).wt = y2 at *
      generalize (ndAt T1 j).wt = y1 at *
      go_wp2_with fail
      go_quiet (fail)
      go_wp2_with fail
      go_ret3
      exact ⟨_, rfl, O6.out _, below_drewN (B5.out.trans (HB.out.mono B5.out.size)) _⟩
end Go.Proofs.Ytfjkddjjpbdjkaa

namespace Go.Proofs.Ytfjkddjjpbdjkaa

open Go.RowKit

attribute [local go_sem ↓] Go.wp_at_zero Go.wp_at_succ

set_option maxRecDepth 100000 in
set_option maxHeartbeats 8000000 in
theorem stepsMirrors_any (base : Option Addr) (b o c : Nat) (t : NL) (p k : Int) (mi : Bool) (w : World) (h : NodesAt w base b o t) :
    Calls Try.prog 8 #[.slice base t.length c, .int .i64 p, .agg #[.int .i64 k, .bool mi]] w fun e w' => e = .returned (.bool true) ∧ Below w.heap.size w w' := by
  have HA : Hid (NodesAt w base b o t) := h
  have B0 : Hid (Below w.heap.size w (w.alloc (.cells #[.int .i64 k, .bool mi] 24))) := below_alloc _ _
  have AW : Hid (∀ W, Calls Try.prog 11 #[] W fun e w' => e = .returned (.bool true) ∧ Below W.heap.size W w') := fun W => awake_any W
  have DN : Hid (∀ W, NodesAt W base b o t → Calls Try.prog 28 #[.slice base t.length c, .int .i64 p, .agg #[.int .i64 k, .bool mi]] W fun e w' => ∃ v, e = .returned (.tuple #[v, .bool (doE t p k mi == 0)]) ∧ w'.ownsRow W.heap.size 74 6 v (doL t p k mi).length (ndCells (doL t p k mi)) ∧ Below W.heap.size W w') := fun W hW => done_any base b o c t p k mi W hW
  by_cases h0 : doE t p k mi = 0
  · have e0 : (doE t p k mi == 0) = true := by simp [h0]
    obtain ⟨x, l, r, s, K, n, bb, cc, C, K', u, hD⟩ := dof_of h0
    have hdl := hD.dol
    rw [e0, hdl] at DN
    obtain ⟨hbig, hf⟩ := formE_ok hD.crn.form
    obtain ⟨hbigU, hfU⟩ := formE_ok hD.form
    have RT : Hid (∀ W, NodesAt W base b o t → Calls Try.prog 32 #[.slice base t.length c] W fun e w' => e = .returned (.tuple #[.int .i64 (x : Int), .int .i64 0]) ∧ Below W.heap.size W w') := fun W hW => by have := Root_any base b o c t W hW; rw [hD.crn.root] at this; exact this
    have RU : Hid (∀ {W : World} {b2 : Option Addr} {g2 c2 : Nat}, NodesAt W b2 g2 0 u → Calls Try.prog 32 #[.slice b2 u.length c2] W fun e w' => e = .returned (.tuple #[.int .i64 2, .int .i64 0]) ∧ Below W.heap.size W w') := fun {W b2 g2 c2} hW => by have := Root_any b2 g2 0 c2 u W hW; rw [hD.crnU.root] at this; exact this
    have hpl := hD.pl
    subst hpl
    have hlt := hD.lt
    obtain rfl : base = some ⟨b, o, none⟩ := h.base (by omega)
    have hbl := h.lt (by omega)
    have ncell := (h.cells n hlt).2.2.1
    have n0 : (0 : Int) ≤ (n : Int) := Int.natCast_nonneg _
    have n1 : (n : Int) < (t.length : Int) := by omega
    have upos : (0 : Int) < (u.length : Int) := by have := hfU.pos; omega
    have unat : decide (0 < u.length) = true := decide_eq_true hfU.pos
    have NC : Hid (∀ z, Below w.heap.size w z → z.cell? ⟨b, o + n * 6 + 2, none⟩ = some (.int .i64 (ndAt t n).wt) ∧ b < z.heap.size) := fun z hz => ⟨(hz.cell (p := ⟨b, o + n * 6 + 2, none⟩) hbl).trans ncell, Nat.lt_of_lt_of_le hbl hz.size⟩
    by_cases hw : (ndAt t n).wt = 1000000
    · have hwB : ((ndAt t n).wt == 1000000) = true := by simp [hw]
      clear h h0 e0 hdl hf hbig hfU hbigU hD hw ncell hbl hlt RT RU
      generalize (ndAt t n).wt = wt at *
      go_enter Try.func8, Try.ntmps8
      go_wp2_with fail
      refine (AW.out _).mono ?_
      rintro e w1 ⟨rfl, hb⟩
      have M1 : Hid (w1.heap[w.heap.size]? = some (.cells #[.int .i64 k, .bool mi] 24 (0, 0))) := (hb.block _ (by simp)).trans (heap_alloc_at _ _ _ rfl)
      have B1 : Hid (Below w.heap.size w w1) := B0.out.trans (hb.mono B0.out.size)
      have m0 := (cell_of M1.out 0 _ rfl).1
      have m1 := (cell_of M1.out 1 _ rfl).1
      have lt1 : w.heap.size < w1.heap.size := (Array.getElem?_eq_some_iff.1 M1.out).1
      clear hb
      go_wp2_with fail
      refine (DN.out _ (HA.out.below B1.out)).mono ?_
      rintro e w2 ⟨v, rfl, ho, hb⟩
      obtain ⟨base2, cap2, g2, rfl, -, -, hn⟩ := nodes_of_owns ho
      have B2 : Hid (Below w.heap.size w w2) := B1.out.trans (hb.mono B1.out.size)
      have NU : Hid (NodesAt w2 base2 g2 0 u) := hn
      have M2 : Hid (w2.heap[w.heap.size]? = some (.cells #[.int .i64 k, .bool mi] 24 (0, 0))) := (hb.block _ lt1).trans M1.out
      obtain ⟨nc, nl⟩ := NC.out _ B2.out
      clear ho hb hn m0 m1 lt1 M1
      go_wp2_with fail
      go_ret
      exact ⟨rfl, B2.out⟩
    · have hwB : ((ndAt t n).wt == 1000000) = false := by simp [hw]
      obtain ⟨Km, T1, T2, Z, q, hM⟩ := mif_of hD hw
      have MR : Hid (∀ W, NodesAt W (some ⟨b, o, none⟩) b o t → Calls Try.prog 37 #[.slice (some ⟨b, o, none⟩) t.length c, .int .i64 (n : Int)] W fun e w' => ∃ v, e = .returned (.tuple #[v, .int .i64 (q : Int), .bool true]) ∧ w'.ownsRow W.heap.size 74 6 v T1.length (ndCells T1) ∧ Below W.heap.size W w') := fun W hW => mirrored_any _ b o c t u n k _ x l r s K Km K' T1 T2 Z q hD.crn hM hlt hbig W hW
      have D2 : Hid (∀ {W : World} {b2 : Option Addr} {g2 c2 : Nat}, NodesAt W b2 g2 0 T1 → Calls Try.prog 28 #[.slice b2 T1.length c2, .int .i64 (q : Int), .agg #[.int .i64 k, .bool (if hasM k then !mi else mi)]] W fun e w' => ∃ v, e = .returned (.tuple #[v, .bool true]) ∧ w'.ownsRow W.heap.size 74 6 v Z.length (ndCells Z) ∧ Below W.heap.size W w') := fun {W b2 g2 c2} hW => by
        have := done_any b2 g2 0 c2 T1 (q : Int) k (if hasM k then !mi else mi) W hW
        rw [hM.doe, hM.dol] at this
        exact this
      have FU : Hid (∀ {W : World} {b2 : Option Addr} {g2 c2 : Nat}, NodesAt W b2 g2 0 u → Calls Try.prog 38 #[.slice b2 u.length c2, .int .i64 2] W fun e w' => ∃ v, e = .returned (.tuple #[v, .bool true]) ∧ w'.ownsRow W.heap.size 74 6 v Z.length (ndCells Z) ∧ Below W.heap.size W w') := fun {W b2 g2 c2} hW => by
        have hs3 := hM.szm
        have := flipped_any b2 g2 0 c2 u 2 1 (3 + K'.size) (2 + K'.size) K' hD.crnU hM.okM.2.2 (by omega) W hW
        rw [hM.crU, ← hM.ez] at this
        exact this
      have ST : Hid (∀ {W : World} {b1 b2 : Option Addr} {g1 c1 g2 c2 : Nat}, NodesAt W b1 g1 0 Z → NodesAt W b2 g2 0 Z → Calls Try.prog 20 #[.slice b1 Z.length c1, .slice b2 Z.length c2] W fun e w' => e = .returned (.bool true) ∧ Below W.heap.size W w') := fun {W b1 b2 g1 c1 g2 c2} h1 h2 => by
        have := sameT_any b1 b2 g1 0 c1 g2 0 c2 Z Z W h1 h2
        rw [show nlEq Z Z = true by unfold nlEq; simp] at this
        exact this
      have hH : Hid (hasM k = (k != 1 && (k != 11 && k != 12))) := rfl
      clear h h0 e0 hdl hf hbig hfU hbigU hD hM hw ncell hbl hlt RT
      generalize (ndAt t n).wt = wt at *
      cases h1 : (k != 1)
      · skip
        have hk : hasM k = false := by rw [hH.out, h1]; rfl
        rw [hk] at D2
        simp only [Bool.false_eq_true, if_false] at D2
        clear hH hk
        go_enter Try.func8, Try.ntmps8
        go_wp2_with fail
        refine (AW.out _).mono ?_
        rintro e w1 ⟨rfl, hb⟩
        have M1 : Hid (w1.heap[w.heap.size]? = some (.cells #[.int .i64 k, .bool mi] 24 (0, 0))) := (hb.block _ (by simp)).trans (heap_alloc_at _ _ _ rfl)
        have B1 : Hid (Below w.heap.size w w1) := B0.out.trans (hb.mono B0.out.size)
        have m0 := (cell_of M1.out 0 _ rfl).1
        have m1 := (cell_of M1.out 1 _ rfl).1
        have lt1 : w.heap.size < w1.heap.size := (Array.getElem?_eq_some_iff.1 M1.out).1
        clear hb
        go_wp2_with fail
        refine (DN.out _ (HA.out.below B1.out)).mono ?_
        rintro e w2 ⟨v, rfl, ho, hb⟩
        obtain ⟨base2, cap2, g2, rfl, -, -, hn⟩ := nodes_of_owns ho
        have B2 : Hid (Below w.heap.size w w2) := B1.out.trans (hb.mono B1.out.size)
        have NU : Hid (NodesAt w2 base2 g2 0 u) := hn
        have M2 : Hid (w2.heap[w.heap.size]? = some (.cells #[.int .i64 k, .bool mi] 24 (0, 0))) := (hb.block _ lt1).trans M1.out
        obtain ⟨nc, nl⟩ := NC.out _ B2.out
        clear ho hb hn m0 m1 lt1 M1
        go_wp2_with fail
        refine (MR.out _ (HA.out.below B2.out)).mono ?_
        rintro e w3 ⟨v3, rfl, ho, hb⟩
        obtain ⟨b3, c3, g3, rfl, -, -, hn⟩ := nodes_of_owns ho
        have B3 : Hid (Below w.heap.size w w3) := B2.out.trans (hb.mono B2.out.size)
        have NU3 : Hid (NodesAt w3 base2 g2 0 u) := NU.out.below hb
        have N3 : Hid (NodesAt w3 b3 g3 0 T1) := hn
        have M3 : Hid (w3.heap[w.heap.size]? = some (.cells #[.int .i64 k, .bool mi] 24 (0, 0))) := (hb.block _ (Array.getElem?_eq_some_iff.1 M2.out).1).trans M2.out
        have m0 := (cell_of M3.out 0 _ rfl).1
        have m1 := (cell_of M3.out 1 _ rfl).1
        have lt3 : w.heap.size < w3.heap.size := (Array.getElem?_eq_some_iff.1 M3.out).1
        have BX : Hid (∀ v : Bool, Below w3.heap.size w3 (w3.alloc (.cells #[.int .i64 k, .bool v] 24))) := fun v => below_alloc _ _
        clear ho hb hn nc nl
        go_wp2_with fail
        refine (D2.out (N3.out.below (BX.out _))).mono ?_
        rintro e w4 ⟨v4, rfl, ho, hb⟩
        obtain ⟨b4, c4, g4, rfl, -, -, hn⟩ := nodes_of_owns ho
        have B4 : Hid (Below w.heap.size w w4) := (B3.out.trans ((BX.out _).mono B3.out.size)).trans (hb.mono (B3.out.trans ((BX.out _).mono B3.out.size)).size)
        have NU4 : Hid (NodesAt w4 base2 g2 0 u) := (NU3.out.below (BX.out _)).below hb
        have N4 : Hid (NodesAt w4 b4 g4 0 Z) := hn
        clear ho hb hn m0 m1 lt3
        go_wp2_with fail
        refine (RU.out NU4.out).mono ?_
        rintro e w5 ⟨rfl, hb⟩
        have B5 : Hid (Below w.heap.size w w5) := B4.out.trans (hb.mono B4.out.size)
        have NU5 : Hid (NodesAt w5 base2 g2 0 u) := NU4.out.below hb
        have N5 : Hid (NodesAt w5 b4 g4 0 Z) := N4.out.below hb
        clear hb
        go_wp2_with fail
        refine (FU.out NU5.out).mono ?_
        rintro e w6 ⟨v6, rfl, ho, hb⟩
        obtain ⟨b6, c6, g6, rfl, -, -, hn⟩ := nodes_of_owns ho
        have B6 : Hid (Below w.heap.size w w6) := B5.out.trans (hb.mono B5.out.size)
        have N6 : Hid (NodesAt w6 b4 g4 0 Z) := N5.out.below hb
        have N6b : Hid (NodesAt w6 b6 g6 0 Z) := hn
        clear ho hb hn
        go_wp2_with (first | (go_at_call 20; refine (ST.out N6.out N6b.out).mono ?_; rintro e w7 ⟨rfl, hb⟩; have B7 : Hid (Below w.heap.size w w7) := B6.out.trans (hb.mono B6.out.size); clear hb))
        go_ret
        exact ⟨rfl, B7.out⟩
      · cases h11 : (k != 11)
        · skip
          have hk : hasM k = false := by rw [hH.out, h1, h11]; rfl
          rw [hk] at D2
          simp only [Bool.false_eq_true, if_false] at D2
          clear hH hk
          go_enter Try.func8, Try.ntmps8
          go_wp2_with fail
          refine (AW.out _).mono ?_
          rintro e w1 ⟨rfl, hb⟩
          have M1 : Hid (w1.heap[w.heap.size]? = some (.cells #[.int .i64 k, .bool mi] 24 (0, 0))) := (hb.block _ (by simp)).trans (heap_alloc_at _ _ _ rfl)
          have B1 : Hid (Below w.heap.size w w1) := B0.out.trans (hb.mono B0.out.size)
          have m0 := (cell_of M1.out 0 _ rfl).1
          have m1 := (cell_of M1.out 1 _ rfl).1
          have lt1 : w.heap.size < w1.heap.size := (Array.getElem?_eq_some_iff.1 M1.out).1
          clear hb
          go_wp2_with fail
          refine (DN.out _ (HA.out.below B1.out)).mono ?_
          rintro e w2 ⟨v, rfl, ho, hb⟩
          obtain ⟨base2, cap2, g2, rfl, -, -, hn⟩ := nodes_of_owns ho
          have B2 : Hid (Below w.heap.size w w2) := B1.out.trans (hb.mono B1.out.size)
          have NU : Hid (NodesAt w2 base2 g2 0 u) := hn
          have M2 : Hid (w2.heap[w.heap.size]? = some (.cells #[.int .i64 k, .bool mi] 24 (0, 0))) := (hb.block _ lt1).trans M1.out
          obtain ⟨nc, nl⟩ := NC.out _ B2.out
          clear ho hb hn m0 m1 lt1 M1
          go_wp2_with fail
          refine (MR.out _ (HA.out.below B2.out)).mono ?_
          rintro e w3 ⟨v3, rfl, ho, hb⟩
          obtain ⟨b3, c3, g3, rfl, -, -, hn⟩ := nodes_of_owns ho
          have B3 : Hid (Below w.heap.size w w3) := B2.out.trans (hb.mono B2.out.size)
          have NU3 : Hid (NodesAt w3 base2 g2 0 u) := NU.out.below hb
          have N3 : Hid (NodesAt w3 b3 g3 0 T1) := hn
          have M3 : Hid (w3.heap[w.heap.size]? = some (.cells #[.int .i64 k, .bool mi] 24 (0, 0))) := (hb.block _ (Array.getElem?_eq_some_iff.1 M2.out).1).trans M2.out
          have m0 := (cell_of M3.out 0 _ rfl).1
          have m1 := (cell_of M3.out 1 _ rfl).1
          have lt3 : w.heap.size < w3.heap.size := (Array.getElem?_eq_some_iff.1 M3.out).1
          have BX : Hid (∀ v : Bool, Below w3.heap.size w3 (w3.alloc (.cells #[.int .i64 k, .bool v] 24))) := fun v => below_alloc _ _
          clear ho hb hn nc nl
          go_wp2_with fail
          refine (D2.out (N3.out.below (BX.out _))).mono ?_
          rintro e w4 ⟨v4, rfl, ho, hb⟩
          obtain ⟨b4, c4, g4, rfl, -, -, hn⟩ := nodes_of_owns ho
          have B4 : Hid (Below w.heap.size w w4) := (B3.out.trans ((BX.out _).mono B3.out.size)).trans (hb.mono (B3.out.trans ((BX.out _).mono B3.out.size)).size)
          have NU4 : Hid (NodesAt w4 base2 g2 0 u) := (NU3.out.below (BX.out _)).below hb
          have N4 : Hid (NodesAt w4 b4 g4 0 Z) := hn
          clear ho hb hn m0 m1 lt3
          go_wp2_with fail
          refine (RU.out NU4.out).mono ?_
          rintro e w5 ⟨rfl, hb⟩
          have B5 : Hid (Below w.heap.size w w5) := B4.out.trans (hb.mono B4.out.size)
          have NU5 : Hid (NodesAt w5 base2 g2 0 u) := NU4.out.below hb
          have N5 : Hid (NodesAt w5 b4 g4 0 Z) := N4.out.below hb
          clear hb
          go_wp2_with fail
          refine (FU.out NU5.out).mono ?_
          rintro e w6 ⟨v6, rfl, ho, hb⟩
          obtain ⟨b6, c6, g6, rfl, -, -, hn⟩ := nodes_of_owns ho
          have B6 : Hid (Below w.heap.size w w6) := B5.out.trans (hb.mono B5.out.size)
          have N6 : Hid (NodesAt w6 b4 g4 0 Z) := N5.out.below hb
          have N6b : Hid (NodesAt w6 b6 g6 0 Z) := hn
          clear ho hb hn
          go_wp2_with (first | (go_at_call 20; refine (ST.out N6.out N6b.out).mono ?_; rintro e w7 ⟨rfl, hb⟩; have B7 : Hid (Below w.heap.size w w7) := B6.out.trans (hb.mono B6.out.size); clear hb))
          go_ret
          exact ⟨rfl, B7.out⟩
        · cases h12 : (k != 12)
          · skip
            have hk : hasM k = false := by rw [hH.out, h1, h11, h12]; rfl
            rw [hk] at D2
            simp only [Bool.false_eq_true, if_false] at D2
            clear hH hk
            go_enter Try.func8, Try.ntmps8
            go_wp2_with fail
            refine (AW.out _).mono ?_
            rintro e w1 ⟨rfl, hb⟩
            have M1 : Hid (w1.heap[w.heap.size]? = some (.cells #[.int .i64 k, .bool mi] 24 (0, 0))) := (hb.block _ (by simp)).trans (heap_alloc_at _ _ _ rfl)
            have B1 : Hid (Below w.heap.size w w1) := B0.out.trans (hb.mono B0.out.size)
            have m0 := (cell_of M1.out 0 _ rfl).1
            have m1 := (cell_of M1.out 1 _ rfl).1
            have lt1 : w.heap.size < w1.heap.size := (Array.getElem?_eq_some_iff.1 M1.out).1
            clear hb
            go_wp2_with fail
            refine (DN.out _ (HA.out.below B1.out)).mono ?_
            rintro e w2 ⟨v, rfl, ho, hb⟩
            obtain ⟨base2, cap2, g2, rfl, -, -, hn⟩ := nodes_of_owns ho
            have B2 : Hid (Below w.heap.size w w2) := B1.out.trans (hb.mono B1.out.size)
            have NU : Hid (NodesAt w2 base2 g2 0 u) := hn
            have M2 : Hid (w2.heap[w.heap.size]? = some (.cells #[.int .i64 k, .bool mi] 24 (0, 0))) := (hb.block _ lt1).trans M1.out
            obtain ⟨nc, nl⟩ := NC.out _ B2.out
            clear ho hb hn m0 m1 lt1 M1
            go_wp2_with fail
            refine (MR.out _ (HA.out.below B2.out)).mono ?_
            rintro e w3 ⟨v3, rfl, ho, hb⟩
            obtain ⟨b3, c3, g3, rfl, -, -, hn⟩ := nodes_of_owns ho
            have B3 : Hid (Below w.heap.size w w3) := B2.out.trans (hb.mono B2.out.size)
            have NU3 : Hid (NodesAt w3 base2 g2 0 u) := NU.out.below hb
            have N3 : Hid (NodesAt w3 b3 g3 0 T1) := hn
            have M3 : Hid (w3.heap[w.heap.size]? = some (.cells #[.int .i64 k, .bool mi] 24 (0, 0))) := (hb.block _ (Array.getElem?_eq_some_iff.1 M2.out).1).trans M2.out
            have m0 := (cell_of M3.out 0 _ rfl).1
            have m1 := (cell_of M3.out 1 _ rfl).1
            have lt3 : w.heap.size < w3.heap.size := (Array.getElem?_eq_some_iff.1 M3.out).1
            have BX : Hid (∀ v : Bool, Below w3.heap.size w3 (w3.alloc (.cells #[.int .i64 k, .bool v] 24))) := fun v => below_alloc _ _
            clear ho hb hn nc nl
            go_wp2_with fail
            refine (D2.out (N3.out.below (BX.out _))).mono ?_
            rintro e w4 ⟨v4, rfl, ho, hb⟩
            obtain ⟨b4, c4, g4, rfl, -, -, hn⟩ := nodes_of_owns ho
            have B4 : Hid (Below w.heap.size w w4) := (B3.out.trans ((BX.out _).mono B3.out.size)).trans (hb.mono (B3.out.trans ((BX.out _).mono B3.out.size)).size)
            have NU4 : Hid (NodesAt w4 base2 g2 0 u) := (NU3.out.below (BX.out _)).below hb
            have N4 : Hid (NodesAt w4 b4 g4 0 Z) := hn
            clear ho hb hn m0 m1 lt3
            go_wp2_with fail
            refine (RU.out NU4.out).mono ?_
            rintro e w5 ⟨rfl, hb⟩
            have B5 : Hid (Below w.heap.size w w5) := B4.out.trans (hb.mono B4.out.size)
            have NU5 : Hid (NodesAt w5 base2 g2 0 u) := NU4.out.below hb
            have N5 : Hid (NodesAt w5 b4 g4 0 Z) := N4.out.below hb
            clear hb
            go_wp2_with fail
            refine (FU.out NU5.out).mono ?_
            rintro e w6 ⟨v6, rfl, ho, hb⟩
            obtain ⟨b6, c6, g6, rfl, -, -, hn⟩ := nodes_of_owns ho
            have B6 : Hid (Below w.heap.size w w6) := B5.out.trans (hb.mono B5.out.size)
            have N6 : Hid (NodesAt w6 b4 g4 0 Z) := N5.out.below hb
            have N6b : Hid (NodesAt w6 b6 g6 0 Z) := hn
            clear ho hb hn
            go_wp2_with (first | (go_at_call 20; refine (ST.out N6.out N6b.out).mono ?_; rintro e w7 ⟨rfl, hb⟩; have B7 : Hid (Below w.heap.size w w7) := B6.out.trans (hb.mono B6.out.size); clear hb))
            go_ret
            exact ⟨rfl, B7.out⟩
          · skip
            have hk : hasM k = true := by rw [hH.out, h1, h11, h12]; rfl
            rw [hk] at D2
            simp only [if_true] at D2
            clear hH hk
            go_enter Try.func8, Try.ntmps8
            go_wp2_with fail
            refine (AW.out _).mono ?_
            rintro e w1 ⟨rfl, hb⟩
            have M1 : Hid (w1.heap[w.heap.size]? = some (.cells #[.int .i64 k, .bool mi] 24 (0, 0))) := (hb.block _ (by simp)).trans (heap_alloc_at _ _ _ rfl)
            have B1 : Hid (Below w.heap.size w w1) := B0.out.trans (hb.mono B0.out.size)
            have m0 := (cell_of M1.out 0 _ rfl).1
            have m1 := (cell_of M1.out 1 _ rfl).1
            have lt1 : w.heap.size < w1.heap.size := (Array.getElem?_eq_some_iff.1 M1.out).1
            clear hb
            go_wp2_with fail
            refine (DN.out _ (HA.out.below B1.out)).mono ?_
            rintro e w2 ⟨v, rfl, ho, hb⟩
            obtain ⟨base2, cap2, g2, rfl, -, -, hn⟩ := nodes_of_owns ho
            have B2 : Hid (Below w.heap.size w w2) := B1.out.trans (hb.mono B1.out.size)
            have NU : Hid (NodesAt w2 base2 g2 0 u) := hn
            have M2 : Hid (w2.heap[w.heap.size]? = some (.cells #[.int .i64 k, .bool mi] 24 (0, 0))) := (hb.block _ lt1).trans M1.out
            obtain ⟨nc, nl⟩ := NC.out _ B2.out
            clear ho hb hn m0 m1 lt1 M1
            go_wp2_with fail
            refine (MR.out _ (HA.out.below B2.out)).mono ?_
            rintro e w3 ⟨v3, rfl, ho, hb⟩
            obtain ⟨b3, c3, g3, rfl, -, -, hn⟩ := nodes_of_owns ho
            have B3 : Hid (Below w.heap.size w w3) := B2.out.trans (hb.mono B2.out.size)
            have NU3 : Hid (NodesAt w3 base2 g2 0 u) := NU.out.below hb
            have N3 : Hid (NodesAt w3 b3 g3 0 T1) := hn
            have M3 : Hid (w3.heap[w.heap.size]? = some (.cells #[.int .i64 k, .bool mi] 24 (0, 0))) := (hb.block _ (Array.getElem?_eq_some_iff.1 M2.out).1).trans M2.out
            have m0 := (cell_of M3.out 0 _ rfl).1
            have m1 := (cell_of M3.out 1 _ rfl).1
            have lt3 : w.heap.size < w3.heap.size := (Array.getElem?_eq_some_iff.1 M3.out).1
            have BX : Hid (∀ v : Bool, Below w3.heap.size w3 (w3.alloc (.cells #[.int .i64 k, .bool v] 24))) := fun v => below_alloc _ _
            clear ho hb hn nc nl
            go_wp2_with fail
            refine (D2.out (N3.out.below (BX.out _))).mono ?_
            rintro e w4 ⟨v4, rfl, ho, hb⟩
            obtain ⟨b4, c4, g4, rfl, -, -, hn⟩ := nodes_of_owns ho
            have B4 : Hid (Below w.heap.size w w4) := (B3.out.trans ((BX.out _).mono B3.out.size)).trans (hb.mono (B3.out.trans ((BX.out _).mono B3.out.size)).size)
            have NU4 : Hid (NodesAt w4 base2 g2 0 u) := (NU3.out.below (BX.out _)).below hb
            have N4 : Hid (NodesAt w4 b4 g4 0 Z) := hn
            clear ho hb hn m0 m1 lt3
            go_wp2_with fail
            refine (RU.out NU4.out).mono ?_
            rintro e w5 ⟨rfl, hb⟩
            have B5 : Hid (Below w.heap.size w w5) := B4.out.trans (hb.mono B4.out.size)
            have NU5 : Hid (NodesAt w5 base2 g2 0 u) := NU4.out.below hb
            have N5 : Hid (NodesAt w5 b4 g4 0 Z) := N4.out.below hb
            clear hb
            go_wp2_with fail
            refine (FU.out NU5.out).mono ?_
            rintro e w6 ⟨v6, rfl, ho, hb⟩
            obtain ⟨b6, c6, g6, rfl, -, -, hn⟩ := nodes_of_owns ho
            have B6 : Hid (Below w.heap.size w w6) := B5.out.trans (hb.mono B5.out.size)
            have N6 : Hid (NodesAt w6 b4 g4 0 Z) := N5.out.below hb
            have N6b : Hid (NodesAt w6 b6 g6 0 Z) := hn
            clear ho hb hn
            go_wp2_with (first | (go_at_call 20; refine (ST.out N6.out N6b.out).mono ?_; rintro e w7 ⟨rfl, hb⟩; have B7 : Hid (Below w.heap.size w w7) := B6.out.trans (hb.mono B6.out.size); clear hb))
            go_ret
            exact ⟨rfl, B7.out⟩
  · have e0 : (doE t p k mi == 0) = false := by simp [h0]
    have e1 : doL t p k mi = [] := by unfold doL; rw [if_neg h0]
    rw [e0, e1] at DN
    clear h h0 e0 e1
    go_enter Try.func8, Try.ntmps8
    go_wp2_with fail
    refine (AW.out _).mono ?_
    rintro e w1 ⟨rfl, hb⟩
    have M1 : Hid (w1.heap[w.heap.size]? = some (.cells #[.int .i64 k, .bool mi] 24 (0, 0))) := (hb.block _ (by simp)).trans (heap_alloc_at _ _ _ rfl)
    have B1 : Hid (Below w.heap.size w w1) := B0.out.trans (hb.mono B0.out.size)
    have m0 := (cell_of M1.out 0 _ rfl).1
    have m1 := (cell_of M1.out 1 _ rfl).1
    have lt1 : w.heap.size < w1.heap.size := (Array.getElem?_eq_some_iff.1 M1.out).1
    clear hb
    go_wp2_with fail
    refine (DN.out _ (HA.out.below B1.out)).mono ?_
    rintro e w2 ⟨v, rfl, ho, hb⟩
    obtain ⟨base2, cap2, g2, rfl, -, -, -⟩ := nodes_of_owns (t := []) ho
    have B2 : Hid (Below w.heap.size w w2) := B1.out.trans (hb.mono B1.out.size)
    clear ho hb
    go_wp2_with fail
    go_ret
    exact ⟨rfl, B2.out⟩
end Go.Proofs.Ytfjkddjjpbdjkaa
