
/- Layer 18: the node of a place (pure), and the reference's asked. Layer 18: the reference's asked. Made by mk_sask2.py. Layer 18: the reference's side, Can. Layer 18: the reference's Here. Layer 18: the reference's Spots. Layer 18: the law StepsSpots. -/

import Derived.Test.YtfjkddjjpbdjkaaSCan

import Derived.Test.YtfjkddjjpbdjkaaSOpen

namespace Go.Proofs.Ytfjkddjjpbdjkaa

open Go.RowKit

attribute [local go_sem ↓] Go.wp_at_zero Go.wp_at_succ

theorem find_some {t : NL} {x : Nat} {P : PT} (h : GrP t x P) {a : Int} {Q : PT} : P.find a = some Q → ∃ n : Nat, a = (n : Int) ∧ GrP t n Q := by
  induction h with
  | @lf p h1 h2 h3 =>
    intro e
    simp only [PT.find] at e
    split at e
    · rename_i q
      cases e
      exact ⟨p, q.symm, .lf h1 h2 h3⟩
    · cases e
  | @nd p l r L R h1 h2 h3 hL hR i1 i2 =>
    intro e
    simp only [PT.find] at e
    split at e
    · rename_i q
      cases e
      exact ⟨p, q.symm, .nd h1 h2 h3 hL hR⟩
    · cases hq : L.find a with
      | none => rw [hq] at e; exact i2 (by simpa using e)
      | some Q' => rw [hq] at e; exact i1 (by rw [hq]; simpa using e)
theorem find_mem {t : NL} {x : Nat} {P : PT} (h : GrP t x P) (n : Nat) : ∀ {M : List Nat}, Tree t x M → ((P.find (n : Int)).isSome = true ↔ n ∈ M) := by
  induction h with
  | @lf p h1 h2 h3 =>
    intro M hT
    cases hT with
    | inner _ q => omega
    | leaf =>
      simp only [PT.find, List.mem_singleton]
      by_cases e : (p : Int) = (n : Int)
      · rw [if_pos e]; simp; omega
      · rw [if_neg e]; simp; omega
  | @nd p l r L R h1 h2 h3 hL hR i1 i2 =>
    intro M hT
    cases hT with
    | leaf _ q => omega
    | inner _ q1 q2 t1 t2 =>
      obtain rfl := Int.ofNat.inj (h2.symm.trans q1)
      obtain rfl := Int.ofNat.inj (h3.symm.trans q2)
      simp only [PT.find, List.mem_cons, List.mem_append]
      by_cases e : (p : Int) = (n : Int)
      · rw [if_pos e]; simp; omega
      · rw [if_neg e]
        have j1 := i1 t1
        have j2 := i2 t2
        have e' : ¬ n = p := by omega
        rw [← j1, ← j2, Option.isSome_or]
        simp [e']
theorem grp_det {t : NL} {n : Nat} {Q : PT} (h : GrP t n Q) : Abs t n Q.bt := by
  induction h with
  | lf h1 h2 h3 => exact .leaf h1 h2 h3
  | nd h1 h2 h3 _ _ i1 i2 => exact .node h1 h2 h3 i1 i2
/-- What lies in the keys' tree is a place of the keys. -/
theorem Crn.ofkey {t : NL} {x l r s : Nat} {K : BT} (h : Crn t x l r s K) {n : Nat} {M : List Nat} (hM : Tree t x M) (hn : n ∈ M) : ofK t (n : Int) = true := by
  obtain ⟨-, hf⟩ := formE_ok h.form
  obtain ⟨L, t1, t2, t3⟩ := hf.tree
  have hlt := hM.all n hn
  cases t1 with
  | leaf _ h1 => have := h.top.1; omega
  | inner _ h1 h2 u1 u2 =>
    obtain rfl := Int.ofNat.inj (h1.symm.trans h.top.1)
    obtain rfl := Int.ofNat.inj (h2.symm.trans h.top.2.1)
    cases u2 with
    | inner _ h3 => have := h.er.1; omega
    | leaf =>
      cases u1 with
      | leaf _ h3 => have := h.arch.1; omega
      | inner _ h3 h4 u3 u4 =>
        obtain rfl := Int.ofNat.inj (h3.symm.trans h.arch.1)
        obtain rfl := Int.ofNat.inj (h4.symm.trans h.arch.2.1)
        cases u4 with
        | inner _ h5 => have := h.es.1; omega
        | leaf =>
          have e := u3.det hM
          subst e
          have n0 : n ≠ 0 := fun e => (List.nodup_cons.1 t2).1 (by rw [← e]; simp [hn])
          have r0 := (List.nodup_cons.1 t2).2
          have nr := (List.nodup_append.1 r0).2.2 n (by simp [hn]) _ (List.mem_singleton_self _)
          have r1 := (List.nodup_append.1 r0).1
          have nl := (List.nodup_cons.1 r1).1
          have r2 := (List.nodup_cons.1 r1).2
          have ns := (List.nodup_append.1 r2).2.2 n hn _ (List.mem_singleton_self _)
          simp only [ofK, Bool.and_eq_true, decide_eq_true_eq, bne_iff_ne, ne_eq, h.top.1, h.top.2.1, Int.toNat_natCast, h.arch.2.1]
          refine ⟨by omega, by omega, by omega, fun e => nl (by rw [← Int.ofNat.inj e]; simp [hn]), by omega⟩
theorem ofK_find {t : NL} {x l r s : Nat} {K : BT} (h : Crn t x l r s K) {P : PT} (hP : GrP t x P) (p : Int) : (P.find p).isSome = ofK t p := by
  obtain ⟨-, hf⟩ := formE_ok h.form
  obtain ⟨M, m1, -⟩ := form_at hf x h.lt.1
  cases hq : ofK t p
  · cases hw : P.find p with
    | none => rfl
    | some Q =>
      obtain ⟨n, rfl, -⟩ := find_some hP hw
      have := h.ofkey m1 ((find_mem hP n m1).1 (by rw [hw]; rfl))
      rw [this] at hq
      cases hq
  · obtain ⟨n, M', rfl, -, -, hT, hn⟩ := h.keyplace hq
    exact (find_mem hP n hT).2 hn
end Go.Proofs.Ytfjkddjjpbdjkaa

namespace Go.Proofs.Ytfjkddjjpbdjkaa

open Go.RowKit

attribute [local go_sem ↓] Go.wp_at_zero Go.wp_at_succ

set_option maxRecDepth 100000 in
set_option maxHeartbeats 4000000 in
theorem asked_any (base : Option Addr) (b o c : Nat) (t : NL) (p k : Int) (mi : Bool) (w : World) (h : NodesAt w base b o t) :
    Calls Try.prog 44 #[.slice base t.length c, .int .i64 p, .agg #[.int .i64 k, .bool mi]] w fun e w' => ∃ v, e = .returned (.tuple #[v, .bool (if lookE t p k mi = 0 then decide (p = (rootR t).1) else false), .int .i64 (lookE t p k mi)]) ∧ Below w.heap.size w w' ∧ (lookE t p k mi = 0 → ∃ Q, POAt w' w.heap.size (some Q) v ∧ GrP t p.toNat Q) := by
  have HA : Hid (NodesAt w base b o t) := h
  have B0 : Hid (Below w.heap.size w (w.alloc (.cells #[.int .i64 k, .bool mi] 24))) := below_alloc _ _
  have CH : Hid (∀ W, NodesAt W base b o t → Calls Try.prog 63 #[.slice base t.length c] W fun e w' => e = .returned (.int .i64 (formE t)) ∧ Below W.heap.size W w') := fun W hW => rcheck_any base b o c t W hW
  have RO : Hid (∀ W, NodesAt W base b o t → Calls Try.prog 64 #[.slice base t.length c] W fun e w' => e = .returned (.tuple #[.int .i64 (rootR t).1, .int .i64 (rootR t).2]) ∧ Below W.heap.size W w') := fun W hW => rRoot_any base b o c t W hW
  have IM : Hid (∀ W, Calls Try.prog 78 #[.agg #[.int .i64 k, .bool mi]] W fun e w' => e = .returned (.bool (mvB k mi)) ∧ Below W.heap.size W w') := fun W => rIsMove_any k mi W
  clear h
  by_cases h0 : formE t = 0
  · have g0 : (formE t != 0) = false := by simp [h0]
    by_cases h1 : (rootR t).2 = 0
    · have g1 : ((rootR t).2 != 0) = false := by simp [h1]
      cases h2 : mvB k mi
      · have F : Hid (lookE t p k mi = 5) := by show _ = _; unfold lookE; rw [if_neg (by simp [h1]), if_pos h2]
        have NZ : Hid (¬ (5 : Int) = 0) := by show ¬ _; decide
        rw [F.out, if_neg NZ.out]
        rw [h2] at IM
        clear F h0 h1 h2
        generalize (rootR t).1 = rt at *
        generalize (rootR t).2 = re at *
        generalize formE t = fe at *
        go_enter Try.func44, Try.ntmps44
        go_wp2_with fail
        refine (CH.out _ (HA.out.below B0.out)).mono ?_
        rintro e w1 ⟨rfl, hb⟩
        have B1 : Hid (Below w.heap.size w w1) := B0.out.trans (hb.mono B0.out.size)
        have M1 : Hid (w1.heap[w.heap.size]? = some (.cells #[.int .i64 k, .bool mi] 24 (0, 0))) := (hb.block _ (by simp)).trans (heap_alloc_at _ _ _ rfl)
        clear hb
        go_wp2_with fail
        refine (RO.out _ (HA.out.below B1.out)).mono ?_
        rintro e w2 ⟨rfl, hb⟩
        have B2 : Hid (Below w.heap.size w w2) := B1.out.trans (hb.mono B1.out.size)
        have M2 : Hid (w2.heap[w.heap.size]? = some (.cells #[.int .i64 k, .bool mi] 24 (0, 0))) := (hb.block _ (Array.getElem?_eq_some_iff.1 M1.out).1).trans M1.out
        have m0 := (cell_of M2.out 0 _ rfl).1
        have m1 := (cell_of M2.out 1 _ rfl).1
        have ml : w.heap.size < w2.heap.size := (Array.getElem?_eq_some_iff.1 M2.out).1
        clear hb
        go_wp2_with fail
        refine (IM.out _).mono ?_
        rintro e w3 ⟨rfl, hb⟩
        have B3 : Hid (Below w.heap.size w w3) := B2.out.trans (hb.mono B2.out.size)
        clear hb
        go_wp2_with fail
        go_ret3
        exact ⟨_, rfl, B3.out, fun q => absurd q NZ.out⟩
      · obtain ⟨x, l, r, s, K, cr⟩ := crn_of h1
        obtain ⟨P, hP, -⟩ := grp_of cr.keys
        have RX : (rootR t).1 = (x : Int) := by rw [cr.root]
        have GR : Hid (∀ W, NodesAt W base b o t → Calls Try.prog 51 #[.slice base t.length c, .int .i64 (x : Int)] W fun e w' => ∃ g : Nat, e = .returned (.pointer (some ⟨g, 0, none⟩)) ∧ PTAt w' W.heap.size P g ∧ Below W.heap.size W w') := fun W hW => grow_any base b o c t hP W hW
        have PA : Hid (∀ B g W, PTAt W B P g → Calls Try.prog 83 #[.pointer (some ⟨g, 0, none⟩), .int .i64 p] W fun e w' => ∃ v, e = .returned v ∧ POAt w' B (P.find p) v ∧ Below W.heap.size W w') := fun B g W hW => place_any p B P g W hW
        have OF : Hid ((P.find p).isSome = ofK t p) := ofK_find cr hP p
        have FS : Hid (∀ Q, P.find p = some Q → GrP t p.toNat Q) := fun Q hQ => by obtain ⟨n, rfl, q⟩ := find_some hP hQ; simpa using q
        rw [h2] at IM
        cases hf : P.find p with
        | none =>
          have h3 : ofK t p = false := by rw [← OF.out, hf]; rfl
          have F : Hid (lookE t p k mi = 1) := by show _ = _; unfold lookE; rw [if_neg (by simp [h1]), if_neg (by simp [h2]), if_pos h3]
          have NZ : Hid (¬ (1 : Int) = 0) := by show ¬ _; decide
          rw [F.out, if_neg NZ.out]
          rw [RX] at RO
          clear F h0 h1 h2 h3 cr hP RX
          generalize (rootR t).2 = re at *
          generalize formE t = fe at *
          go_enter Try.func44, Try.ntmps44
          go_wp2_with fail
          refine (CH.out _ (HA.out.below B0.out)).mono ?_
          rintro e w1 ⟨rfl, hb⟩
          have B1 : Hid (Below w.heap.size w w1) := B0.out.trans (hb.mono B0.out.size)
          have M1 : Hid (w1.heap[w.heap.size]? = some (.cells #[.int .i64 k, .bool mi] 24 (0, 0))) := (hb.block _ (by simp)).trans (heap_alloc_at _ _ _ rfl)
          clear hb
          go_wp2_with fail
          refine (RO.out _ (HA.out.below B1.out)).mono ?_
          rintro e w2 ⟨rfl, hb⟩
          have B2 : Hid (Below w.heap.size w w2) := B1.out.trans (hb.mono B1.out.size)
          have M2 : Hid (w2.heap[w.heap.size]? = some (.cells #[.int .i64 k, .bool mi] 24 (0, 0))) := (hb.block _ (Array.getElem?_eq_some_iff.1 M1.out).1).trans M1.out
          have m0 := (cell_of M2.out 0 _ rfl).1
          have m1 := (cell_of M2.out 1 _ rfl).1
          have ml : w.heap.size < w2.heap.size := (Array.getElem?_eq_some_iff.1 M2.out).1
          clear hb
          go_wp2_with fail
          refine (IM.out _).mono ?_
          rintro e w3 ⟨rfl, hb⟩
          have B3 : Hid (Below w.heap.size w w3) := B2.out.trans (hb.mono B2.out.size)
          clear hb
          go_wp2_with fail
          refine (GR.out _ (HA.out.below B3.out)).mono ?_
          rintro e w4 ⟨g4, rfl, hT, hb⟩
          have B4 : Hid (Below w.heap.size w w4) := B3.out.trans (hb.mono B3.out.size)
          have T4 : Hid (PTAt w4 w.heap.size P g4) := hT.down B3.out.size
          clear hb hT
          go_wp2_with fail
          refine (PA.out _ _ _ T4.out).mono ?_
          rintro e w5 ⟨v5, rfl, hv, hb⟩
          have B5 : Hid (Below w.heap.size w w5) := B4.out.trans (hb.mono B4.out.size)
          rw [hf] at hv
          obtain rfl : v5 = .pointer none := hv
          clear hb
          go_wp2_with fail
          go_ret3
          exact ⟨_, rfl, B5.out, fun q => absurd q NZ.out⟩
        | some Q =>
          have h3 : ofK t p = true := by rw [← OF.out, hf]; rfl
          have F : Hid (lookE t p k mi = 0) := by show _ = _; unfold lookE; rw [if_neg (by simp [h1]), if_neg (by simp [h2]), if_neg (by simp [h3])]
          have hgq := FS.out Q hf
          have HG : Hid (GrP t p.toNat Q) := hgq
          rw [F.out, if_pos rfl, RX]
          rw [RX] at RO
          clear F h0 h1 h2 h3 cr hP RX hgq
          generalize (rootR t).2 = re at *
          generalize formE t = fe at *
          go_enter Try.func44, Try.ntmps44
          go_wp2_with fail
          refine (CH.out _ (HA.out.below B0.out)).mono ?_
          rintro e w1 ⟨rfl, hb⟩
          have B1 : Hid (Below w.heap.size w w1) := B0.out.trans (hb.mono B0.out.size)
          have M1 : Hid (w1.heap[w.heap.size]? = some (.cells #[.int .i64 k, .bool mi] 24 (0, 0))) := (hb.block _ (by simp)).trans (heap_alloc_at _ _ _ rfl)
          clear hb
          go_wp2_with fail
          refine (RO.out _ (HA.out.below B1.out)).mono ?_
          rintro e w2 ⟨rfl, hb⟩
          have B2 : Hid (Below w.heap.size w w2) := B1.out.trans (hb.mono B1.out.size)
          have M2 : Hid (w2.heap[w.heap.size]? = some (.cells #[.int .i64 k, .bool mi] 24 (0, 0))) := (hb.block _ (Array.getElem?_eq_some_iff.1 M1.out).1).trans M1.out
          have m0 := (cell_of M2.out 0 _ rfl).1
          have m1 := (cell_of M2.out 1 _ rfl).1
          have ml : w.heap.size < w2.heap.size := (Array.getElem?_eq_some_iff.1 M2.out).1
          clear hb
          go_wp2_with fail
          refine (IM.out _).mono ?_
          rintro e w3 ⟨rfl, hb⟩
          have B3 : Hid (Below w.heap.size w w3) := B2.out.trans (hb.mono B2.out.size)
          clear hb
          go_wp2_with fail
          refine (GR.out _ (HA.out.below B3.out)).mono ?_
          rintro e w4 ⟨g4, rfl, hT, hb⟩
          have B4 : Hid (Below w.heap.size w w4) := B3.out.trans (hb.mono B3.out.size)
          have T4 : Hid (PTAt w4 w.heap.size P g4) := hT.down B3.out.size
          clear hb hT
          go_wp2_with fail
          refine (PA.out _ _ _ T4.out).mono ?_
          rintro e w5 ⟨v5, rfl, hv, hb⟩
          have B5 : Hid (Below w.heap.size w w5) := B4.out.trans (hb.mono B4.out.size)
          rw [hf] at hv
          obtain ⟨g5, rfl, hv⟩ := hv
          have V5 : Hid (PTAt w5 w.heap.size Q g5) := hv
          clear hb hv
          go_wp2_with fail
          go_ret3
          exact ⟨_, by first | rfl | simp, B5.out, fun _ => ⟨Q, ⟨g5, rfl, V5.out⟩, HG.out⟩⟩
    · have g1 : ((rootR t).2 != 0) = true := by simp [h1]
      have F : Hid (lookE t p k mi = (rootR t).2) := by show _ = _; unfold lookE; rw [if_pos h1]
      have NZ : Hid (¬ (rootR t).2 = 0) := h1
      rw [F.out, if_neg NZ.out]
      clear F h0 h1
      generalize (rootR t).1 = rt at *
      generalize (rootR t).2 = re at *
      generalize formE t = fe at *
      go_enter Try.func44, Try.ntmps44
      go_wp2_with fail
      refine (CH.out _ (HA.out.below B0.out)).mono ?_
      rintro e w1 ⟨rfl, hb⟩
      have B1 : Hid (Below w.heap.size w w1) := B0.out.trans (hb.mono B0.out.size)
      have M1 : Hid (w1.heap[w.heap.size]? = some (.cells #[.int .i64 k, .bool mi] 24 (0, 0))) := (hb.block _ (by simp)).trans (heap_alloc_at _ _ _ rfl)
      clear hb
      go_wp2_with fail
      refine (RO.out _ (HA.out.below B1.out)).mono ?_
      rintro e w2 ⟨rfl, hb⟩
      have B2 : Hid (Below w.heap.size w w2) := B1.out.trans (hb.mono B1.out.size)
      have M2 : Hid (w2.heap[w.heap.size]? = some (.cells #[.int .i64 k, .bool mi] 24 (0, 0))) := (hb.block _ (Array.getElem?_eq_some_iff.1 M1.out).1).trans M1.out
      have m0 := (cell_of M2.out 0 _ rfl).1
      have m1 := (cell_of M2.out 1 _ rfl).1
      have ml : w.heap.size < w2.heap.size := (Array.getElem?_eq_some_iff.1 M2.out).1
      clear hb
      go_wp2_with fail
      go_ret3
      exact ⟨_, rfl, B2.out, fun q => absurd q NZ.out⟩
  · have h1 : (rootR t).2 = formE t := by unfold rootR; rw [if_pos h0]
    have g0 : (formE t != 0) = true := by simp [h0]
    have F : Hid (lookE t p k mi = formE t) := by show _ = _; unfold lookE; rw [h1, if_pos h0]
    have NZ : Hid (¬ formE t = 0) := h0
    rw [F.out, if_neg NZ.out]
    clear F h0 h1
    generalize (rootR t).1 = rt at *
    generalize (rootR t).2 = re at *
    generalize formE t = fe at *
    go_enter Try.func44, Try.ntmps44
    go_wp2_with fail
    refine (CH.out _ (HA.out.below B0.out)).mono ?_
    rintro e w1 ⟨rfl, hb⟩
    have B1 : Hid (Below w.heap.size w w1) := B0.out.trans (hb.mono B0.out.size)
    have M1 : Hid (w1.heap[w.heap.size]? = some (.cells #[.int .i64 k, .bool mi] 24 (0, 0))) := (hb.block _ (by simp)).trans (heap_alloc_at _ _ _ rfl)
    clear hb
    go_wp2_with fail
    go_ret3
    exact ⟨_, rfl, B1.out, fun q => absurd q NZ.out⟩
end Go.Proofs.Ytfjkddjjpbdjkaa

namespace Go.Proofs.Ytfjkddjjpbdjkaa

open Go.RowKit

attribute [local go_sem ↓] Go.wp_at_zero Go.wp_at_succ

def PT.mt (mi : Bool) (P : PT) : PT := if mi then P.mir else P
theorem PT.mt_bt (mi : Bool) (P : PT) : (P.mt mi).bt = P.bt.mt mi := by cases mi <;> simp [PT.mt, BT.mt, PT.mir_bt]
set_option maxRecDepth 100000 in
set_option maxHeartbeats 1000000 in
theorem side_any (B : Nat) (Q : PT) (v : Value) (k : Int) (mi : Bool) (w : World) (hB : B ≤ w.heap.size) (h : POAt w B (some Q) v) :
    Calls Try.prog 46 #[v, .agg #[.int .i64 k, .bool mi]] w fun e w' => ∃ u, e = .returned u ∧ POAt w' B (some (Q.mt mi)) u ∧ Below w.heap.size w w' := by
  obtain ⟨g, rfl, hP⟩ := h
  have B0 : Hid (Below w.heap.size w (w.alloc (.cells #[.int .i64 k, .bool mi] 24))) := below_alloc _ _
  have HP : Hid (PTAt w B Q g) := hP
  have LB : Hid (B ≤ w.heap.size) := hB
  have MI : Hid (∀ W, PTAt W B Q g → Calls Try.prog 88 #[.pointer (some ⟨g, 0, none⟩)] W fun e w' => ∃ g' : Nat, e = .returned (.pointer (some ⟨g', 0, none⟩)) ∧ PTAt w' W.heap.size Q.mir g' ∧ Below W.heap.size W w') := fun W hW => mirrored_any B Q g W hW
  clear hP hB
  cases mi
  · go_enter Try.func46, Try.ntmps46
    go_wp2_with fail
    go_ret
    exact ⟨_, rfl, ⟨g, rfl, HP.out.below B0.out⟩, B0.out⟩
  · go_enter Try.func46, Try.ntmps46
    go_wp2_with fail
    refine (MI.out _ (HP.out.below B0.out)).mono ?_
    rintro e w1 ⟨g1, rfl, hT, hb⟩
    have B1 : Hid (Below w.heap.size w w1) := B0.out.trans (hb.mono B0.out.size)
    have T1 : Hid (PTAt w1 B Q.mir g1) := hT.down (Nat.le_trans LB.out B0.out.size)
    clear hb hT
    go_wp2_with fail
    go_ret
    exact ⟨_, rfl, ⟨g1, rfl, T1.out⟩, B1.out⟩
set_option maxRecDepth 100000 in
set_option maxHeartbeats 4000000 in
theorem rCan_any (base : Option Addr) (b o c : Nat) (t : NL) (p k : Int) (mi : Bool) (w : World) (h : NodesAt w base b o t) :
    Calls Try.prog 12 #[.slice base t.length c, .int .i64 p, .agg #[.int .i64 k, .bool mi]] w fun e w' => e = .returned (.tuple #[.bool (if lookE t p k mi = 0 then canA t p k mi else false), .int .i64 (lookE t p k mi)]) ∧ Below w.heap.size w w' := by
  have HA : Hid (NodesAt w base b o t) := h
  have B0 : Hid (Below w.heap.size w (w.alloc (.cells #[.int .i64 k, .bool mi] 24))) := below_alloc _ _
  clear h
  by_cases h0 : lookE t p k mi = 0
  · have AS : Hid (∀ W, NodesAt W base b o t → Calls Try.prog 44 #[.slice base t.length c, .int .i64 p, .agg #[.int .i64 k, .bool mi]] W fun e w' => ∃ v, e = .returned (.tuple #[v, .bool (decide (p = (rootR t).1)), .int .i64 0]) ∧ Below W.heap.size W w' ∧ ∃ Q, POAt w' W.heap.size (some Q) v ∧ Q.bt = theB t p.toNat) := fun W hW => by
      have q := asked_any base b o c t p k mi W hW
      rw [if_pos h0, h0] at q
      refine q.mono ?_
      rintro e w' ⟨v, h1, h2, h3⟩
      obtain ⟨Q, hQ, hG⟩ := h3 rfl
      exact ⟨v, h1, h2, Q, hQ, (theB_of (grp_det hG)).symm⟩
    have hk : 1 ≤ k ∧ k ≤ 12 := by obtain ⟨_, _, _, _, _, _, _, q⟩ := look_place h0; exact q
    have CA : Hid (∀ Q : PT, Q.bt = theB t p.toNat → ∀ W B v, POAt W B (some (Q.mt mi)) v → Calls Try.prog 45 #[v, .int .i64 k, .bool (decide (p = (rootR t).1))] W fun e w' => e = .returned (.bool (canA t p k mi)) ∧ Below W.heap.size W w') := fun Q hQ W B v hv => by
      have q := rcan_any B _ v k (decide (p = (rootR t).1)) W hk hv
      rw [Option.map_some, PT.mt_bt, hQ] at q
      exact q
    rw [if_pos h0, h0]
    clear h0 hk
    generalize canA t p k mi = A at *
    generalize decide (p = (rootR t).1) = rt at *
    generalize theB t p.toNat = TB at *
    go_enter Try.func12, Try.ntmps12
    go_wp2_with fail
    refine (AS.out _ (HA.out.below B0.out)).mono ?_
    rintro e w1 ⟨v1, rfl, hb, Q, hQ, eQ⟩
    have B1 : Hid (Below w.heap.size w w1) := B0.out.trans (hb.mono B0.out.size)
    have M1 : Hid (w1.heap[w.heap.size]? = some (.cells #[.int .i64 k, .bool mi] 24 (0, 0))) := (hb.block _ (by simp)).trans (heap_alloc_at _ _ _ rfl)
    have CC : Hid (∀ z, Below w1.heap.size w1 z → z.cell? ⟨w.heap.size, 0, none⟩ = some (.int .i64 k) ∧ z.cell? ⟨w.heap.size, 1, none⟩ = some (.bool mi)) := fun z hz => by
      have q := (hz.block _ (Array.getElem?_eq_some_iff.1 M1.out).1).trans M1.out
      exact ⟨(cell_of q 0 _ rfl).1, (cell_of q 1 _ rfl).1⟩
    obtain ⟨m0, m1⟩ := CC.out w1 (Below.refl _ _)
    have ml : w.heap.size < w1.heap.size := (Array.getElem?_eq_some_iff.1 M1.out).1
    have Q1 : Hid (POAt w1 w.heap.size (some Q) v1) := by obtain ⟨g, e1, e2⟩ := hQ; exact ⟨g, e1, e2.down B0.out.size⟩
    have D1 : Hid (Below w1.heap.size w1 w1.drew) := (Below.refl _ _).drew
    have SI : Hid (∀ W, w.heap.size ≤ W.heap.size → POAt W w.heap.size (some Q) v1 → Calls Try.prog 46 #[v1, .agg #[.int .i64 k, .bool mi]] W fun e w' => ∃ u, e = .returned u ∧ POAt w' w.heap.size (some (Q.mt mi)) u ∧ Below W.heap.size W w') := fun W h1 h2 => side_any _ Q v1 k mi W h1 h2
    have CN : Hid (∀ W v, POAt W w.heap.size (some (Q.mt mi)) v → Calls Try.prog 45 #[v, .int .i64 k, .bool rt] W fun e w' => e = .returned (.bool A) ∧ Below W.heap.size W w') := fun W v hv => CA.out Q eQ W _ v hv
    clear hb hQ eQ AS CA
    go_wp2_with fail
    go_region_held3 (fun w' => w'.cell? ⟨w.heap.size, 0, none⟩ = some (.int .i64 k) ∧ w'.cell? ⟨w.heap.size, 1, none⟩ = some (.bool mi))
      (first | (with_reducible exact X3.out) | (with_reducible exact X2.out) | go_keep)
      (first | (go_at_call 46; refine (SI.out _ (Nat.le_trans B1.out.size D1.out.size) (Q1.out.below D1.out)).mono ?_; rintro e w2 ⟨u2, rfl, hu, hb⟩; have B2 : Hid (Below w1.heap.size w1 w2) := D1.out.trans (hb.mono D1.out.size); have X2 : Hid (w2.cell? ⟨w.heap.size, 0, none⟩ = some (.int .i64 k) ∧ w2.cell? ⟨w.heap.size, 1, none⟩ = some (.bool mi)) := CC.out _ B2.out; have U2 : Hid (POAt w2 w.heap.size (some (Q.mt mi)) u2) := hu; clear hb hu) | (go_at_call 45; refine (CN.out _ _ U2.out).mono ?_; rintro e w3 ⟨rfl, hb⟩; have B3 : Hid (Below w1.heap.size w1 w3) := B2.out.trans (hb.mono B2.out.size); have X3 : Hid (w3.cell? ⟨w.heap.size, 0, none⟩ = some (.int .i64 k) ∧ w3.cell? ⟨w.heap.size, 1, none⟩ = some (.bool mi)) := CC.out _ B3.out; clear hb))
    all_goals go_wp2_with fail
    all_goals go_ret2
    all_goals exact ⟨rfl, B1.out.trans (B3.out.mono B1.out.size)⟩
  · have AS : Hid (∀ W, NodesAt W base b o t → Calls Try.prog 44 #[.slice base t.length c, .int .i64 p, .agg #[.int .i64 k, .bool mi]] W fun e w' => ∃ v, e = .returned (.tuple #[v, .bool false, .int .i64 (lookE t p k mi)]) ∧ Below W.heap.size W w') := fun W hW => by
      have q := asked_any base b o c t p k mi W hW
      rw [if_neg h0] at q
      refine q.mono ?_
      rintro e w' ⟨v, h1, h2, h3⟩
      exact ⟨v, h1, h2⟩
    have d0 : (lookE t p k mi != 0) = true := by simp [h0]
    rw [if_neg h0]
    clear h0
    generalize lookE t p k mi = E at *
    go_enter Try.func12, Try.ntmps12
    go_wp2_with fail
    refine (AS.out _ (HA.out.below B0.out)).mono ?_
    rintro e w1 ⟨v1, rfl, hb⟩
    have B1 : Hid (Below w.heap.size w w1) := B0.out.trans (hb.mono B0.out.size)
    clear hb
    go_wp2_with fail
    go_ret2
    exact ⟨rfl, B1.out⟩
end Go.Proofs.Ytfjkddjjpbdjkaa

namespace Go.Proofs.Ytfjkddjjpbdjkaa

open Go.RowKit

attribute [local go_sem ↓] Go.wp_at_zero Go.wp_at_succ

theorem RvRow.down {w w1 x : World} {v : Value} {V : List MvD} (h : RvRow w1 x v V) (hb : Below w.heap.size w w1) : RvRow w x v V :=
  ⟨owns_down h.own hb.size, hb.trans (h.below.mono hb.size)⟩
theorem RvRow.nil {w x : World} (h : Below w.heap.size w x) : RvRow w x (.slice .none 0 0) [] := ⟨World.ownsRow_nil _ _ _ _, h⟩
theorem allK_moves : ∀ m ∈ allK 12, mvB m.1 m.2 = true := by decide
theorem look_here (t : NL) (p : Int) : lookE t p 1 false = hereE t p := by
  unfold lookE hereE
  rw [if_neg (c := mvB 1 false = false) (by decide)]
theorem look_all {t : NL} {p : Int} (h : hereE t p = 0) {m : MvD} (hm : m ∈ allK 12) : lookE t p m.1 m.2 = 0 := by
  have e : mvB m.1 m.2 = mvB 1 false := by rw [allK_moves m hm]; decide
  rw [← look_here] at h
  unfold lookE at h ⊢
  rw [e]
  exact h
set_option maxRecDepth 100000 in
set_option maxHeartbeats 4000000 in
theorem rHere_any (base : Option Addr) (b o c : Nat) (t : NL) (p : Int) (w : World) (h : NodesAt w base b o t) :
    Calls Try.prog 14 #[.slice base t.length c, .int .i64 p] w fun e w' => ∃ v, e = .returned (.tuple #[v, .int .i64 (hereE t p)]) ∧ RvRow w w' v (hereL t p) := by
  have HA : Hid (NodesAt w base b o t) := h
  have AS : Hid (∀ W, NodesAt W base b o t → Calls Try.prog 44 #[.slice base t.length c, .int .i64 p, .agg #[.int .i64 1, .bool false]] W fun e w' => ∃ v d, e = .returned (.tuple #[v, .bool d, .int .i64 (hereE t p)]) ∧ Below W.heap.size W w') := fun W hW => by
    have q := asked_any base b o c t p 1 false W hW
    rw [look_here] at q
    refine q.mono ?_
    rintro e w' ⟨v, h1, h2, -⟩
    exact ⟨v, _, h1, h2⟩
  clear h
  by_cases h0 : hereE t p = 0
  · have AA : Hid (∀ W, Calls Try.prog 40 #[] W fun e w' => ∃ v, e = .returned v ∧ RvRow W w' v (allK 12)) := fun W => rAll_any W
    have CN : Hid (∀ j, j < (allK 12).length → ∀ W, NodesAt W base b o t → Calls Try.prog 12 #[.slice base t.length c, .int .i64 p, .agg #[.int .i64 ((allK 12).getD j mv0).1, .bool ((allK 12).getD j mv0).2]] W fun e w' => e = .returned (.tuple #[.bool (canO ((allK 12).getD j mv0).1 (decide (p = (rootR t).1)) (some ((theB t p.toNat).mt ((allK 12).getD j mv0).2))), .int .i64 0]) ∧ Below W.heap.size W w') := fun j hj W hW => by
      have q := rCan_any base b o c t p ((allK 12).getD j mv0).1 ((allK 12).getD j mv0).2 W hW
      have hm : (allK 12).getD j mv0 ∈ allK 12 := by
        have e : (allK 12).getD j mv0 = (allK 12)[j] := by simp [List.getD_eq_getElem?_getD, List.getElem?_eq_getElem hj]
        rw [e]
        exact List.getElem_mem hj
      have z := look_all h0 hm
      rw [if_pos z, z] at q
      exact q
    have FL : Hid (hereL t p = (allK 12).filter (fun m => canO m.1 (decide (p = (rootR t).1)) (some ((theB t p.toNat).mt m.2)))) := by show _ = _; unfold hereL mvsA mvsB; rw [if_pos h0]
    have FT : Hid (∀ j, j < (allK 12).length → ((allK 12).take (j + 1)).filter (fun m => canO m.1 (decide (p = (rootR t).1)) (some ((theB t p.toNat).mt m.2))) = if canO ((allK 12).getD j mv0).1 (decide (p = (rootR t).1)) (some ((theB t p.toNat).mt ((allK 12).getD j mv0).2)) then ((allK 12).take j).filter (fun m => canO m.1 (decide (p = (rootR t).1)) (some ((theB t p.toNat).mt m.2))) ++ [(allK 12).getD j mv0] else ((allK 12).take j).filter (fun m => canO m.1 (decide (p = (rootR t).1)) (some ((theB t p.toNat).mt m.2)))) := fun j hj => take_snoc _ _ j hj
    have LA : (allK 12).length = 21 := by decide
    have LF : Hid (∀ j, (((allK 12).take j).filter (fun m => canO m.1 (decide (p = (rootR t).1)) (some ((theB t p.toNat).mt m.2)))).length ≤ 21) := fun j => Nat.le_trans (List.length_filter_le _ _) (Nat.le_trans (List.length_take_le' _ _) (by rw [LA]; exact Nat.le_refl _))
    obtain ⟨i0, hi0, hz0, hz1, hz2⟩ := info_parts rv_info
    generalize hCB : (fun m : MvD => canO m.1 (decide (p = (rootR t).1)) (some ((theB t p.toNat).mt m.2))) = CB at *
    have CN' : Hid (∀ j, j < (allK 12).length → ∀ W, NodesAt W base b o t → Calls Try.prog 12 #[.slice base t.length c, .int .i64 p, .agg #[.int .i64 ((allK 12).getD j mv0).1, .bool ((allK 12).getD j mv0).2]] W fun e w' => e = .returned (.tuple #[.bool (CB ((allK 12).getD j mv0)), .int .i64 0]) ∧ Below W.heap.size W w') := fun j hj W hW => by rw [← hCB]; exact CN.out j hj W hW
    have FT' : Hid (∀ j, j < (allK 12).length → ((allK 12).take (j + 1)).filter CB = if CB ((allK 12).getD j mv0) then ((allK 12).take j).filter CB ++ [(allK 12).getD j mv0] else ((allK 12).take j).filter CB) := fun j hj => by have := FT.out j hj; rw [← hCB] at *; exact this
    clear hCB FT CN
    rw [FL.out, h0]
    rw [h0] at AS
    clear FL h0
    have HL : Hid ((allK 12).length = 21) := LA
    clear LA
    generalize allK 12 = A at *
    go_enter Try.func14, Try.ntmps14
    go_wp2_with fail
    refine (AS.out _ HA.out).mono ?_
    rintro e w1 ⟨v1, d1, rfl, hb⟩
    have B1 : Hid (Below w.heap.size w w1) := hb
    clear hb
    go_wp2_with fail
    refine (AA.out _).mono ?_
    rintro e w4 ⟨v4, rfl, hR⟩
    obtain ⟨ga, ca, rfl, -, hga, -, -, hc, -⟩ := owns_some hR.own (by rw [HL.out]; omega)
    have B4 : Hid (Below w.heap.size w w4) := B1.out.trans (hR.below.mono B1.out.size)
    have CA : Hid (∀ j, j < A.length → w4.cell? ⟨ga, j * 2, none⟩ = some (.int .i64 (A.getD j mv0).1) ∧ w4.cell? ⟨ga, j * 2 + 1, none⟩ = some (.bool (A.getD j mv0).2)) := fun j hj => ⟨(hc _ (by omega)).trans (mvC_get A j hj).1, (hc _ (by omega)).trans (mvC_get A j hj).2⟩
    have HLi : Hid ((A.length : Int) = 21) := by show _ = _; rw [HL.out]; rfl
    clear hc hR
    go_wp2_with fail
    go_loopw [9, 11] (fun v i wr => ∃ j : Nat, j ≤ 21 ∧ i = .int .i64 j ∧ RvRow w4 wr v ((A.take j).filter CB)) (fun _ i _ => 21 - (intOf i).toNat)
    case atStart => exact ⟨0, by omega, rfl, RvRow.none w4⟩
    case round =>
      obtain ⟨j, hj, rfl, hR⟩ := hrel
      have S0 : Hid (RvRow w4 wr u9 ((A.take j).filter CB)) := hR
      have lV := LF.out j
      by_cases hlt : j < 21
      · have hjA : j < A.length := by rw [HL.out]; exact hlt
        obtain ⟨c0, c1⟩ := CA.out j hjA
        have HF : Hid (_ = _) := FT'.out j hjA
        have CJ : Hid (∀ W, NodesAt W base b o t → Calls Try.prog 12 #[.slice base t.length c, .int .i64 p, .agg #[.int .i64 (A.getD j mv0).1, .bool (A.getD j mv0).2]] W fun e w' => e = .returned (.tuple #[.bool (CB (A.getD j mv0)), .int .i64 0]) ∧ Below W.heap.size W w') := CN'.out j hjA
        have jlt : (j : Int) < (A.length : Int) := by rw [HLi.out]; omega
        have j0 : (0 : Int) ≤ (j : Int) := Int.natCast_nonneg _
        have r0 := (hR.below.cell (p := ⟨ga, j * 2, none⟩) hga).trans c0
        have r1 := (hR.below.cell (p := ⟨ga, j * 2 + 1, none⟩) hga).trans c1
        have lga : ga < wr.heap.size := Nat.lt_of_lt_of_le hga hR.below.size
        have BW : Hid (Below w.heap.size w wr) := B4.out.trans (hR.below.mono B4.out.size)
        clear hR c0 c1
        generalize A.getD j mv0 = m at *
        obtain ⟨mk, mm⟩ := m
        simp only at r0 r1 CJ
        generalize (A.take j).filter CB = V at *
        cases hq : CB (mk, mm)
        · rw [hq] at HF CJ
          go_wp2_with fail
          refine (CJ.out _ (HA.out.below BW.out)).mono ?_
          rintro e w5 ⟨rfl, hb⟩
          have S5 : Hid (RvRow w4 w5 u9 V) := S0.out.quiet hb
          clear hb
          go_wp2_with fail
          exact ⟨⟨j + 1, by omega, by go_num, by rw [HF.out]; exact S5.out⟩, by simp [intOf]; omega⟩
        · rw [hq] at HF CJ
          go_wp2_with fail
          refine (CJ.out _ (HA.out.below BW.out)).mono ?_
          rintro e w5 ⟨rfl, hb⟩
          have S5 : Hid (RvRow w4 w5 u9 V) := S0.out.quiet hb
          have y0 := (hb.cell (p := ⟨ga, j * 2, none⟩) lga).trans r0
          have y1 := (hb.cell (p := ⟨ga, j * 2 + 1, none⟩) lga).trans r1
          have yl : ga < w5.heap.size := Nat.lt_of_lt_of_le lga hb.size
          have zz : w4.heap.size ≤ w5.heap.size := S5.out.below.size
          clear hb
          go_wp2_with (first | (at_builtin; (refine wpList_append_lies _ (by rfl) _ _ _ (by rfl) w4.heap.size 24 i0 _ 2 16 rvs_under hi0 hz0 hz1 hz2 rfl (by omega) _ V.length _ (by rfl) (S5.out.own.alloc _) ⟨w5.heap.size, 0, none⟩ 1 1 [.int .i64 mk, .bool mm] (by rfl) (by rfl) (World.news_of_block (cs := #[.int .i64 mk, .bool mm]) (t := 24) (fr := (0, 0)) (heap_alloc_at _ _ _ (by simp))) (by simp [Value.oneCell']) (by omega) (by unfold maxLen; omega) (by omega) (by simp; omega) (w5.heap.size + 1) (by simp) ?_); intro g6 c6 w6 ho hg hat hl; have S6 : Hid (RvRow w4 w6 (.slice (some ⟨g6, 0, none⟩) (V.length + 1) c6) (V ++ [(mk, mm)])) := S5.out.grown (q := (mk, mm)) hg ho; clear ho hg hat hl))
          exact ⟨⟨j + 1, by omega, by go_num, by rw [HF.out]; exact S6.out⟩, by simp [intOf]; omega⟩
      · have ej : Hid (j = A.length) := by show _ = _; rw [HL.out]; omega
        have hAll : Hid (A.take j = A) := by show _ = _; rw [ej.out]; exact List.take_length
        have nlt : ¬ ((j : Int) < (A.length : Int)) := by rw [ej.out]; omega
        clear hR
        go_wp2_with fail
        go_ret2
        refine ⟨_, rfl, ?_⟩
        have := S0.out
        rw [hAll.out] at this
        exact this.down B4.out
  · have FL : Hid (hereL t p = []) := by show _ = _; unfold hereL; rw [if_neg h0]
    have d0 : (hereE t p != 0) = true := by simp [h0]
    rw [FL.out]
    clear FL h0
    generalize hereE t p = E at *
    go_enter Try.func14, Try.ntmps14
    go_wp2_with fail
    refine (AS.out _ HA.out).mono ?_
    rintro e w1 ⟨v1, d1, rfl, hb⟩
    have B1 : Hid (Below w.heap.size w w1) := hb
    clear hb
    go_wp2_with fail
    go_ret2
    exact ⟨_, rfl, RvRow.nil B1.out⟩
end Go.Proofs.Ytfjkddjjpbdjkaa

namespace Go.Proofs.Ytfjkddjjpbdjkaa

open Go.RowKit

attribute [local go_sem ↓] Go.wp_at_zero Go.wp_at_succ

/-- Two rows that are ours, and a third that is read. -/
structure InRr (w x : World) (u v : Value) (P : List Nat) (V : List MvD) (n ga : Nat) (cur : Array Value) : Prop where
  own1 : x.ownsRow w.heap.size 3 1 u P.length (natC P)
  own2 : x.ownsRow w.heap.size 24 2 v V.length (mvC V)
  below : Below w.heap.size w x
  far : 0 < n → x.heap[ga]? = some (.cells cur 24 (0, 0)) ∧ v.ownBlock ≠ some ga
theorem int_ner {x : World} {B n g : Nat} {u : Value} {xs : List Value} {cur : Array Value} (h : x.ownsRow B 3 1 u n xs) (hg : x.heap[g]? = some (.cells cur 24 (0, 0))) : u.ownBlock ≠ some g := by
  rcases h.2 with ⟨rfl, _⟩ | ⟨g', cap, cur', rfl, _, hgb, _⟩
  · simp [Value.ownBlock]
  · intro e
    have : g' = g := by simpa [Value.ownBlock] using e
    subst this
    rw [hgb] at hg
    simp at hg
theorem rows_ner {x : World} {B n m : Nat} {u v : Value} {xs ys : List Value} (h : x.ownsRow B 3 1 u n xs) (h2 : x.ownsRow B 24 2 v m ys) : v.ownBlock = none ∨ v.ownBlock ≠ u.ownBlock := by
  rcases h2.2 with ⟨rfl, _⟩ | ⟨g', cap, cur', rfl, _, hgb, _⟩
  · exact Or.inl rfl
  · exact Or.inr fun e => int_ner h hgb e.symm
theorem rows_ner' {x : World} {B n m : Nat} {u v : Value} {xs ys : List Value} (h : x.ownsRow B 3 1 u n xs) (h2 : x.ownsRow B 24 2 v m ys) : u.ownBlock = none ∨ u.ownBlock ≠ v.ownBlock := by
  rcases rows_ner h h2 with e | e
  · by_cases q : u.ownBlock = none
    · exact Or.inl q
    · exact Or.inr (by rw [e]; exact q)
  · exact Or.inr (Ne.symm e)
theorem InRr.quiet {w x y : World} {u v : Value} {P : List Nat} {V : List MvD} {n ga : Nat} {cur : Array Value} (h : InRr w x u v P V n ga cur) (hb : Below x.heap.size x y) : InRr w y u v P V n ga cur :=
  ⟨owns_below h.own1 hb, owns_below h.own2 hb, h.below.trans (hb.mono h.below.size), fun hn => ⟨(hb.block ga (Array.getElem?_eq_some_iff.1 (h.far hn).1).1).trans (h.far hn).1, (h.far hn).2⟩⟩
theorem InRr.push1 {w x y : World} {u u' v : Value} {P : List Nat} {V : List MvD} {n ga q : Nat} {cur : Array Value} {o : Obj} (h : InRr w x u v P V n ga cur) (hg : (x.alloc o).grownBy y u.ownBlock) (ho : y.ownsRow w.heap.size 3 1 u' (P.length + 1) (natC P ++ [.int .i64 (q : Int)])) : InRr w y u' v (P ++ [q]) V n ga cur := by
  have k := h.quiet (below_alloc x o)
  refine ⟨by rw [List.length_append, natC_snoc]; exact ho, k.own2.kept hg (rows_ner k.own1 k.own2), Below.grown k.below hg k.below.size (fun b hb => (owns_lt k.own1 b hb).1), fun hn => ⟨?_, (h.far hn).2⟩⟩
  exact (hg.block ga (Array.getElem?_eq_some_iff.1 (k.far hn).1).1 (fun e => int_ner k.own1 (k.far hn).1 e.symm)).trans (k.far hn).1
theorem InRr.push2 {w x y : World} {u v : Value} {P : List Nat} {V : List MvD} {n ga g m c H : Nat} {cur : Array Value} {q : MvD} {o : Obj} (h : InRr w x u v P V n ga cur) (hg : (x.alloc o).grownBy y v.ownBlock) (hat : v.ownBlock = some g ∨ g = H) (hH : x.heap.size ≤ H) (ho : y.ownsRow w.heap.size 24 2 (.slice (some ⟨g, 0, none⟩) m c) (V.length + 1) (mvC V ++ [.int .i64 q.1, .bool q.2])) : InRr w y u (.slice (some ⟨g, 0, none⟩) m c) P (V ++ [q]) n ga cur := by
  have k := h.quiet (below_alloc x o)
  refine ⟨k.own1.kept hg (rows_ner' k.own1 k.own2), by rw [List.length_append, mvC_append]; exact ho, Below.grown k.below hg k.below.size (fun b hb => (owns_lt k.own2 b hb).1), fun hn => ⟨?_, ?_⟩⟩
  · exact (hg.block ga (Array.getElem?_eq_some_iff.1 (k.far hn).1).1 (fun e => (h.far hn).2 e.symm)).trans (k.far hn).1
  · intro e
    have e' : g = ga := by simpa [Value.ownBlock] using e
    subst e'
    rcases hat with q | q
    · exact (h.far hn).2 q
    · have := (Array.getElem?_eq_some_iff.1 (h.far hn).1).1
      omega
theorem InRr.box {w x y : World} {u v : Value} {P : List Nat} {V : List MvD} {n ga g : Nat} {cur : Array Value} {o o' : Obj} (h : InRr w x u v P V n ga cur) (hg : ((x.alloc o).alloc o').grownBy y u.ownBlock) (e : g = x.heap.size) : y.heap[g]? = (x.alloc o).heap[g]? := by
  subst e
  refine (hg.block _ (by simp; omega) (fun q => ?_)).trans (heap_alloc_old _ _ (by simp))
  have := (owns_lt h.own1 _ q.symm).2
  omega
structure SpotRr (w x : World) (u v : Value) (P : List Nat) (V : List MvD) : Prop where
  own1 : x.ownsRow w.heap.size 3 1 u P.length (natC P)
  own2 : x.ownsRow w.heap.size 24 2 v V.length (mvC V)
  below : Below w.heap.size w x
theorem SpotRr.quiet {w x y : World} {u v : Value} {P : List Nat} {V : List MvD} (h : SpotRr w x u v P V) (hb : Below x.heap.size x y) : SpotRr w y u v P V :=
  ⟨owns_below h.own1 hb, owns_below h.own2 hb, h.below.trans (hb.mono h.below.size)⟩
theorem SpotRr.nil {w x : World} (h : Below w.heap.size w x) : SpotRr w x (.slice none 0 0) (.slice none 0 0) [] [] := ⟨World.ownsRow_nil _ _ _ _, World.ownsRow_nil _ _ _ _, h⟩
/-- The row that movesAt hands over, to be read beside the two. -/
theorem SpotRr.into {w x y : World} {u v r : Value} {P : List Nat} {V A : List MvD} (h : SpotRr w x u v P V) (hr : RvRow x y r A) : ∃ (a : Option Addr) (c ga : Nat) (cur : Array Value), r = .slice a A.length c ∧ InRr w y u v P V A.length ga cur ∧ (0 < A.length → a = some ⟨ga, 0, none⟩) ∧ (∀ j, j < A.length → cur[j * 2]? = some (.int .i64 (A.getD j mv0).1) ∧ cur[j * 2 + 1]? = some (.bool (A.getD j mv0).2)) := by
  have k := h.quiet hr.below
  rcases hr.own.2 with ⟨rfl, e0⟩ | ⟨g, cap, cur, rfl, hB, hgb, h1, h2, h3, h4⟩
  · refine ⟨none, 0, 0, #[], by rw [e0], ⟨k.own1, k.own2, k.below, fun hn => by omega⟩, fun hn => by omega, fun j hj => by omega⟩
  · refine ⟨some ⟨g, 0, none⟩, cap, g, cur, rfl, ⟨k.own1, k.own2, k.below, fun _ => ⟨hgb, fun e => ?_⟩⟩, fun _ => rfl, fun j hj => ?_⟩
    · have := (owns_lt h.own2 _ e).2
      omega
    · have q := mvC_get A j hj
      rw [← h4] at q
      rw [List.getElem?_take, if_pos (by omega), List.getElem?_take, if_pos (by omega)] at q
      simpa using q
theorem InRr.out {w x : World} {u v : Value} {P : List Nat} {V : List MvD} {n ga : Nat} {cur : Array Value} (h : InRr w x u v P V n ga cur) : SpotRr w x u v P V := ⟨h.own1, h.own2, h.below⟩
theorem here_key {t : NL} (h : (rootR t).2 = 0) (p : Int) : hereE t p = if ofK t p = false then 1 else 0 := by unfold hereE; rw [if_neg (by simp [h])]
set_option maxRecDepth 100000 in
set_option maxHeartbeats 4000000 in
theorem rSpots_any (base : Option Addr) (b o c : Nat) (t : NL) (w : World) (h : NodesAt w base b o t) :
    Calls Try.prog 26 #[.slice base t.length c] w fun e w' => ∃ u v, e = .returned (.tuple #[u, v, .int .i64 (rootR t).2]) ∧ SpotRr w w' u v (if (rootR t).2 = 0 then spP t t.length else []) (if (rootR t).2 = 0 then spV t t.length else []) := by
  have HA : Hid (NodesAt w base b o t) := h
  have CH : Hid (∀ W, NodesAt W base b o t → Calls Try.prog 63 #[.slice base t.length c] W fun e w' => e = .returned (.int .i64 (formE t)) ∧ Below W.heap.size W w') := fun W hW => rcheck_any base b o c t W hW
  have HR : Hid (∀ W, NodesAt W base b o t → Calls Try.prog 64 #[.slice base t.length c] W fun e w' => e = .returned (.tuple #[.int .i64 (rootR t).1, .int .i64 (rootR t).2]) ∧ Below W.heap.size W w') := fun W hW => rRoot_any base b o c t W hW
  clear h
  by_cases h1 : (rootR t).2 = 0
  · have h0 : formE t = 0 := by obtain ⟨x0, l0, r0, s0, K0, cr⟩ := crn_of h1; exact cr.form
    have HV : Hid (∀ (j : Nat) W, NodesAt W base b o t → Calls Try.prog 14 #[.slice base t.length c, .int .i64 (j : Int)] W fun e w' => ∃ v, e = .returned (.tuple #[v, .int .i64 (if ofK t (j : Int) = false then 1 else 0)]) ∧ RvRow W w' v (if ofK t (j : Int) = false then [] else mvsA t (j : Int))) := fun j W hW => by
      have q := rHere_any base b o c t (j : Int) W hW
      have e : hereL t (j : Int) = if ofK t (j : Int) = false then [] else mvsA t (j : Int) := by
        unfold hereL; rw [here_key h1]; cases ofK t (j : Int) <;> simp
      rw [e, here_key h1] at q
      exact q
    have g0 : (formE t != 0) = false := by simp [h0]
    have d1 : ((rootR t).2 != 0) = false := by simp [h1]
    have HT : t.length ≤ 100000 := (formE_ok h0).1
    obtain ⟨i0, hi0, hz0, hz1, hz2⟩ := info_parts in_info
    obtain ⟨i1, hi1, hy0, hy1, hy2⟩ := info_parts rv_info
    rw [if_pos h1, if_pos h1, h1]
    clear h1 h0
    generalize (rootR t).1 = rt at *
    generalize (rootR t).2 = re at *
    generalize formE t = fe at *
    go_enter Try.func26, Try.ntmps26
    go_wp2_with fail
    refine (CH.out _ HA.out).mono ?_
    rintro e wc ⟨rfl, hb⟩
    have BC : Hid (Below w.heap.size w wc) := hb
    clear hb
    go_wp2_with fail
    refine (HR.out _ (HA.out.below BC.out)).mono ?_
    rintro e w1 ⟨rfl, hb⟩
    have B1 : Hid (Below w.heap.size w w1) := BC.out.trans (hb.mono BC.out.size)
    clear hb
    go_wp2_with fail
    go_loopw [8, 9, 10] (fun u v i wr => ∃ j : Nat, j ≤ t.length ∧ i = .int .i64 j ∧ SpotRr w wr u v (spP t j) (spV t j)) (fun _ _ i _ => t.length - (intOf i).toNat)
    case atStart => exact ⟨0, Nat.zero_le _, rfl, SpotRr.nil B1.out⟩
    case round =>
      obtain ⟨j, hj, rfl, hR⟩ := hrel
      have S0 : Hid (SpotRr w wr u8 u9 (spP t j) (spV t j)) := hR
      obtain ⟨l1, l2⟩ := spP_len t j
      by_cases hlt : j < t.length
      · have jlt : (j : Int) < (t.length : Int) := by omega
        have j0 : (0 : Int) ≤ (j : Int) := Int.natCast_nonneg _
        cases h3 : ofK t (j : Int)
        · have FP : Hid (spP t (j + 1) = spP t j ∧ spV t (j + 1) = spV t j) := ⟨by simp [spP, h3], by simp [spV, h3]⟩
          have HVj : Hid (∀ W, NodesAt W base b o t → Calls Try.prog 14 #[.slice base t.length c, .int .i64 (j : Int)] W fun e w' => ∃ v, e = .returned (.tuple #[v, .int .i64 1]) ∧ RvRow W w' v []) := fun W hW => by have q := HV.out j W hW; rw [if_pos h3, if_pos h3] at q; exact q
          clear hR
          generalize spP t j = P at *
          generalize spV t j = V at *
          go_wp2_with fail
          refine (HVj.out _ (HA.out.below S0.out.below)).mono ?_
          rintro e w2 ⟨r2, rfl, hr2⟩
          have S2 : Hid (SpotRr w w2 u8 u9 P V) := S0.out.quiet hr2.below
          clear hr2 S0 HVj HV h3
          go_wp2_with fail
          go_loopw [8, 9, 13] (fun u v i wr => i = .int .i64 0 ∧ SpotRr w wr u v P V) (fun _ _ _ _ => 0)
          case atStart => exact ⟨rfl, S2.out⟩
          case round =>
            obtain ⟨rfl, hI⟩ := hrel
            have S3 : Hid (SpotRr w wr u8 u9 P V) := hI
            clear hI S2
            go_wp2_with fail
            exact ⟨⟨j + 1, by omega, by go_num, by rw [FP.out.1, FP.out.2]; exact S3.out⟩, by simp [intOf]; omega⟩
        · have FP : Hid (spP t (j + 1) = spP t j ++ List.replicate (mvsA t (j : Int)).length j ∧ spV t (j + 1) = spV t j ++ mvsA t (j : Int)) := ⟨by simp [spP, h3], by simp [spV, h3]⟩
          have lA := mvsA_len t (j : Int)
          have HVj : Hid (∀ W, NodesAt W base b o t → Calls Try.prog 14 #[.slice base t.length c, .int .i64 (j : Int)] W fun e w' => ∃ v, e = .returned (.tuple #[v, .int .i64 0]) ∧ RvRow W w' v (mvsA t (j : Int))) := fun W hW => by have q := HV.out j W hW; rw [if_neg (by simp [h3]), if_neg (by simp [h3])] at q; exact q
          clear hR
          generalize mvsA t (j : Int) = A at *
          generalize spP t j = P at *
          generalize spV t j = V at *
          go_wp2_with fail
          refine (HVj.out _ (HA.out.below S0.out.below)).mono ?_
          rintro e w3 ⟨r3, rfl, hr3⟩
          obtain ⟨a3, c3, ga, cur, rfl, hin, ha3, hcur⟩ := S0.out.into hr3
          have S3 : Hid (InRr w w3 u8 u9 P V A.length ga cur) := hin
          have HA3 : Hid (0 < A.length → a3 = some ⟨ga, 0, none⟩) := ha3
          have HCU : Hid (∀ j, j < A.length → cur[j * 2]? = some (.int .i64 (A.getD j mv0).1) ∧ cur[j * 2 + 1]? = some (.bool (A.getD j mv0).2)) := hcur
          clear hr3 hin ha3 hcur S0 HVj HV h3
          go_wp2_with fail
          go_loopw [8, 9, 13] (fun u v i wr => ∃ k : Nat, k ≤ A.length ∧ i = .int .i64 k ∧ InRr w wr u v (P ++ List.replicate k j) (V ++ A.take k) A.length ga cur) (fun _ _ i _ => A.length - (intOf i).toNat)
          case atStart => exact ⟨0, Nat.zero_le _, rfl, by simpa using S3.out⟩
          case round =>
            obtain ⟨k, hk, rfl, hI⟩ := hrel
            by_cases hkl : k < A.length
            · have e3 := HA3.out (by omega)
              subst e3
              obtain ⟨q0, q1⟩ := HCU.out k hkl
              have hrow := (hI.far (by omega)).1
              have r0 := (cell_of hrow (k * 2) _ q0).1
              have r1 := (cell_of hrow (k * 2 + 1) _ q1).1
              have lga : ga < wr.heap.size := (Array.getElem?_eq_some_iff.1 hrow).1
              have klt : (k : Int) < (A.length : Int) := by omega
              have k0 : (0 : Int) ≤ (k : Int) := Int.natCast_nonneg _
              have TS : Hid (A.take (k + 1) = A.take k ++ [A.getD k mv0]) := takeMv_snoc A k hkl
              have TR : Hid (List.replicate (k + 1) j = List.replicate k j ++ [j]) := List.replicate_succ'
              have lP : (P ++ List.replicate k j).length ≤ 3000000 := by simp; omega
              have lV : (V ++ A.take k).length ≤ 3000000 := by simp; omega
              have I0 : Hid (InRr w wr u8 u9 (P ++ List.replicate k j) (V ++ A.take k) A.length ga cur) := hI
              have KQ : Hid (cur[k * 2]? = some (.int .i64 (A.getD k mv0).1) ∧ cur[k * 2 + 1]? = some (.bool (A.getD k mv0).2)) := ⟨q0, q1⟩
              clear hI hrow q0 q1 S3
              generalize A.getD k mv0 = m at *
              obtain ⟨mk, mm⟩ := m
              simp only at r0 r1
              generalize hP' : P ++ List.replicate k j = P' at *
              generalize hV' : V ++ A.take k = V' at *
              have FP' : Hid (P ++ List.replicate (k + 1) j = P' ++ [j]) := by show _ = _; rw [TR.out, ← List.append_assoc, hP']
              have FV' : Hid (V ++ A.take (k + 1) = V' ++ [(mk, mm)]) := by show _ = _; rw [TS.out, ← List.append_assoc, hV']
              clear hP' hV' TS TR
              have zz : w.heap.size ≤ wr.heap.size := I0.out.below.size
              have CUR : Hid (wr.heap[ga]? = some (.cells cur 24 (0, 0)) ∧ cur[k * 2]? = some (.int .i64 mk) ∧ cur[k * 2 + 1]? = some (.bool mm)) := ⟨(I0.out.far (by omega)).1, KQ.out⟩
              have K0 : Hid True := trivial
              go_wp2_with (first | (at_builtin; have hq := K0; (refine wpList_append_lies _ (by rfl) _ _ _ (by rfl) w.heap.size 3 i0 _ 1 8 ins_under hi0 hz0 hz1 hz2 rfl (by omega) _ P'.length _ (by rfl) (I0.out.own1.alloc _) ⟨wr.heap.size, 0, none⟩ 1 1 [.int .i64 (j : Int)] (by rfl) (by rfl) (World.news_of_block (cs := #[.int .i64 (j : Int)]) (t := 3) (fr := (0, 0)) (heap_alloc_at _ _ _ (by simp))) (by simp [Value.oneCell']) (by omega) (by unfold maxLen; omega) (by omega) (by simp; omega) (wr.heap.size + 1) (by simp) ?_); intro g4 c4 w4 ho hg hat hl; have I4 : Hid (InRr w w4 (.slice (some ⟨g4, 0, none⟩) (P'.length + 1) c4) u9 (P' ++ [j]) V' A.length ga cur) := I0.out.push1 (q := j) hg ho; have y0 := (cell_of (I4.out.far (by omega)).1 (k * 2) _ CUR.out.2.1).1; have y1 := (cell_of (I4.out.far (by omega)).1 (k * 2 + 1) _ CUR.out.2.2).1; have yl : ga < w4.heap.size := (Array.getElem?_eq_some_iff.1 (I4.out.far (by omega)).1).1; have z4 : w.heap.size ≤ w4.heap.size := I4.out.below.size; clear ho hg hat hl hq K0) | (at_builtin; (refine wpList_append_lies _ (by rfl) _ _ _ (by rfl) w.heap.size 24 i1 _ 2 16 rvs_under hi1 hy0 hy1 hy2 rfl (by omega) _ V'.length _ (by rfl) (I4.out.own2.alloc _) ⟨w4.heap.size, 0, none⟩ 1 1 [.int .i64 mk, .bool mm] (by rfl) (by rfl) (World.news_of_block (cs := #[.int .i64 mk, .bool mm]) (t := 24) (fr := (0, 0)) (heap_alloc_at _ _ _ (by simp))) (by simp [Value.oneCell']) (by omega) (by unfold maxLen; omega) (by omega) (by simp; omega) (w4.heap.size + 1) (by simp) ?_); intro g6 c6 w6 ho hg hat hl; have I6 : Hid (InRr w w6 (.slice (some ⟨g4, 0, none⟩) (P'.length + 1) c4) (.slice (some ⟨g6, 0, none⟩) (V'.length + 1) c6) (P' ++ [j]) (V' ++ [(mk, mm)]) A.length ga cur) := I4.out.push2 (q := (mk, mm)) hg hat (by omega) ho; clear ho hg hat hl))
              exact ⟨⟨k + 1, by omega, by go_num, by rw [FP'.out, FV'.out]; exact I6.out⟩, by simp [intOf]; omega⟩
            · have ek : Hid (k = A.length) := by show _ = _; omega
              have nk : ¬ ((k : Int) < (A.length : Int)) := by rw [ek.out]; omega
              have SF : Hid (SpotRr w wr u8 u9 (spP t (j + 1)) (spV t (j + 1))) := by
                rw [FP.out.1, FP.out.2]
                have q := hI.out
                rw [ek.out, List.take_length] at q
                exact q
              clear hI S3
              go_wp2_with fail
              exact ⟨⟨j + 1, by omega, by go_num, SF.out⟩, by simp [intOf]; omega⟩
      · have ej : Hid (j = t.length) := by show _ = _; omega
        have nj : ¬ ((j : Int) < (t.length : Int)) := by rw [ej.out]; omega
        clear hR
        go_wp2_with fail
        go_ret3
        exact ⟨_, _, rfl, by rw [← ej.out]; exact S0.out⟩
  · by_cases h0 : formE t = 0
    · have g0 : (formE t != 0) = false := by simp [h0]
      have d1 : ((rootR t).2 != 0) = true := by simp [h1]
      rw [if_neg h1, if_neg h1]
      clear h1 h0
      generalize (rootR t).1 = rt at *
      generalize (rootR t).2 = re at *
      generalize formE t = fe at *
      go_enter Try.func26, Try.ntmps26
      go_wp2_with fail
      refine (CH.out _ HA.out).mono ?_
      rintro e wc ⟨rfl, hb⟩
      have BC : Hid (Below w.heap.size w wc) := hb
      clear hb
      go_wp2_with fail
      refine (HR.out _ (HA.out.below BC.out)).mono ?_
      rintro e w1 ⟨rfl, hb⟩
      have B1 : Hid (Below w.heap.size w w1) := BC.out.trans (hb.mono BC.out.size)
      clear hb
      go_wp2_with fail
      go_ret3
      exact ⟨_, _, rfl, SpotRr.nil B1.out⟩
    · have g0 : (formE t != 0) = true := by simp [h0]
      have F : (rootR t).2 = formE t := by unfold rootR; rw [if_pos h0]
      rw [if_neg h1, if_neg h1, F]
      clear h1 h0 F
      generalize formE t = fe at *
      go_enter Try.func26, Try.ntmps26
      go_wp2_with fail
      refine (CH.out _ HA.out).mono ?_
      rintro e wc ⟨rfl, hb⟩
      have BC : Hid (Below w.heap.size w wc) := hb
      clear hb
      go_wp2_with fail
      go_ret3
      exact ⟨_, _, rfl, SpotRr.nil BC.out⟩
end Go.Proofs.Ytfjkddjjpbdjkaa

namespace Go.Proofs.Ytfjkddjjpbdjkaa

open Go.RowKit

attribute [local go_sem ↓] Go.wp_at_zero Go.wp_at_succ

/-- A row of places that is read. -/
structure NtAt (w : World) (a : Option Addr) (g : Nat) (V : List Nat) : Prop where
  base : 0 < V.length → a = some ⟨g, 0, none⟩ ∧ g < w.heap.size
  cells : ∀ j, j < V.length → w.cell? ⟨g, j, none⟩ = some (.int .i64 ((V.getD j 0 : Nat) : Int))
theorem NtAt.below {w y : World} {a : Option Addr} {g : Nat} {V : List Nat} (h : NtAt w a g V) (hb : Below w.heap.size w y) : NtAt y a g V :=
  ⟨fun hn => ⟨(h.base hn).1, Nat.lt_of_lt_of_le (h.base hn).2 hb.size⟩, fun j hj => (hb.cell (p := ⟨g, j, none⟩) (h.base (by omega)).2).trans (h.cells j hj)⟩
theorem ntAt_of {x : World} {B : Nat} {v : Value} {V : List Nat} (h : x.ownsRow B 3 1 v V.length (natC V)) : ∃ (a : Option Addr) (c g : Nat), v = .slice a V.length c ∧ NtAt x a g V := by
  by_cases hn : 0 < V.length
  · obtain ⟨g, cap, rfl, -, hg, -, -, hc, -⟩ := owns_some h hn
    exact ⟨_, cap, g, rfl, fun _ => ⟨rfl, hg⟩, fun j hj => (hc _ (by omega)).trans (natC_get V j hj)⟩
  · rcases h.2 with ⟨rfl, e0⟩ | ⟨g, cap, cur, rfl, _⟩
    · exact ⟨none, 0, 0, by rw [e0], fun q => absurd q hn, fun j hj => by omega⟩
    · exact ⟨_, cap, g, rfl, fun q => absurd q hn, fun j hj => by omega⟩
set_option maxRecDepth 100000 in
set_option maxHeartbeats 1000000 in
theorem places_same (x y : Option Addr) (ga gb ca cb : Nat) (V : List Nat) (w : World) (h : NtAt w x ga V) (k : NtAt w y gb V) (hn : V.length ≤ 3000000) :
    Calls Try.prog 25 #[.slice x V.length ca, .slice y V.length cb] w fun e w' => e = .returned (.bool true) ∧ Below w.heap.size w w' := by
  have H1 : Hid (NtAt w x ga V) := h
  have H2 : Hid (NtAt w y gb V) := k
  clear h k
  go_enter Try.func25, Try.ntmps25
  go_wp2_with fail
  go_loopw [5] (fun i wr => ∃ j : Nat, j ≤ V.length ∧ i = .int .i64 j ∧ Below w.heap.size w wr) (fun i _ => V.length - (intOf i).toNat)
  case atStart => exact ⟨0, Nat.zero_le _, rfl, Below.refl _ _⟩
  case round =>
    obtain ⟨j, hj, rfl, hnx⟩ := hrel
    by_cases hlt : j < V.length
    · obtain ⟨rfl, l1⟩ := (H1.out.below hnx).base (by omega)
      obtain ⟨rfl, l2⟩ := (H2.out.below hnx).base (by omega)
      have x0 := (H1.out.below hnx).cells j hlt
      have y0 := (H2.out.below hnx).cells j hlt
      have j0 : (0 : Int) ≤ (j : Int) := Int.natCast_nonneg _
      have j1 : (j : Int) < (V.length : Int) := by omega
      have HX : Hid (Below w.heap.size w wr) := hnx
      clear hnx
      generalize V.getD j 0 = m at *
      go_wp2_with fail
      go_quiet (fail)
      go_wp2_with fail
      exact ⟨⟨j + 1, by omega, by go_num, below_drewN HX.out _⟩, by simp [intOf]; omega⟩
    · have nj : ¬ ((j : Int) < (V.length : Int)) := by omega
      go_wp2_with fail
      go_ret
      exact ⟨rfl, hnx⟩
set_option maxRecDepth 100000 in
theorem plain_same (e : Int) (w : World) : Calls Try.prog 18 #[.int .i64 e, .int .i64 e] w fun r w' => r = .returned (.bool true) ∧ Below w.heap.size w w' := by
  have d : (e == e) = true := by simp
  go_enter Try.func18, Try.ntmps18
  go_wp2_with fail
  go_ret
  exact ⟨by first | rfl | simp, Below.refl _ _⟩
set_option maxRecDepth 100000 in
set_option maxHeartbeats 4000000 in
theorem stepsSpots_any (base : Option Addr) (b o c : Nat) (t : NL) (w : World) (h : NodesAt w base b o t) :
    Calls Try.prog 4 #[.slice base t.length c] w fun e w' => e = .returned (.bool true) ∧ Below w.heap.size w w' := by
  have HA : Hid (NodesAt w base b o t) := h
  have AW : Hid (∀ W, Calls Try.prog 11 #[] W fun e w' => e = .returned (.bool true) ∧ Below W.heap.size W w') := fun W => awake_any W
  clear h
  cases hm : decide (120 < (t.length : Int))
  · have ht : t.length ≤ 120 := by simp at hm; omega
    obtain ⟨q1, q2⟩ := spP_len t t.length
    have lP : (if (rootR t).2 = 0 then spP t t.length else []).length ≤ 3000000 := by split <;> (try simp) <;> omega
    have lV : (if (rootR t).2 = 0 then spV t t.length else []).length ≤ 3000000 := by split <;> (try simp) <;> omega
    have RS : Hid (∀ W, NodesAt W base b o t → Calls Try.prog 26 #[.slice base t.length c] W fun e w' => ∃ u v, e = .returned (.tuple #[u, v, .int .i64 (rootR t).2]) ∧ SpotRr W w' u v (if (rootR t).2 = 0 then spP t t.length else []) (if (rootR t).2 = 0 then spV t t.length else [])) := fun W hW => rSpots_any base b o c t W hW
    have PS : Hid (∀ W, NodesAt W base b o t → Calls Try.prog 27 #[.slice base t.length c] W fun e w' => ∃ u v, e = .returned (.tuple #[u, v, .int .i64 (rootR t).2]) ∧ SpotR W w' u v (if (rootR t).2 = 0 then spP t t.length else []) (if (rootR t).2 = 0 then spV t t.length else [])) := fun W hW => Spots_any base b o c t W hW
    have PL : Hid (∀ W, Calls Try.prog 18 #[.int .i64 (rootR t).2, .int .i64 (rootR t).2] W fun r w' => r = .returned (.bool true) ∧ Below W.heap.size W w') := fun W => plain_same _ W
    clear q1 q2 ht
    generalize (if (rootR t).2 = 0 then spP t t.length else []) = P at *
    generalize (if (rootR t).2 = 0 then spV t t.length else []) = V at *
    generalize (rootR t).2 = re at *
    have LP : Hid (P.length ≤ 3000000) := lP
    have LV : Hid (V.length ≤ 3000000) := lV
    clear lP lV
    go_enter Try.func4, Try.ntmps4
    go_wp2_with fail
    refine (AW.out _).mono ?_
    rintro e w1 ⟨rfl, hb⟩
    have B1 : Hid (Below w.heap.size w w1) := hb
    clear hb
    go_wp2_with fail
    refine (RS.out _ (HA.out.below B1.out)).mono ?_
    rintro e w2 ⟨u2, v2, rfl, h2⟩
    obtain ⟨a2, c2, g2, rfl, n2⟩ := ntAt_of h2.own1
    obtain ⟨a3, c3, g3, rfl, n3⟩ := mvAt_of h2.own2
    have N2 : Hid (NtAt w2 a2 g2 P) := n2
    have N3 : Hid (MvAt w2 24 a3 g3 V) := n3
    have B2 : Hid (Below w.heap.size w w2) := B1.out.trans (h2.below.mono B1.out.size)
    clear h2 n2 n3
    go_wp2_with fail
    refine (PS.out _ (HA.out.below B2.out)).mono ?_
    rintro e w3 ⟨u4, v4, rfl, h4⟩
    obtain ⟨a4, c4, g4, rfl, n4⟩ := ntAt_of h4.own1
    obtain ⟨a5, c5, g5, rfl, n5⟩ := mvAt_of h4.own2
    have N4 : Hid (NtAt w3 a4 g4 P) := n4
    have N5 : Hid (MvAt w3 39 a5 g5 V) := n5
    have N2' : Hid (NtAt w3 a2 g2 P) := N2.out.below h4.below
    have N3' : Hid (MvAt w3 24 a3 g3 V) := N3.out.below h4.below
    have B3 : Hid (Below w.heap.size w w3) := B2.out.trans (h4.below.mono B2.out.size)
    clear h4 n4 n5
    go_wp2_with (first | (go_at_call 18; refine (PL.out _).mono ?_; rintro e w4 ⟨rfl, hb⟩; have B4 : Hid (Below w3.heap.size w3 w4) := hb; clear hb) | (go_at_call 25; refine (places_same a4 a2 g4 g2 c4 c2 P _ (N4.out.below B4.out) (N2'.out.below B4.out) LP.out).mono ?_; rintro e w5 ⟨rfl, hb⟩; have B5 : Hid (Below w3.heap.size w3 w5) := B4.out.trans (hb.mono B4.out.size); clear hb) | (go_at_call 23; refine (from_any a5 g5 c5 _ V _ (N5.out.below B5.out) LV.out).mono ?_; rintro e w6 ⟨v6, rfl, h6⟩; obtain ⟨a6, c6, g6, rfl, n6⟩ := mvAt_of h6.own; have N6 : Hid (MvAt w6 24 a6 g6 V) := n6; have B6 : Hid (Below w3.heap.size w3 w6) := B5.out.trans (h6.below.mono B5.out.size); clear h6 n6) | (go_at_call 22; refine (sameMoves_same a6 a3 g6 g3 c6 c3 _ _ V _ N6.out (N3'.out.below B6.out) LV.out).mono ?_; rintro e w7 ⟨rfl, hb⟩; have B7 : Hid (Below w3.heap.size w3 w7) := B6.out.trans (hb.mono B6.out.size); clear hb))
    go_ret
    exact ⟨rfl, B3.out.trans (B7.out.mono B3.out.size)⟩
  · go_enter Try.func4, Try.ntmps4
    go_wp2_with fail
    refine (AW.out _).mono ?_
    rintro e w1 ⟨rfl, hb⟩
    have B1 : Hid (Below w.heap.size w w1) := hb
    clear hb
    go_wp2_with fail
    go_ret
    exact ⟨rfl, B1.out⟩
end Go.Proofs.Ytfjkddjjpbdjkaa
