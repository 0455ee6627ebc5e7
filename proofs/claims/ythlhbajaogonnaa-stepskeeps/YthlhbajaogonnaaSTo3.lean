
/- Layer 18: the node of a place (pure), and the reference's asked. Layer 18: the reference's asked. Made by mk_sask2.py. Layer 18: the reference's side, Can. Layer 18: the reference's Here. Layer 18: the reference's Spots. Layer 18: the law StepsSpots. Layer 18, pure: the walk by depth that Touched of the reference makes: what it finds is the program's list. Made by mk_tou.py. Layer 18, pure: what stands in the place of a node behind a step, on trees of pointers; weights that are too great; another tree in a place. Layer 18: the reference's do. Made by mk_srdo.py. Layer 18: the reference's outs. Made by mk_souts.py. Layer 18: the reference's Touched: its rows. Layer 18: the reference's Touched. -/

import Derived.Test.YthlhbajaogonnaaSCan

import Derived.Test.YthlhbajaogonnaaSOpen

import Derived.Test.YthlhbajaogonnaaSOut

namespace Go.Proofs.Ythlhbajaogonnaa

open Go.RowKit

attribute [local go_sem ↓] Go.wp_at_zero Go.wp_at_succ

theorem find_some {t : NL} {x : Nat} {P : PT} (h : GrP t x P) {a : Int} {Q : PT} : P.find a = some Q → ∃ n : Nat, a = (n : Int) ∧ GrP t n Q := by
  induction h with
  | @lf p h1 h2 h3 =>
    intro e
    simp only [PT.find] at e
    split at e
    · rename_i q
      cases e
      exact ⟨p, q.symm, .lf h1 h2 h3⟩
    · cases e
  | @nd p l r L R h1 h2 h3 hL hR i1 i2 =>
    intro e
    simp only [PT.find] at e
    split at e
    · rename_i q
      cases e
      exact ⟨p, q.symm, .nd h1 h2 h3 hL hR⟩
    · cases hq : L.find a with
      | none => rw [hq] at e; exact i2 (by simpa using e)
      | some Q' => rw [hq] at e; exact i1 (by rw [hq]; simpa using e)
theorem find_mem {t : NL} {x : Nat} {P : PT} (h : GrP t x P) (n : Nat) : ∀ {M : List Nat}, Tree t x M → ((P.find (n : Int)).isSome = true ↔ n ∈ M) := by
  induction h with
  | @lf p h1 h2 h3 =>
    intro M hT
    cases hT with
    | inner _ q => omega
    | leaf =>
      simp only [PT.find, List.mem_singleton]
      by_cases e : (p : Int) = (n : Int)
      · rw [if_pos e]; simp; omega
      · rw [if_neg e]; simp; omega
  | @nd p l r L R h1 h2 h3 hL hR i1 i2 =>
    intro M hT
    cases hT with
    | leaf _ q => omega
    | inner _ q1 q2 t1 t2 =>
      obtain rfl := Int.ofNat.inj (h2.symm.trans q1)
      obtain rfl := Int.ofNat.inj (h3.symm.trans q2)
      simp only [PT.find, List.mem_cons, List.mem_append]
      by_cases e : (p : Int) = (n : Int)
      · rw [if_pos e]; simp; omega
      · rw [if_neg e]
        have j1 := i1 t1
        have j2 := i2 t2
        have e' : ¬ n = p := by omega
        rw [← j1, ← j2, Option.isSome_or]
        simp [e']
theorem grp_det {t : NL} {n : Nat} {Q : PT} (h : GrP t n Q) : Abs t n Q.bt := by
  induction h with
  | lf h1 h2 h3 => exact .leaf h1 h2 h3
  | nd h1 h2 h3 _ _ i1 i2 => exact .node h1 h2 h3 i1 i2
/-- What lies in the keys' tree is a place of the keys. -/
theorem Crn.ofkey {t : NL} {x l r s : Nat} {K : BT} (h : Crn t x l r s K) {n : Nat} {M : List Nat} (hM : Tree t x M) (hn : n ∈ M) : ofK t (n : Int) = true := by
  obtain ⟨-, hf⟩ := formE_ok h.form
  obtain ⟨L, t1, t2, t3⟩ := hf.tree
  have hlt := hM.all n hn
  cases t1 with
  | leaf _ h1 => have := h.top.1; omega
  | inner _ h1 h2 u1 u2 =>
    obtain rfl := Int.ofNat.inj (h1.symm.trans h.top.1)
    obtain rfl := Int.ofNat.inj (h2.symm.trans h.top.2.1)
    cases u2 with
    | inner _ h3 => have := h.er.1; omega
    | leaf =>
      cases u1 with
      | leaf _ h3 => have := h.arch.1; omega
      | inner _ h3 h4 u3 u4 =>
        obtain rfl := Int.ofNat.inj (h3.symm.trans h.arch.1)
        obtain rfl := Int.ofNat.inj (h4.symm.trans h.arch.2.1)
        cases u4 with
        | inner _ h5 => have := h.es.1; omega
        | leaf =>
          have e := u3.det hM
          subst e
          have n0 : n ≠ 0 := fun e => (List.nodup_cons.1 t2).1 (by rw [← e]; simp [hn])
          have r0 := (List.nodup_cons.1 t2).2
          have nr := (List.nodup_append.1 r0).2.2 n (by simp [hn]) _ (List.mem_singleton_self _)
          have r1 := (List.nodup_append.1 r0).1
          have nl := (List.nodup_cons.1 r1).1
          have r2 := (List.nodup_cons.1 r1).2
          have ns := (List.nodup_append.1 r2).2.2 n hn _ (List.mem_singleton_self _)
          simp only [ofK, Bool.and_eq_true, decide_eq_true_eq, bne_iff_ne, ne_eq, h.top.1, h.top.2.1, Int.toNat_natCast, h.arch.2.1]
          refine ⟨by omega, by omega, by omega, fun e => nl (by rw [← Int.ofNat.inj e]; simp [hn]), by omega⟩
theorem ofK_find {t : NL} {x l r s : Nat} {K : BT} (h : Crn t x l r s K) {P : PT} (hP : GrP t x P) (p : Int) : (P.find p).isSome = ofK t p := by
  obtain ⟨-, hf⟩ := formE_ok h.form
  obtain ⟨M, m1, -⟩ := form_at hf x h.lt.1
  cases hq : ofK t p
  · cases hw : P.find p with
    | none => rfl
    | some Q =>
      obtain ⟨n, rfl, -⟩ := find_some hP hw
      have := h.ofkey m1 ((find_mem hP n m1).1 (by rw [hw]; rfl))
      rw [this] at hq
      cases hq
  · obtain ⟨n, M', rfl, -, -, hT, hn⟩ := h.keyplace hq
    exact (find_mem hP n hT).2 hn
end Go.Proofs.Ythlhbajaogonnaa

namespace Go.Proofs.Ythlhbajaogonnaa

open Go.RowKit

attribute [local go_sem ↓] Go.wp_at_zero Go.wp_at_succ

set_option maxRecDepth 100000 in
set_option maxHeartbeats 4000000 in
theorem asked_any (base : Option Addr) (b o c : Nat) (t : NL) (p k : Int) (mi : Bool) (w : World) (h : NodesAt w base b o t) :
    Calls Try.prog 27 #[.slice base t.length c, .int .i64 p, .agg #[.int .i64 k, .bool mi]] w fun e w' => ∃ v, e = .returned (.tuple #[v, .bool (if lookE t p k mi = 0 then decide (p = (rootR t).1) else false), .int .i64 (lookE t p k mi)]) ∧ Below w.heap.size w w' ∧ (lookE t p k mi = 0 → ∃ Q, POAt w' w.heap.size (some Q) v ∧ GrP t p.toNat Q) := by
  have HA : Hid (NodesAt w base b o t) := h
  have B0 : Hid (Below w.heap.size w (w.alloc (.cells #[.int .i64 k, .bool mi] 24))) := below_alloc _ _
  have CH : Hid (∀ W, NodesAt W base b o t → Calls Try.prog 57 #[.slice base t.length c] W fun e w' => e = .returned (.int .i64 (formE t)) ∧ Below W.heap.size W w') := fun W hW => rcheck_any base b o c t W hW
  have RO : Hid (∀ W, NodesAt W base b o t → Calls Try.prog 58 #[.slice base t.length c] W fun e w' => e = .returned (.tuple #[.int .i64 (rootR t).1, .int .i64 (rootR t).2]) ∧ Below W.heap.size W w') := fun W hW => rRoot_any base b o c t W hW
  have IM : Hid (∀ W, Calls Try.prog 49 #[.agg #[.int .i64 k, .bool mi]] W fun e w' => e = .returned (.bool (mvB k mi)) ∧ Below W.heap.size W w') := fun W => rIsMove_any k mi W
  clear h
  by_cases h0 : formE t = 0
  · have g0 : (formE t != 0) = false := by simp [h0]
    by_cases h1 : (rootR t).2 = 0
    · have g1 : ((rootR t).2 != 0) = false := by simp [h1]
      cases h2 : mvB k mi
      · have F : Hid (lookE t p k mi = 5) := by show _ = _; unfold lookE; rw [if_neg (by simp [h1]), if_pos h2]
        have NZ : Hid (¬ (5 : Int) = 0) := by show ¬ _; decide
        rw [F.out, if_neg NZ.out]
        rw [h2] at IM
        clear F h0 h1 h2
        generalize (rootR t).1 = rt at *
        generalize (rootR t).2 = re at *
        generalize formE t = fe at *
        go_enter Try.func27, Try.ntmps27
        go_wp2_with fail
        refine (CH.out _ (HA.out.below B0.out)).mono ?_
        rintro e w1 ⟨rfl, hb⟩
        have B1 : Hid (Below w.heap.size w w1) := B0.out.trans (hb.mono B0.out.size)
        have M1 : Hid (w1.heap[w.heap.size]? = some (.cells #[.int .i64 k, .bool mi] 24 (0, 0))) := (hb.block _ (by simp)).trans (heap_alloc_at _ _ _ rfl)
        clear hb
        go_wp2_with fail
        refine (RO.out _ (HA.out.below B1.out)).mono ?_
        rintro e w2 ⟨rfl, hb⟩
        have B2 : Hid (Below w.heap.size w w2) := B1.out.trans (hb.mono B1.out.size)
        have M2 : Hid (w2.heap[w.heap.size]? = some (.cells #[.int .i64 k, .bool mi] 24 (0, 0))) := (hb.block _ (Array.getElem?_eq_some_iff.1 M1.out).1).trans M1.out
        have m0 := (cell_of M2.out 0 _ rfl).1
        have m1 := (cell_of M2.out 1 _ rfl).1
        have ml : w.heap.size < w2.heap.size := (Array.getElem?_eq_some_iff.1 M2.out).1
        clear hb
        go_wp2_with fail
        refine (IM.out _).mono ?_
        rintro e w3 ⟨rfl, hb⟩
        have B3 : Hid (Below w.heap.size w w3) := B2.out.trans (hb.mono B2.out.size)
        clear hb
        go_wp2_with fail
        go_ret3
        exact ⟨_, rfl, B3.out, fun q => absurd q NZ.out⟩
      · obtain ⟨x, l, r, s, K, cr⟩ := crn_of h1
        obtain ⟨P, hP, -⟩ := grp_of cr.keys
        have RX : (rootR t).1 = (x : Int) := by rw [cr.root]
        have GR : Hid (∀ W, NodesAt W base b o t → Calls Try.prog 34 #[.slice base t.length c, .int .i64 (x : Int)] W fun e w' => ∃ g : Nat, e = .returned (.pointer (some ⟨g, 0, none⟩)) ∧ PTAt w' W.heap.size P g ∧ Below W.heap.size W w') := fun W hW => grow_any base b o c t hP W hW
        have PA : Hid (∀ B g W, PTAt W B P g → Calls Try.prog 59 #[.pointer (some ⟨g, 0, none⟩), .int .i64 p] W fun e w' => ∃ v, e = .returned v ∧ POAt w' B (P.find p) v ∧ Below W.heap.size W w') := fun B g W hW => place_any p B P g W hW
        have OF : Hid ((P.find p).isSome = ofK t p) := ofK_find cr hP p
        have FS : Hid (∀ Q, P.find p = some Q → GrP t p.toNat Q) := fun Q hQ => by obtain ⟨n, rfl, q⟩ := find_some hP hQ; simpa using q
        rw [h2] at IM
        cases hf : P.find p with
        | none =>
          have h3 : ofK t p = false := by rw [← OF.out, hf]; rfl
          have F : Hid (lookE t p k mi = 1) := by show _ = _; unfold lookE; rw [if_neg (by simp [h1]), if_neg (by simp [h2]), if_pos h3]
          have NZ : Hid (¬ (1 : Int) = 0) := by show ¬ _; decide
          rw [F.out, if_neg NZ.out]
          rw [RX] at RO
          clear F h0 h1 h2 h3 cr hP RX
          generalize (rootR t).2 = re at *
          generalize formE t = fe at *
          go_enter Try.func27, Try.ntmps27
          go_wp2_with fail
          refine (CH.out _ (HA.out.below B0.out)).mono ?_
          rintro e w1 ⟨rfl, hb⟩
          have B1 : Hid (Below w.heap.size w w1) := B0.out.trans (hb.mono B0.out.size)
          have M1 : Hid (w1.heap[w.heap.size]? = some (.cells #[.int .i64 k, .bool mi] 24 (0, 0))) := (hb.block _ (by simp)).trans (heap_alloc_at _ _ _ rfl)
          clear hb
          go_wp2_with fail
          refine (RO.out _ (HA.out.below B1.out)).mono ?_
          rintro e w2 ⟨rfl, hb⟩
          have B2 : Hid (Below w.heap.size w w2) := B1.out.trans (hb.mono B1.out.size)
          have M2 : Hid (w2.heap[w.heap.size]? = some (.cells #[.int .i64 k, .bool mi] 24 (0, 0))) := (hb.block _ (Array.getElem?_eq_some_iff.1 M1.out).1).trans M1.out
          have m0 := (cell_of M2.out 0 _ rfl).1
          have m1 := (cell_of M2.out 1 _ rfl).1
          have ml : w.heap.size < w2.heap.size := (Array.getElem?_eq_some_iff.1 M2.out).1
          clear hb
          go_wp2_with fail
          refine (IM.out _).mono ?_
          rintro e w3 ⟨rfl, hb⟩
          have B3 : Hid (Below w.heap.size w w3) := B2.out.trans (hb.mono B2.out.size)
          clear hb
          go_wp2_with fail
          refine (GR.out _ (HA.out.below B3.out)).mono ?_
          rintro e w4 ⟨g4, rfl, hT, hb⟩
          have B4 : Hid (Below w.heap.size w w4) := B3.out.trans (hb.mono B3.out.size)
          have T4 : Hid (PTAt w4 w.heap.size P g4) := hT.down B3.out.size
          clear hb hT
          go_wp2_with fail
          refine (PA.out _ _ _ T4.out).mono ?_
          rintro e w5 ⟨v5, rfl, hv, hb⟩
          have B5 : Hid (Below w.heap.size w w5) := B4.out.trans (hb.mono B4.out.size)
          rw [hf] at hv
          obtain rfl : v5 = .pointer none := hv
          clear hb
          go_wp2_with fail
          go_ret3
          exact ⟨_, rfl, B5.out, fun q => absurd q NZ.out⟩
        | some Q =>
          have h3 : ofK t p = true := by rw [← OF.out, hf]; rfl
          have F : Hid (lookE t p k mi = 0) := by show _ = _; unfold lookE; rw [if_neg (by simp [h1]), if_neg (by simp [h2]), if_neg (by simp [h3])]
          have hgq := FS.out Q hf
          have HG : Hid (GrP t p.toNat Q) := hgq
          rw [F.out, if_pos rfl, RX]
          rw [RX] at RO
          clear F h0 h1 h2 h3 cr hP RX hgq
          generalize (rootR t).2 = re at *
          generalize formE t = fe at *
          go_enter Try.func27, Try.ntmps27
          go_wp2_with fail
          refine (CH.out _ (HA.out.below B0.out)).mono ?_
          rintro e w1 ⟨rfl, hb⟩
          have B1 : Hid (Below w.heap.size w w1) := B0.out.trans (hb.mono B0.out.size)
          have M1 : Hid (w1.heap[w.heap.size]? = some (.cells #[.int .i64 k, .bool mi] 24 (0, 0))) := (hb.block _ (by simp)).trans (heap_alloc_at _ _ _ rfl)
          clear hb
          go_wp2_with fail
          refine (RO.out _ (HA.out.below B1.out)).mono ?_
          rintro e w2 ⟨rfl, hb⟩
          have B2 : Hid (Below w.heap.size w w2) := B1.out.trans (hb.mono B1.out.size)
          have M2 : Hid (w2.heap[w.heap.size]? = some (.cells #[.int .i64 k, .bool mi] 24 (0, 0))) := (hb.block _ (Array.getElem?_eq_some_iff.1 M1.out).1).trans M1.out
          have m0 := (cell_of M2.out 0 _ rfl).1
          have m1 := (cell_of M2.out 1 _ rfl).1
          have ml : w.heap.size < w2.heap.size := (Array.getElem?_eq_some_iff.1 M2.out).1
          clear hb
          go_wp2_with fail
          refine (IM.out _).mono ?_
          rintro e w3 ⟨rfl, hb⟩
          have B3 : Hid (Below w.heap.size w w3) := B2.out.trans (hb.mono B2.out.size)
          clear hb
          go_wp2_with fail
          refine (GR.out _ (HA.out.below B3.out)).mono ?_
          rintro e w4 ⟨g4, rfl, hT, hb⟩
          have B4 : Hid (Below w.heap.size w w4) := B3.out.trans (hb.mono B3.out.size)
          have T4 : Hid (PTAt w4 w.heap.size P g4) := hT.down B3.out.size
          clear hb hT
          go_wp2_with fail
          refine (PA.out _ _ _ T4.out).mono ?_
          rintro e w5 ⟨v5, rfl, hv, hb⟩
          have B5 : Hid (Below w.heap.size w w5) := B4.out.trans (hb.mono B4.out.size)
          rw [hf] at hv
          obtain ⟨g5, rfl, hv⟩ := hv
          have V5 : Hid (PTAt w5 w.heap.size Q g5) := hv
          clear hb hv
          go_wp2_with fail
          go_ret3
          exact ⟨_, by first | rfl | simp, B5.out, fun _ => ⟨Q, ⟨g5, rfl, V5.out⟩, HG.out⟩⟩
    · have g1 : ((rootR t).2 != 0) = true := by simp [h1]
      have F : Hid (lookE t p k mi = (rootR t).2) := by show _ = _; unfold lookE; rw [if_pos h1]
      have NZ : Hid (¬ (rootR t).2 = 0) := h1
      rw [F.out, if_neg NZ.out]
      clear F h0 h1
      generalize (rootR t).1 = rt at *
      generalize (rootR t).2 = re at *
      generalize formE t = fe at *
      go_enter Try.func27, Try.ntmps27
      go_wp2_with fail
      refine (CH.out _ (HA.out.below B0.out)).mono ?_
      rintro e w1 ⟨rfl, hb⟩
      have B1 : Hid (Below w.heap.size w w1) := B0.out.trans (hb.mono B0.out.size)
      have M1 : Hid (w1.heap[w.heap.size]? = some (.cells #[.int .i64 k, .bool mi] 24 (0, 0))) := (hb.block _ (by simp)).trans (heap_alloc_at _ _ _ rfl)
      clear hb
      go_wp2_with fail
      refine (RO.out _ (HA.out.below B1.out)).mono ?_
      rintro e w2 ⟨rfl, hb⟩
      have B2 : Hid (Below w.heap.size w w2) := B1.out.trans (hb.mono B1.out.size)
      have M2 : Hid (w2.heap[w.heap.size]? = some (.cells #[.int .i64 k, .bool mi] 24 (0, 0))) := (hb.block _ (Array.getElem?_eq_some_iff.1 M1.out).1).trans M1.out
      have m0 := (cell_of M2.out 0 _ rfl).1
      have m1 := (cell_of M2.out 1 _ rfl).1
      have ml : w.heap.size < w2.heap.size := (Array.getElem?_eq_some_iff.1 M2.out).1
      clear hb
      go_wp2_with fail
      go_ret3
      exact ⟨_, rfl, B2.out, fun q => absurd q NZ.out⟩
  · have h1 : (rootR t).2 = formE t := by unfold rootR; rw [if_pos h0]
    have g0 : (formE t != 0) = true := by simp [h0]
    have F : Hid (lookE t p k mi = formE t) := by show _ = _; unfold lookE; rw [h1, if_pos h0]
    have NZ : Hid (¬ formE t = 0) := h0
    rw [F.out, if_neg NZ.out]
    clear F h0 h1
    generalize (rootR t).1 = rt at *
    generalize (rootR t).2 = re at *
    generalize formE t = fe at *
    go_enter Try.func27, Try.ntmps27
    go_wp2_with fail
    refine (CH.out _ (HA.out.below B0.out)).mono ?_
    rintro e w1 ⟨rfl, hb⟩
    have B1 : Hid (Below w.heap.size w w1) := B0.out.trans (hb.mono B0.out.size)
    have M1 : Hid (w1.heap[w.heap.size]? = some (.cells #[.int .i64 k, .bool mi] 24 (0, 0))) := (hb.block _ (by simp)).trans (heap_alloc_at _ _ _ rfl)
    clear hb
    go_wp2_with fail
    go_ret3
    exact ⟨_, rfl, B1.out, fun q => absurd q NZ.out⟩
end Go.Proofs.Ythlhbajaogonnaa

namespace Go.Proofs.Ythlhbajaogonnaa

open Go.RowKit

attribute [local go_sem ↓] Go.wp_at_zero Go.wp_at_succ

def PT.mt (mi : Bool) (P : PT) : PT := if mi then P.mir else P
theorem PT.mt_bt (mi : Bool) (P : PT) : (P.mt mi).bt = P.bt.mt mi := by cases mi <;> simp [PT.mt, BT.mt, PT.mir_bt]
set_option maxRecDepth 100000 in
set_option maxHeartbeats 1000000 in
theorem side_any (B : Nat) (Q : PT) (v : Value) (k : Int) (mi : Bool) (w : World) (hB : B ≤ w.heap.size) (h : POAt w B (some Q) v) :
    Calls Try.prog 29 #[v, .agg #[.int .i64 k, .bool mi]] w fun e w' => ∃ u, e = .returned u ∧ POAt w' B (some (Q.mt mi)) u ∧ Below w.heap.size w w' := by
  obtain ⟨g, rfl, hP⟩ := h
  have B0 : Hid (Below w.heap.size w (w.alloc (.cells #[.int .i64 k, .bool mi] 24))) := below_alloc _ _
  have HP : Hid (PTAt w B Q g) := hP
  have LB : Hid (B ≤ w.heap.size) := hB
  have MI : Hid (∀ W, PTAt W B Q g → Calls Try.prog 64 #[.pointer (some ⟨g, 0, none⟩)] W fun e w' => ∃ g' : Nat, e = .returned (.pointer (some ⟨g', 0, none⟩)) ∧ PTAt w' W.heap.size Q.mir g' ∧ Below W.heap.size W w') := fun W hW => mirrored_any B Q g W hW
  clear hP hB
  cases mi
  · go_enter Try.func29, Try.ntmps29
    go_wp2_with fail
    go_ret
    exact ⟨_, rfl, ⟨g, rfl, HP.out.below B0.out⟩, B0.out⟩
  · go_enter Try.func29, Try.ntmps29
    go_wp2_with fail
    refine (MI.out _ (HP.out.below B0.out)).mono ?_
    rintro e w1 ⟨g1, rfl, hT, hb⟩
    have B1 : Hid (Below w.heap.size w w1) := B0.out.trans (hb.mono B0.out.size)
    have T1 : Hid (PTAt w1 B Q.mir g1) := hT.down (Nat.le_trans LB.out B0.out.size)
    clear hb hT
    go_wp2_with fail
    go_ret
    exact ⟨_, rfl, ⟨g1, rfl, T1.out⟩, B1.out⟩
set_option maxRecDepth 100000 in
set_option maxHeartbeats 4000000 in
theorem rCan_any (base : Option Addr) (b o c : Nat) (t : NL) (p k : Int) (mi : Bool) (w : World) (h : NodesAt w base b o t) :
    Calls Try.prog 7 #[.slice base t.length c, .int .i64 p, .agg #[.int .i64 k, .bool mi]] w fun e w' => e = .returned (.tuple #[.bool (if lookE t p k mi = 0 then canA t p k mi else false), .int .i64 (lookE t p k mi)]) ∧ Below w.heap.size w w' := by
  have HA : Hid (NodesAt w base b o t) := h
  have B0 : Hid (Below w.heap.size w (w.alloc (.cells #[.int .i64 k, .bool mi] 24))) := below_alloc _ _
  clear h
  by_cases h0 : lookE t p k mi = 0
  · have AS : Hid (∀ W, NodesAt W base b o t → Calls Try.prog 27 #[.slice base t.length c, .int .i64 p, .agg #[.int .i64 k, .bool mi]] W fun e w' => ∃ v, e = .returned (.tuple #[v, .bool (decide (p = (rootR t).1)), .int .i64 0]) ∧ Below W.heap.size W w' ∧ ∃ Q, POAt w' W.heap.size (some Q) v ∧ Q.bt = theB t p.toNat) := fun W hW => by
      have q := asked_any base b o c t p k mi W hW
      rw [if_pos h0, h0] at q
      refine q.mono ?_
      rintro e w' ⟨v, h1, h2, h3⟩
      obtain ⟨Q, hQ, hG⟩ := h3 rfl
      exact ⟨v, h1, h2, Q, hQ, (theB_of (grp_det hG)).symm⟩
    have hk : 1 ≤ k ∧ k ≤ 12 := by obtain ⟨_, _, _, _, _, _, _, q⟩ := look_place h0; exact q
    have CA : Hid (∀ Q : PT, Q.bt = theB t p.toNat → ∀ W B v, POAt W B (some (Q.mt mi)) v → Calls Try.prog 28 #[v, .int .i64 k, .bool (decide (p = (rootR t).1))] W fun e w' => e = .returned (.bool (canA t p k mi)) ∧ Below W.heap.size W w') := fun Q hQ W B v hv => by
      have q := rcan_any B _ v k (decide (p = (rootR t).1)) W hk hv
      rw [Option.map_some, PT.mt_bt, hQ] at q
      exact q
    rw [if_pos h0, h0]
    clear h0 hk
    generalize canA t p k mi = A at *
    generalize decide (p = (rootR t).1) = rt at *
    generalize theB t p.toNat = TB at *
    go_enter Try.func7, Try.ntmps7
    go_wp2_with fail
    refine (AS.out _ (HA.out.below B0.out)).mono ?_
    rintro e w1 ⟨v1, rfl, hb, Q, hQ, eQ⟩
    have B1 : Hid (Below w.heap.size w w1) := B0.out.trans (hb.mono B0.out.size)
    have M1 : Hid (w1.heap[w.heap.size]? = some (.cells #[.int .i64 k, .bool mi] 24 (0, 0))) := (hb.block _ (by simp)).trans (heap_alloc_at _ _ _ rfl)
    have CC : Hid (∀ z, Below w1.heap.size w1 z → z.cell? ⟨w.heap.size, 0, none⟩ = some (.int .i64 k) ∧ z.cell? ⟨w.heap.size, 1, none⟩ = some (.bool mi)) := fun z hz => by
      have q := (hz.block _ (Array.getElem?_eq_some_iff.1 M1.out).1).trans M1.out
      exact ⟨(cell_of q 0 _ rfl).1, (cell_of q 1 _ rfl).1⟩
    obtain ⟨m0, m1⟩ := CC.out w1 (Below.refl _ _)
    have ml : w.heap.size < w1.heap.size := (Array.getElem?_eq_some_iff.1 M1.out).1
    have Q1 : Hid (POAt w1 w.heap.size (some Q) v1) := by obtain ⟨g, e1, e2⟩ := hQ; exact ⟨g, e1, e2.down B0.out.size⟩
    have D1 : Hid (Below w1.heap.size w1 w1.drew) := (Below.refl _ _).drew
    have SI : Hid (∀ W, w.heap.size ≤ W.heap.size → POAt W w.heap.size (some Q) v1 → Calls Try.prog 29 #[v1, .agg #[.int .i64 k, .bool mi]] W fun e w' => ∃ u, e = .returned u ∧ POAt w' w.heap.size (some (Q.mt mi)) u ∧ Below W.heap.size W w') := fun W h1 h2 => side_any _ Q v1 k mi W h1 h2
    have CN : Hid (∀ W v, POAt W w.heap.size (some (Q.mt mi)) v → Calls Try.prog 28 #[v, .int .i64 k, .bool rt] W fun e w' => e = .returned (.bool A) ∧ Below W.heap.size W w') := fun W v hv => CA.out Q eQ W _ v hv
    clear hb hQ eQ AS CA
    go_wp2_with fail
    go_region_held3 (fun w' => w'.cell? ⟨w.heap.size, 0, none⟩ = some (.int .i64 k) ∧ w'.cell? ⟨w.heap.size, 1, none⟩ = some (.bool mi))
      (first | (with_reducible exact X3.out) | (with_reducible exact X2.out) | go_keep)
      (first | (go_at_call 29; refine (SI.out _ (Nat.le_trans B1.out.size D1.out.size) (Q1.out.below D1.out)).mono ?_; rintro e w2 ⟨u2, rfl, hu, hb⟩; have B2 : Hid (Below w1.heap.size w1 w2) := D1.out.trans (hb.mono D1.out.size); have X2 : Hid (w2.cell? ⟨w.heap.size, 0, none⟩ = some (.int .i64 k) ∧ w2.cell? ⟨w.heap.size, 1, none⟩ = some (.bool mi)) := CC.out _ B2.out; have U2 : Hid (POAt w2 w.heap.size (some (Q.mt mi)) u2) := hu; clear hb hu) | (go_at_call 28; refine (CN.out _ _ U2.out).mono ?_; rintro e w3 ⟨rfl, hb⟩; have B3 : Hid (Below w1.heap.size w1 w3) := B2.out.trans (hb.mono B2.out.size); have X3 : Hid (w3.cell? ⟨w.heap.size, 0, none⟩ = some (.int .i64 k) ∧ w3.cell? ⟨w.heap.size, 1, none⟩ = some (.bool mi)) := CC.out _ B3.out; clear hb))
    all_goals go_wp2_with fail
    all_goals go_ret2
    all_goals exact ⟨rfl, B1.out.trans (B3.out.mono B1.out.size)⟩
  · have AS : Hid (∀ W, NodesAt W base b o t → Calls Try.prog 27 #[.slice base t.length c, .int .i64 p, .agg #[.int .i64 k, .bool mi]] W fun e w' => ∃ v, e = .returned (.tuple #[v, .bool false, .int .i64 (lookE t p k mi)]) ∧ Below W.heap.size W w') := fun W hW => by
      have q := asked_any base b o c t p k mi W hW
      rw [if_neg h0] at q
      refine q.mono ?_
      rintro e w' ⟨v, h1, h2, h3⟩
      exact ⟨v, h1, h2⟩
    have d0 : (lookE t p k mi != 0) = true := by simp [h0]
    rw [if_neg h0]
    clear h0
    generalize lookE t p k mi = E at *
    go_enter Try.func7, Try.ntmps7
    go_wp2_with fail
    refine (AS.out _ (HA.out.below B0.out)).mono ?_
    rintro e w1 ⟨v1, rfl, hb⟩
    have B1 : Hid (Below w.heap.size w w1) := B0.out.trans (hb.mono B0.out.size)
    clear hb
    go_wp2_with fail
    go_ret2
    exact ⟨rfl, B1.out⟩
end Go.Proofs.Ythlhbajaogonnaa

namespace Go.Proofs.Ythlhbajaogonnaa

open Go.RowKit

attribute [local go_sem ↓] Go.wp_at_zero Go.wp_at_succ

theorem RvRow.down {w w1 x : World} {v : Value} {V : List MvD} (h : RvRow w1 x v V) (hb : Below w.heap.size w w1) : RvRow w x v V :=
  ⟨owns_down h.own hb.size, hb.trans (h.below.mono hb.size)⟩
theorem RvRow.nil {w x : World} (h : Below w.heap.size w x) : RvRow w x (.slice .none 0 0) [] := ⟨World.ownsRow_nil _ _ _ _, h⟩
theorem allK_moves : ∀ m ∈ allK 12, mvB m.1 m.2 = true := by decide
theorem look_here (t : NL) (p : Int) : lookE t p 1 false = hereE t p := by
  unfold lookE hereE
  rw [if_neg (c := mvB 1 false = false) (by decide)]
theorem look_all {t : NL} {p : Int} (h : hereE t p = 0) {m : MvD} (hm : m ∈ allK 12) : lookE t p m.1 m.2 = 0 := by
  have e : mvB m.1 m.2 = mvB 1 false := by rw [allK_moves m hm]; decide
  rw [← look_here] at h
  unfold lookE at h ⊢
  rw [e]
  exact h
set_option maxRecDepth 100000 in
set_option maxHeartbeats 4000000 in
theorem rHere_any (base : Option Addr) (b o c : Nat) (t : NL) (p : Int) (w : World) (h : NodesAt w base b o t) :
    Calls Try.prog 9 #[.slice base t.length c, .int .i64 p] w fun e w' => ∃ v, e = .returned (.tuple #[v, .int .i64 (hereE t p)]) ∧ RvRow w w' v (hereL t p) := by
  have HA : Hid (NodesAt w base b o t) := h
  have AS : Hid (∀ W, NodesAt W base b o t → Calls Try.prog 27 #[.slice base t.length c, .int .i64 p, .agg #[.int .i64 1, .bool false]] W fun e w' => ∃ v d, e = .returned (.tuple #[v, .bool d, .int .i64 (hereE t p)]) ∧ Below W.heap.size W w') := fun W hW => by
    have q := asked_any base b o c t p 1 false W hW
    rw [look_here] at q
    refine q.mono ?_
    rintro e w' ⟨v, h1, h2, -⟩
    exact ⟨v, _, h1, h2⟩
  clear h
  by_cases h0 : hereE t p = 0
  · have AA : Hid (∀ W, Calls Try.prog 23 #[] W fun e w' => ∃ v, e = .returned v ∧ RvRow W w' v (allK 12)) := fun W => rAll_any W
    have CN : Hid (∀ j, j < (allK 12).length → ∀ W, NodesAt W base b o t → Calls Try.prog 7 #[.slice base t.length c, .int .i64 p, .agg #[.int .i64 ((allK 12).getD j mv0).1, .bool ((allK 12).getD j mv0).2]] W fun e w' => e = .returned (.tuple #[.bool (canO ((allK 12).getD j mv0).1 (decide (p = (rootR t).1)) (some ((theB t p.toNat).mt ((allK 12).getD j mv0).2))), .int .i64 0]) ∧ Below W.heap.size W w') := fun j hj W hW => by
      have q := rCan_any base b o c t p ((allK 12).getD j mv0).1 ((allK 12).getD j mv0).2 W hW
      have hm : (allK 12).getD j mv0 ∈ allK 12 := by
        have e : (allK 12).getD j mv0 = (allK 12)[j] := by simp [List.getD_eq_getElem?_getD, List.getElem?_eq_getElem hj]
        rw [e]
        exact List.getElem_mem hj
      have z := look_all h0 hm
      rw [if_pos z, z] at q
      exact q
    have FL : Hid (hereL t p = (allK 12).filter (fun m => canO m.1 (decide (p = (rootR t).1)) (some ((theB t p.toNat).mt m.2)))) := by show _ = _; unfold hereL mvsA mvsB; rw [if_pos h0]
    have FT : Hid (∀ j, j < (allK 12).length → ((allK 12).take (j + 1)).filter (fun m => canO m.1 (decide (p = (rootR t).1)) (some ((theB t p.toNat).mt m.2))) = if canO ((allK 12).getD j mv0).1 (decide (p = (rootR t).1)) (some ((theB t p.toNat).mt ((allK 12).getD j mv0).2)) then ((allK 12).take j).filter (fun m => canO m.1 (decide (p = (rootR t).1)) (some ((theB t p.toNat).mt m.2))) ++ [(allK 12).getD j mv0] else ((allK 12).take j).filter (fun m => canO m.1 (decide (p = (rootR t).1)) (some ((theB t p.toNat).mt m.2)))) := fun j hj => take_snoc _ _ j hj
    have LA : (allK 12).length = 21 := by decide
    have LF : Hid (∀ j, (((allK 12).take j).filter (fun m => canO m.1 (decide (p = (rootR t).1)) (some ((theB t p.toNat).mt m.2)))).length ≤ 21) := fun j => Nat.le_trans (List.length_filter_le _ _) (Nat.le_trans (List.length_take_le' _ _) (by rw [LA]; exact Nat.le_refl _))
    obtain ⟨i0, hi0, hz0, hz1, hz2⟩ := info_parts rv_info
    generalize hCB : (fun m : MvD => canO m.1 (decide (p = (rootR t).1)) (some ((theB t p.toNat).mt m.2))) = CB at *
    have CN' : Hid (∀ j, j < (allK 12).length → ∀ W, NodesAt W base b o t → Calls Try.prog 7 #[.slice base t.length c, .int .i64 p, .agg #[.int .i64 ((allK 12).getD j mv0).1, .bool ((allK 12).getD j mv0).2]] W fun e w' => e = .returned (.tuple #[.bool (CB ((allK 12).getD j mv0)), .int .i64 0]) ∧ Below W.heap.size W w') := fun j hj W hW => by rw [← hCB]; exact CN.out j hj W hW
    have FT' : Hid (∀ j, j < (allK 12).length → ((allK 12).take (j + 1)).filter CB = if CB ((allK 12).getD j mv0) then ((allK 12).take j).filter CB ++ [(allK 12).getD j mv0] else ((allK 12).take j).filter CB) := fun j hj => by have := FT.out j hj; rw [← hCB] at *; exact this
    clear hCB FT CN
    rw [FL.out, h0]
    rw [h0] at AS
    clear FL h0
    have HL : Hid ((allK 12).length = 21) := LA
    clear LA
    generalize allK 12 = A at *
    go_enter Try.func9, Try.ntmps9
    go_wp2_with fail
    refine (AS.out _ HA.out).mono ?_
    rintro e w1 ⟨v1, d1, rfl, hb⟩
    have B1 : Hid (Below w.heap.size w w1) := hb
    clear hb
    go_wp2_with fail
    refine (AA.out _).mono ?_
    rintro e w4 ⟨v4, rfl, hR⟩
    obtain ⟨ga, ca, rfl, -, hga, -, -, hc, -⟩ := owns_some hR.own (by rw [HL.out]; omega)
    have B4 : Hid (Below w.heap.size w w4) := B1.out.trans (hR.below.mono B1.out.size)
    have CA : Hid (∀ j, j < A.length → w4.cell? ⟨ga, j * 2, none⟩ = some (.int .i64 (A.getD j mv0).1) ∧ w4.cell? ⟨ga, j * 2 + 1, none⟩ = some (.bool (A.getD j mv0).2)) := fun j hj => ⟨(hc _ (by omega)).trans (mvC_get A j hj).1, (hc _ (by omega)).trans (mvC_get A j hj).2⟩
    have HLi : Hid ((A.length : Int) = 21) := by show _ = _; rw [HL.out]; rfl
    clear hc hR
    go_wp2_with fail
    go_loopw [9, 11] (fun v i wr => ∃ j : Nat, j ≤ 21 ∧ i = .int .i64 j ∧ RvRow w4 wr v ((A.take j).filter CB)) (fun _ i _ => 21 - (intOf i).toNat)
    case atStart => exact ⟨0, by omega, rfl, RvRow.none w4⟩
    case round =>
      obtain ⟨j, hj, rfl, hR⟩ := hrel
      have S0 : Hid (RvRow w4 wr u9 ((A.take j).filter CB)) := hR
      have lV := LF.out j
      by_cases hlt : j < 21
      · have hjA : j < A.length := by rw [HL.out]; exact hlt
        obtain ⟨c0, c1⟩ := CA.out j hjA
        have HF : Hid (_ = _) := FT'.out j hjA
        have CJ : Hid (∀ W, NodesAt W base b o t → Calls Try.prog 7 #[.slice base t.length c, .int .i64 p, .agg #[.int .i64 (A.getD j mv0).1, .bool (A.getD j mv0).2]] W fun e w' => e = .returned (.tuple #[.bool (CB (A.getD j mv0)), .int .i64 0]) ∧ Below W.heap.size W w') := CN'.out j hjA
        have jlt : (j : Int) < (A.length : Int) := by rw [HLi.out]; omega
        have j0 : (0 : Int) ≤ (j : Int) := Int.natCast_nonneg _
        have r0 := (hR.below.cell (p := ⟨ga, j * 2, none⟩) hga).trans c0
        have r1 := (hR.below.cell (p := ⟨ga, j * 2 + 1, none⟩) hga).trans c1
        have lga : ga < wr.heap.size := Nat.lt_of_lt_of_le hga hR.below.size
        have BW : Hid (Below w.heap.size w wr) := B4.out.trans (hR.below.mono B4.out.size)
        clear hR c0 c1
        generalize A.getD j mv0 = m at *
        obtain ⟨mk, mm⟩ := m
        simp only at r0 r1 CJ
        generalize (A.take j).filter CB = V at *
        cases hq : CB (mk, mm)
        · rw [hq] at HF CJ
          go_wp2_with fail
          refine (CJ.out _ (HA.out.below BW.out)).mono ?_
          rintro e w5 ⟨rfl, hb⟩
          have S5 : Hid (RvRow w4 w5 u9 V) := S0.out.quiet hb
          clear hb
          go_wp2_with fail
          exact ⟨⟨j + 1, by omega, by go_num, by rw [HF.out]; exact S5.out⟩, by simp [intOf]; omega⟩
        · rw [hq] at HF CJ
          go_wp2_with fail
          refine (CJ.out _ (HA.out.below BW.out)).mono ?_
          rintro e w5 ⟨rfl, hb⟩
          have S5 : Hid (RvRow w4 w5 u9 V) := S0.out.quiet hb
          have y0 := (hb.cell (p := ⟨ga, j * 2, none⟩) lga).trans r0
          have y1 := (hb.cell (p := ⟨ga, j * 2 + 1, none⟩) lga).trans r1
          have yl : ga < w5.heap.size := Nat.lt_of_lt_of_le lga hb.size
          have zz : w4.heap.size ≤ w5.heap.size := S5.out.below.size
          clear hb
          go_wp2_with (first | (at_builtin; (refine wpList_append_lies _ (by rfl) _ _ _ (by rfl) w4.heap.size 24 i0 _ 2 16 rvs_under hi0 hz0 hz1 hz2 rfl (by omega) _ V.length _ (by rfl) (S5.out.own.alloc _) ⟨w5.heap.size, 0, none⟩ 1 1 [.int .i64 mk, .bool mm] (by rfl) (by rfl) (World.news_of_block (cs := #[.int .i64 mk, .bool mm]) (t := 24) (fr := (0, 0)) (heap_alloc_at _ _ _ (by simp))) (by simp [Value.oneCell']) (by omega) (by unfold maxLen; omega) (by omega) (by simp; omega) (w5.heap.size + 1) (by simp) ?_); intro g6 c6 w6 ho hg hat hl; have S6 : Hid (RvRow w4 w6 (.slice (some ⟨g6, 0, none⟩) (V.length + 1) c6) (V ++ [(mk, mm)])) := S5.out.grown (q := (mk, mm)) hg ho; clear ho hg hat hl))
          exact ⟨⟨j + 1, by omega, by go_num, by rw [HF.out]; exact S6.out⟩, by simp [intOf]; omega⟩
      · have ej : Hid (j = A.length) := by show _ = _; rw [HL.out]; omega
        have hAll : Hid (A.take j = A) := by show _ = _; rw [ej.out]; exact List.take_length
        have nlt : ¬ ((j : Int) < (A.length : Int)) := by rw [ej.out]; omega
        clear hR
        go_wp2_with fail
        go_ret2
        refine ⟨_, rfl, ?_⟩
        have := S0.out
        rw [hAll.out] at this
        exact this.down B4.out
  · have FL : Hid (hereL t p = []) := by show _ = _; unfold hereL; rw [if_neg h0]
    have d0 : (hereE t p != 0) = true := by simp [h0]
    rw [FL.out]
    clear FL h0
    generalize hereE t p = E at *
    go_enter Try.func9, Try.ntmps9
    go_wp2_with fail
    refine (AS.out _ HA.out).mono ?_
    rintro e w1 ⟨v1, d1, rfl, hb⟩
    have B1 : Hid (Below w.heap.size w w1) := hb
    clear hb
    go_wp2_with fail
    go_ret2
    exact ⟨_, rfl, RvRow.nil B1.out⟩
end Go.Proofs.Ythlhbajaogonnaa

namespace Go.Proofs.Ythlhbajaogonnaa

open Go.RowKit

attribute [local go_sem ↓] Go.wp_at_zero Go.wp_at_succ

/-- Two rows that are ours, and a third that is read. -/
structure InRr (w x : World) (u v : Value) (P : List Nat) (V : List MvD) (n ga : Nat) (cur : Array Value) : Prop where
  own1 : x.ownsRow w.heap.size 3 1 u P.length (natC P)
  own2 : x.ownsRow w.heap.size 24 2 v V.length (mvC V)
  below : Below w.heap.size w x
  far : 0 < n → x.heap[ga]? = some (.cells cur 24 (0, 0)) ∧ v.ownBlock ≠ some ga
theorem int_ner {x : World} {B n g : Nat} {u : Value} {xs : List Value} {cur : Array Value} (h : x.ownsRow B 3 1 u n xs) (hg : x.heap[g]? = some (.cells cur 24 (0, 0))) : u.ownBlock ≠ some g := by
  rcases h.2 with ⟨rfl, _⟩ | ⟨g', cap, cur', rfl, _, hgb, _⟩
  · simp [Value.ownBlock]
  · intro e
    have : g' = g := by simpa [Value.ownBlock] using e
    subst this
    rw [hgb] at hg
    simp at hg
theorem rows_ner {x : World} {B n m : Nat} {u v : Value} {xs ys : List Value} (h : x.ownsRow B 3 1 u n xs) (h2 : x.ownsRow B 24 2 v m ys) : v.ownBlock = none ∨ v.ownBlock ≠ u.ownBlock := by
  rcases h2.2 with ⟨rfl, _⟩ | ⟨g', cap, cur', rfl, _, hgb, _⟩
  · exact Or.inl rfl
  · exact Or.inr fun e => int_ner h hgb e.symm
theorem rows_ner' {x : World} {B n m : Nat} {u v : Value} {xs ys : List Value} (h : x.ownsRow B 3 1 u n xs) (h2 : x.ownsRow B 24 2 v m ys) : u.ownBlock = none ∨ u.ownBlock ≠ v.ownBlock := by
  rcases rows_ner h h2 with e | e
  · by_cases q : u.ownBlock = none
    · exact Or.inl q
    · exact Or.inr (by rw [e]; exact q)
  · exact Or.inr (Ne.symm e)
theorem InRr.quiet {w x y : World} {u v : Value} {P : List Nat} {V : List MvD} {n ga : Nat} {cur : Array Value} (h : InRr w x u v P V n ga cur) (hb : Below x.heap.size x y) : InRr w y u v P V n ga cur :=
  ⟨owns_below h.own1 hb, owns_below h.own2 hb, h.below.trans (hb.mono h.below.size), fun hn => ⟨(hb.block ga (Array.getElem?_eq_some_iff.1 (h.far hn).1).1).trans (h.far hn).1, (h.far hn).2⟩⟩
theorem InRr.push1 {w x y : World} {u u' v : Value} {P : List Nat} {V : List MvD} {n ga q : Nat} {cur : Array Value} {o : Obj} (h : InRr w x u v P V n ga cur) (hg : (x.alloc o).grownBy y u.ownBlock) (ho : y.ownsRow w.heap.size 3 1 u' (P.length + 1) (natC P ++ [.int .i64 (q : Int)])) : InRr w y u' v (P ++ [q]) V n ga cur := by
  have k := h.quiet (below_alloc x o)
  refine ⟨by rw [List.length_append, natC_snoc]; exact ho, k.own2.kept hg (rows_ner k.own1 k.own2), Below.grown k.below hg k.below.size (fun b hb => (owns_lt k.own1 b hb).1), fun hn => ⟨?_, (h.far hn).2⟩⟩
  exact (hg.block ga (Array.getElem?_eq_some_iff.1 (k.far hn).1).1 (fun e => int_ner k.own1 (k.far hn).1 e.symm)).trans (k.far hn).1
theorem InRr.push2 {w x y : World} {u v : Value} {P : List Nat} {V : List MvD} {n ga g m c H : Nat} {cur : Array Value} {q : MvD} {o : Obj} (h : InRr w x u v P V n ga cur) (hg : (x.alloc o).grownBy y v.ownBlock) (hat : v.ownBlock = some g ∨ g = H) (hH : x.heap.size ≤ H) (ho : y.ownsRow w.heap.size 24 2 (.slice (some ⟨g, 0, none⟩) m c) (V.length + 1) (mvC V ++ [.int .i64 q.1, .bool q.2])) : InRr w y u (.slice (some ⟨g, 0, none⟩) m c) P (V ++ [q]) n ga cur := by
  have k := h.quiet (below_alloc x o)
  refine ⟨k.own1.kept hg (rows_ner' k.own1 k.own2), by rw [List.length_append, mvC_append]; exact ho, Below.grown k.below hg k.below.size (fun b hb => (owns_lt k.own2 b hb).1), fun hn => ⟨?_, ?_⟩⟩
  · exact (hg.block ga (Array.getElem?_eq_some_iff.1 (k.far hn).1).1 (fun e => (h.far hn).2 e.symm)).trans (k.far hn).1
  · intro e
    have e' : g = ga := by simpa [Value.ownBlock] using e
    subst e'
    rcases hat with q | q
    · exact (h.far hn).2 q
    · have := (Array.getElem?_eq_some_iff.1 (h.far hn).1).1
      omega
theorem InRr.box {w x y : World} {u v : Value} {P : List Nat} {V : List MvD} {n ga g : Nat} {cur : Array Value} {o o' : Obj} (h : InRr w x u v P V n ga cur) (hg : ((x.alloc o).alloc o').grownBy y u.ownBlock) (e : g = x.heap.size) : y.heap[g]? = (x.alloc o).heap[g]? := by
  subst e
  refine (hg.block _ (by simp; omega) (fun q => ?_)).trans (heap_alloc_old _ _ (by simp))
  have := (owns_lt h.own1 _ q.symm).2
  omega
structure SpotRr (w x : World) (u v : Value) (P : List Nat) (V : List MvD) : Prop where
  own1 : x.ownsRow w.heap.size 3 1 u P.length (natC P)
  own2 : x.ownsRow w.heap.size 24 2 v V.length (mvC V)
  below : Below w.heap.size w x
theorem SpotRr.quiet {w x y : World} {u v : Value} {P : List Nat} {V : List MvD} (h : SpotRr w x u v P V) (hb : Below x.heap.size x y) : SpotRr w y u v P V :=
  ⟨owns_below h.own1 hb, owns_below h.own2 hb, h.below.trans (hb.mono h.below.size)⟩
theorem SpotRr.nil {w x : World} (h : Below w.heap.size w x) : SpotRr w x (.slice none 0 0) (.slice none 0 0) [] [] := ⟨World.ownsRow_nil _ _ _ _, World.ownsRow_nil _ _ _ _, h⟩
/-- The row that movesAt hands over, to be read beside the two. -/
theorem SpotRr.into {w x y : World} {u v r : Value} {P : List Nat} {V A : List MvD} (h : SpotRr w x u v P V) (hr : RvRow x y r A) : ∃ (a : Option Addr) (c ga : Nat) (cur : Array Value), r = .slice a A.length c ∧ InRr w y u v P V A.length ga cur ∧ (0 < A.length → a = some ⟨ga, 0, none⟩) ∧ (∀ j, j < A.length → cur[j * 2]? = some (.int .i64 (A.getD j mv0).1) ∧ cur[j * 2 + 1]? = some (.bool (A.getD j mv0).2)) := by
  have k := h.quiet hr.below
  rcases hr.own.2 with ⟨rfl, e0⟩ | ⟨g, cap, cur, rfl, hB, hgb, h1, h2, h3, h4⟩
  · refine ⟨none, 0, 0, #[], by rw [e0], ⟨k.own1, k.own2, k.below, fun hn => by omega⟩, fun hn => by omega, fun j hj => by omega⟩
  · refine ⟨some ⟨g, 0, none⟩, cap, g, cur, rfl, ⟨k.own1, k.own2, k.below, fun _ => ⟨hgb, fun e => ?_⟩⟩, fun _ => rfl, fun j hj => ?_⟩
    · have := (owns_lt h.own2 _ e).2
      omega
    · have q := mvC_get A j hj
      rw [← h4] at q
      rw [List.getElem?_take, if_pos (by omega), List.getElem?_take, if_pos (by omega)] at q
      simpa using q
theorem InRr.out {w x : World} {u v : Value} {P : List Nat} {V : List MvD} {n ga : Nat} {cur : Array Value} (h : InRr w x u v P V n ga cur) : SpotRr w x u v P V := ⟨h.own1, h.own2, h.below⟩
theorem here_key {t : NL} (h : (rootR t).2 = 0) (p : Int) : hereE t p = if ofK t p = false then 1 else 0 := by unfold hereE; rw [if_neg (by simp [h])]
end Go.Proofs.Ythlhbajaogonnaa

namespace Go.Proofs.Ythlhbajaogonnaa

open Go.RowKit

attribute [local go_sem ↓] Go.wp_at_zero Go.wp_at_succ

/-- A row of places that is read. -/
structure NtAt (w : World) (a : Option Addr) (g : Nat) (V : List Nat) : Prop where
  base : 0 < V.length → a = some ⟨g, 0, none⟩ ∧ g < w.heap.size
  cells : ∀ j, j < V.length → w.cell? ⟨g, j, none⟩ = some (.int .i64 ((V.getD j 0 : Nat) : Int))
theorem NtAt.below {w y : World} {a : Option Addr} {g : Nat} {V : List Nat} (h : NtAt w a g V) (hb : Below w.heap.size w y) : NtAt y a g V :=
  ⟨fun hn => ⟨(h.base hn).1, Nat.lt_of_lt_of_le (h.base hn).2 hb.size⟩, fun j hj => (hb.cell (p := ⟨g, j, none⟩) (h.base (by omega)).2).trans (h.cells j hj)⟩
theorem ntAt_of {x : World} {B : Nat} {v : Value} {V : List Nat} (h : x.ownsRow B 3 1 v V.length (natC V)) : ∃ (a : Option Addr) (c g : Nat), v = .slice a V.length c ∧ NtAt x a g V := by
  by_cases hn : 0 < V.length
  · obtain ⟨g, cap, rfl, -, hg, -, -, hc, -⟩ := owns_some h hn
    exact ⟨_, cap, g, rfl, fun _ => ⟨rfl, hg⟩, fun j hj => (hc _ (by omega)).trans (natC_get V j hj)⟩
  · rcases h.2 with ⟨rfl, e0⟩ | ⟨g, cap, cur, rfl, _⟩
    · exact ⟨none, 0, 0, by rw [e0], fun q => absurd q hn, fun j hj => by omega⟩
    · exact ⟨_, cap, g, rfl, fun q => absurd q hn, fun j hj => by omega⟩
set_option maxRecDepth 100000 in
set_option maxHeartbeats 1000000 in
theorem places_same (x y : Option Addr) (ga gb ca cb : Nat) (V : List Nat) (w : World) (h : NtAt w x ga V) (k : NtAt w y gb V) (hn : V.length ≤ 3000000) :
    Calls Try.prog 20 #[.slice x V.length ca, .slice y V.length cb] w fun e w' => e = .returned (.bool true) ∧ Below w.heap.size w w' := by
  have H1 : Hid (NtAt w x ga V) := h
  have H2 : Hid (NtAt w y gb V) := k
  clear h k
  go_enter Try.func20, Try.ntmps20
  go_wp2_with fail
  go_loopw [5] (fun i wr => ∃ j : Nat, j ≤ V.length ∧ i = .int .i64 j ∧ Below w.heap.size w wr) (fun i _ => V.length - (intOf i).toNat)
  case atStart => exact ⟨0, Nat.zero_le _, rfl, Below.refl _ _⟩
  case round =>
    obtain ⟨j, hj, rfl, hnx⟩ := hrel
    by_cases hlt : j < V.length
    · obtain ⟨rfl, l1⟩ := (H1.out.below hnx).base (by omega)
      obtain ⟨rfl, l2⟩ := (H2.out.below hnx).base (by omega)
      have x0 := (H1.out.below hnx).cells j hlt
      have y0 := (H2.out.below hnx).cells j hlt
      have j0 : (0 : Int) ≤ (j : Int) := Int.natCast_nonneg _
      have j1 : (j : Int) < (V.length : Int) := by omega
      have HX : Hid (Below w.heap.size w wr) := hnx
      clear hnx
      generalize V.getD j 0 = m at *
      go_wp2_with fail
      go_quiet (fail)
      go_wp2_with fail
      exact ⟨⟨j + 1, by omega, by go_num, below_drewN HX.out _⟩, by simp [intOf]; omega⟩
    · have nj : ¬ ((j : Int) < (V.length : Int)) := by omega
      go_wp2_with fail
      go_ret
      exact ⟨rfl, hnx⟩
set_option maxRecDepth 100000 in
theorem plain_same (e : Int) (w : World) : Calls Try.prog 13 #[.int .i64 e, .int .i64 e] w fun r w' => r = .returned (.bool true) ∧ Below w.heap.size w w' := by
  have d : (e == e) = true := by simp
  go_enter Try.func13, Try.ntmps13
  go_wp2_with fail
  go_ret
  exact ⟨by first | rfl | simp, Below.refl _ _⟩
end Go.Proofs.Ythlhbajaogonnaa

namespace Go.Proofs.Ythlhbajaogonnaa

def PT.kids : PT → List PT
  | .nd _ _ l r => [l, r]
  | .lf _ _ => []
def PT.lt : PT → PT
  | .nd _ _ l _ => l
  | .lf n p => .lf n p
def PT.rt : PT → PT
  | .nd _ _ _ r => r
  | .lf n p => .lf n p
/-- The places below a node. -/
def PT.dsc : PT → List Int
  | .lf _ _ => []
  | .nd _ _ l r => (l.pl :: l.dsc) ++ (r.pl :: r.dsc)
def PT.pls (P : PT) : List Int := P.pl :: P.dsc
theorem PT.mir_pl : ∀ P : PT, P.mir.pl = P.pl
  | .lf _ _ => rfl
  | .nd _ _ _ _ => rfl
theorem PT.mir_dsc : ∀ P : PT, P.mir.dsc.Perm P.dsc
  | .lf _ _ => List.Perm.refl _
  | .nd _ _ l r => by
    simp only [PT.mir, PT.dsc, PT.mir_pl]
    exact List.perm_append_comm.trans (List.Perm.append (List.Perm.cons _ (PT.mir_dsc l)) (List.Perm.cons _ (PT.mir_dsc r)))
theorem PT.mir_mir : ∀ P : PT, P.mir.mir = P
  | .lf _ _ => rfl
  | .nd _ _ l r => by simp [PT.mir, PT.mir_mir l, PT.mir_mir r]
theorem kids_dsc {P Q : PT} (h : Q ∈ P.kids) : Q.pl ∈ P.dsc ∧ ∀ x ∈ Q.dsc, x ∈ P.dsc := by
  cases P with
  | lf n p => simp [PT.kids] at h
  | nd n p l r =>
    simp only [PT.kids, List.mem_cons, List.not_mem_nil, or_false] at h
    rcases h with rfl | rfl <;> simp only [PT.dsc, List.mem_append, List.mem_cons] <;> grind
theorem kids2_dsc {P Q : PT} (h : Q ∈ P.kids.flatMap PT.kids) : Q.pl ∈ P.dsc ∧ ∀ x ∈ Q.dsc, x ∈ P.dsc := by
  obtain ⟨R, h1, h2⟩ := List.mem_flatMap.1 h
  exact ⟨(kids_dsc h1).2 _ (kids_dsc h2).1, fun x hx => (kids_dsc h1).2 _ ((kids_dsc h2).2 x hx)⟩
/-- A row of the walk by depth: what comes next, what was found. -/
def stpT (S : List Int) (z : List PT × List Int) (Q : PT) : List PT × List Int :=
  (if (z.2 ++ S.filter (· == Q.pl)).length < S.length then z.1 ++ Q.kids else z.1, z.2 ++ S.filter (· == Q.pl))
def rowT (S : List Int) (row : List PT) (out : List Int) : List PT × List Int := row.foldl (stpT S) ([], out)
def RoT (S : List Int) (P : PT) : Nat → List PT × List Int
  | 0 => ([P], [])
  | d + 1 => rowT S (RoT S P d).1 (RoT S P d).2
theorem stp_hit {S : List Int} {nx : List PT} {out : List Int} {Q : PT} (h : S.filter (· == Q.pl) = [Q.pl]) (hl : out.length + 1 < S.length) : stpT S (nx, out) Q = (nx ++ Q.kids, out ++ [Q.pl]) := by
  simp [stpT, h]; intro; omega
theorem stp_last {S : List Int} {nx : List PT} {out : List Int} {Q : PT} (h : S.filter (· == Q.pl) = [Q.pl]) (hl : S.length ≤ out.length + 1) : stpT S (nx, out) Q = (nx, out ++ [Q.pl]) := by
  simp [stpT, h]; intro; omega
theorem stp_miss {S : List Int} {nx : List PT} {out : List Int} {Q : PT} (h : S.filter (· == Q.pl) = []) (hl : out.length < S.length) : stpT S (nx, out) Q = (nx ++ Q.kids, out) := by
  simp [stpT, h]; intro; omega
theorem stp_full {S : List Int} {nx : List PT} {out : List Int} {Q : PT} (h : S.filter (· == Q.pl) = []) (hl : S.length ≤ out.length) : stpT S (nx, out) Q = (nx, out) := by
  simp [stpT, h]; intro; omega
theorem row_miss {S : List Int} {out : List Int} (hl : out.length < S.length) : ∀ (ks : List PT) (nx : List PT), (∀ Q ∈ ks, Q.pl ∉ S) → ks.foldl (stpT S) (nx, out) = (nx ++ ks.flatMap PT.kids, out)
  | [], nx, _ => by simp
  | Q :: ks, nx, h => by
    have hq : S.filter (· == Q.pl) = [] := by
      rw [List.filter_eq_nil_iff]; intro a ha e
      rw [beq_iff_eq] at e
      exact h Q (by simp) (e ▸ ha)
    rw [List.foldl_cons, stp_miss hq hl, row_miss hl ks _ (fun R hR => h R (by simp [hR]))]
    simp
theorem row_full {S : List Int} {out : List Int} (hl : S.length ≤ out.length) : ∀ (ks : List PT) (nx : List PT), (∀ Q ∈ ks, Q.pl ∉ S) → ks.foldl (stpT S) (nx, out) = (nx, out)
  | [], nx, _ => by simp
  | Q :: ks, nx, h => by
    have hq : S.filter (· == Q.pl) = [] := by
      rw [List.filter_eq_nil_iff]; intro a ha e
      rw [beq_iff_eq] at e
      exact h Q (by simp) (e ▸ ha)
    rw [List.foldl_cons, stp_full hq hl, row_full hl ks _ (fun R hR => h R (by simp [hR]))]
theorem filt_one {S : List Int} (hS : S.Nodup) {q : Int} (h : q ∈ S) : S.filter (· == q) = [q] := by
  induction S with
  | nil => simp at h
  | cons a S ih =>
    obtain ⟨h1, h2⟩ := List.nodup_cons.1 hS
    by_cases e : a = q
    · subst e
      have : S.filter (· == a) = [] := by
        rw [List.filter_eq_nil_iff]; intro b hb e
        rw [beq_iff_eq] at e; exact h1 (e ▸ hb)
      simp [this]
    · simp only [List.mem_cons] at h
      rcases h with rfl | h
      · exact absurd rfl e
      · simp [e, ih h2 h]
/-- What the walk has found when it ends. -/
structure TouF (S : List Int) (P : PT) (D : Nat) (want : List Int) : Prop where
  pos : 1 ≤ D
  le : D ≤ 4
  ans : (RoT S P D).2 = want
  len : want.length = S.length
  more : ∀ d, d < D → (RoT S P d).2.length < S.length ∧ (RoT S P d).1 ≠ []
  up : ∀ d, d < D → (RoT S P d).2.length < (RoT S P (d + 1)).2.length
/-- One row, element by element. -/
theorem go_hit {S : List Int} {nx : List PT} {out : List Int} {Q : PT} {ks : List PT} (hS : S.Nodup) (h : Q.pl ∈ S) (hl : out.length + 1 < S.length) : (Q :: ks).foldl (stpT S) (nx, out) = ks.foldl (stpT S) (nx ++ Q.kids, out ++ [Q.pl]) := by
  rw [List.foldl_cons, stp_hit (filt_one hS h) hl]
theorem go_last {S : List Int} {nx : List PT} {out : List Int} {Q : PT} {ks : List PT} (hS : S.Nodup) (h : Q.pl ∈ S) (hl : S.length ≤ out.length + 1) : (Q :: ks).foldl (stpT S) (nx, out) = ks.foldl (stpT S) (nx, out ++ [Q.pl]) := by
  rw [List.foldl_cons, stp_last (filt_one hS h) hl]
theorem go_miss {S : List Int} {nx : List PT} {out : List Int} {A ks : List PT} (h : ∀ Q ∈ A, Q.pl ∉ S) (hl : out.length < S.length) : (A ++ ks).foldl (stpT S) (nx, out) = ks.foldl (stpT S) (nx ++ A.flatMap PT.kids, out) := by
  rw [List.foldl_append, row_miss hl _ _ h]
theorem go_full {S : List Int} {nx : List PT} {out : List Int} {A : List PT} (h : ∀ Q ∈ A, Q.pl ∉ S) (hl : S.length ≤ out.length) : A.foldl (stpT S) (nx, out) = (nx, out) := row_full hl _ _ h
theorem ro1 {n : NdD} {x : Int} {L R : PT} {S : List Int} (hS : S.Nodup) (h1 : x ∈ S) (hl : 1 < S.length) : RoT S (.nd n x L R) 1 = ([L, R], [x]) := by
  show ([PT.nd n x L R] : List PT).foldl (stpT S) ([], []) = _
  rw [go_hit (Q := .nd n x L R) (out := []) hS h1 (by simpa using hl)]; rfl
theorem touA (P : PT) : TouF [P.pl] P 1 [P.pl] := by
  have r1 : RoT [P.pl] P 1 = ([], [P.pl]) := by
    show ([P] : List PT).foldl _ _ = _
    rw [go_last (by simp) (by simp) (by simp)]; rfl
  refine ⟨by omega, by omega, by rw [r1], rfl, fun d hd => ?_, fun d hd => ?_⟩
  · obtain rfl : d = 0 := by omega
    simp [RoT]
  · obtain rfl : d = 0 := by omega
    rw [r1]; simp [RoT]
theorem touB {n : NdD} {x : Int} {L R : PT} {S : List Int} (hS : S.Nodup) (h1 : x ∈ S) (h2 : L.pl ∈ S) (h3 : R.pl ∈ S) (hl : S.length = 3) : TouF S (.nd n x L R) 2 [x, L.pl, R.pl] := by
  have r1 : RoT S (.nd n x L R) 1 = ([L, R], [x]) := ro1 hS h1 (by omega)
  have r2 : (RoT S (.nd n x L R) 2).2 = [x, L.pl, R.pl] := by
    rw [RoT, r1]
    show (([L, R] : List PT).foldl (stpT S) ([], [x])).2 = _
    rw [go_hit hS h2 (by simp [hl]), go_last hS h3 (by simp [hl])]; rfl
  refine ⟨by omega, by omega, r2, by simp [hl], fun d hd => ?_, fun d hd => ?_⟩
  · rcases (by omega : d = 0 ∨ d = 1) with rfl | rfl
    · simp [RoT, hl]
    · simp [r1, hl]
  · rcases (by omega : d = 0 ∨ d = 1) with rfl | rfl
    · rw [r1]; simp [RoT]
    · rw [r1, r2]; simp
theorem touB1 {n : NdD} {x : Int} {L R : PT} {S : List Int} (hS : S.Nodup) (h1 : x ∈ S) (h2 : L.pl ∈ S) (h3 : R.pl ∉ S) (hl : S.length = 2) : TouF S (.nd n x L R) 2 [x, L.pl] := by
  have r1 : RoT S (.nd n x L R) 1 = ([L, R], [x]) := ro1 hS h1 (by omega)
  have r2 : (RoT S (.nd n x L R) 2).2 = [x, L.pl] := by
    rw [RoT, r1]
    show (([L, R] : List PT).foldl (stpT S) ([], [x])).2 = _
    rw [go_last hS h2 (by simp [hl]), go_full (by simpa using h3) (by simp [hl])]; rfl
  refine ⟨by omega, by omega, r2, by simp [hl], fun d hd => ?_, fun d hd => ?_⟩
  · rcases (by omega : d = 0 ∨ d = 1) with rfl | rfl
    · simp [RoT, hl]
    · simp [r1, hl]
  · rcases (by omega : d = 0 ∨ d = 1) with rfl | rfl
    · rw [r1]; simp [RoT]
    · rw [r1, r2]; simp
theorem touB2 {n : NdD} {x : Int} {L R : PT} {S : List Int} (hS : S.Nodup) (h1 : x ∈ S) (h2 : R.pl ∈ S) (h3 : L.pl ∉ S) (hl : S.length = 2) : TouF S (.nd n x L R) 2 [x, R.pl] := by
  have r1 : RoT S (.nd n x L R) 1 = ([L, R], [x]) := ro1 hS h1 (by omega)
  have r2 : (RoT S (.nd n x L R) 2).2 = [x, R.pl] := by
    rw [RoT, r1]
    show (([L] ++ [R] : List PT).foldl (stpT S) ([], [x])).2 = _
    rw [go_miss (by simpa using h3) (by simp [hl]), go_last hS h2 (by simp [hl])]; rfl
  refine ⟨by omega, by omega, r2, by simp [hl], fun d hd => ?_, fun d hd => ?_⟩
  · rcases (by omega : d = 0 ∨ d = 1) with rfl | rfl
    · simp [RoT, hl]
    · simp [r1, hl]
  · rcases (by omega : d = 0 ∨ d = 1) with rfl | rfl
    · rw [r1]; simp [RoT]
    · rw [r1, r2]; simp
/-- Three rows: the third one has its last place among the second one's children. -/
theorem touC {n : NdD} {x : Int} {L R q : PT} {S out : List Int} {nx X Y : List PT} (hS : S.Nodup) (h1 : x ∈ S) (hl : 2 < S.length) (r2 : ([L, R] : List PT).foldl (stpT S) ([], [x]) = (nx, out)) (ho : out.length + 1 = S.length) (hn : nx = X ++ q :: Y) (hX : ∀ Q ∈ X, Q.pl ∉ S) (hY : ∀ Q ∈ Y, Q.pl ∉ S) (hq : q.pl ∈ S) : TouF S (.nd n x L R) 3 (out ++ [q.pl]) := by
  have r1 : RoT S (.nd n x L R) 1 = ([L, R], [x]) := ro1 hS h1 (by omega)
  have r2' : RoT S (.nd n x L R) 2 = (nx, out) := by rw [RoT, r1]; exact r2
  have r3 : (RoT S (.nd n x L R) 3).2 = out ++ [q.pl] := by
    rw [RoT, r2', hn]
    show ((X ++ q :: Y).foldl (stpT S) ([], out)).2 = _
    rw [go_miss hX (by omega), go_last hS hq (by omega), go_full hY (by simp; omega)]
  refine ⟨by omega, by omega, r3, by simp; omega, fun d hd => ?_, fun d hd => ?_⟩
  · rcases (by omega : d = 0 ∨ d = 1 ∨ d = 2) with rfl | rfl | rfl
    · simp [RoT]; omega
    · simp [r1]; omega
    · rw [r2']; simp [hn]; omega
  · rcases (by omega : d = 0 ∨ d = 1 ∨ d = 2) with rfl | rfl | rfl
    · rw [r1]; simp [RoT]
    · rw [r1, r2']; simp; omega
    · rw [r2', r3]; simp
/-- Four rows. -/
theorem touD {n : NdD} {x : Int} {L R q : PT} {S out o3 : List Int} {nx n3 X Y : List PT} (hS : S.Nodup) (h1 : x ∈ S) (hl : 1 < out.length) (r2 : ([L, R] : List PT).foldl (stpT S) ([], [x]) = (nx, out)) (h2 : out.length < o3.length) (h2n : nx ≠ []) (r3 : nx.foldl (stpT S) ([], out) = (n3, o3)) (ho : o3.length + 1 = S.length) (hn : n3 = X ++ q :: Y) (hX : ∀ Q ∈ X, Q.pl ∉ S) (hY : ∀ Q ∈ Y, Q.pl ∉ S) (hq : q.pl ∈ S) : TouF S (.nd n x L R) 4 (o3 ++ [q.pl]) := by
  have r1 : RoT S (.nd n x L R) 1 = ([L, R], [x]) := ro1 hS h1 (by omega)
  have r2' : RoT S (.nd n x L R) 2 = (nx, out) := by rw [RoT, r1]; exact r2
  have r3' : RoT S (.nd n x L R) 3 = (n3, o3) := by rw [RoT, r2']; exact r3
  have r4 : (RoT S (.nd n x L R) 4).2 = o3 ++ [q.pl] := by
    rw [RoT, r3', hn]
    show ((X ++ q :: Y).foldl (stpT S) ([], o3)).2 = _
    rw [go_miss hX (by omega), go_last hS hq (by omega), go_full hY (by simp; omega)]
  refine ⟨by omega, by omega, r4, by simp; omega, fun d hd => ?_, fun d hd => ?_⟩
  · rcases (by omega : d = 0 ∨ d = 1 ∨ d = 2 ∨ d = 3) with rfl | rfl | rfl | rfl
    · simp [RoT]; omega
    · simp [r1]; omega
    · rw [r2']; exact ⟨(by show out.length < S.length; omega), h2n⟩
    · rw [r3']; simp [hn]; omega
  · rcases (by omega : d = 0 ∨ d = 1 ∨ d = 2 ∨ d = 3) with rfl | rfl | rfl | rfl
    · rw [r1]; simp [RoT]
    · rw [r1, r2']; simpa using hl
    · rw [r2', r3']; exact h2
    · rw [r3', r4]; simp
theorem PT.pl_nd (n : NdD) (p : Int) (l r : PT) : (PT.nd n p l r).pl = p := rfl
theorem PT.lt_nd (n : NdD) (p : Int) (l r : PT) : (PT.nd n p l r).lt = l := rfl
theorem PT.rt_nd (n : NdD) (p : Int) (l r : PT) : (PT.nd n p l r).rt = r := rfl
/-- The places of what the step takes out. -/
def outS (k : Int) (y : PT) : List Int :=
  if k = 1 then [y.pl, y.lt.pl, y.rt.pl]
  else if k = 2 then [y.pl, y.lt.pl]
  else if k = 3 then [y.pl, y.lt.pl, y.lt.rt.pl]
  else if k = 4 then [y.pl, y.lt.pl, y.rt.pl]
  else if k = 5 then [y.pl, y.lt.pl, y.rt.pl, y.rt.lt.pl]
  else if k = 6 then [y.pl, y.lt.pl, y.rt.pl, y.rt.lt.pl]
  else if k = 7 then [y.pl, y.lt.pl, y.rt.pl, y.rt.lt.pl, y.rt.lt.lt.pl]
  else if k = 8 then [y.pl, y.lt.pl, y.rt.pl, y.rt.lt.pl, y.rt.lt.rt.pl]
  else if k = 9 then [y.pl, y.lt.pl, y.rt.pl, y.rt.rt.pl]
  else if k = 10 then [y.pl, y.lt.pl, y.rt.pl, y.rt.lt.pl]
  else if k = 11 then [y.pl, y.lt.pl, y.rt.pl]
  else [y.pl]
def outW (k : Int) (mi : Bool) (y : PT) : List Int := outI k y.pl y.lt.pl (if mi then y.rt.pl else y.lt.pl) (if mi then y.lt.pl else y.rt.pl) y.lt.rt.pl y.rt.lt.pl y.rt.rt.pl y.rt.lt.lt.pl y.rt.lt.rt.pl
theorem bt_node {P : PT} {d : PD} {l r : BT} (h : P.bt = .node d l r) : ∃ n pl L R, P = .nd n pl L R ∧ ndP n = d ∧ L.bt = l ∧ R.bt = r := by
  cases P with
  | lf n p => simp [PT.bt] at h
  | nd n p L R => simp only [PT.bt, BT.node.injEq] at h; exact ⟨n, p, L, R, rfl, h.1, h.2.1, h.2.2⟩
theorem kids_mir (P : PT) {Q : PT} (h : Q ∈ P.mir.kids) : Q.pl ∈ P.dsc := (PT.mir_dsc P).mem_iff.1 (kids_dsc h).1
theorem kids2_mir (P : PT) {Q : PT} (h : Q ∈ P.mir.kids.flatMap PT.kids) : Q.pl ∈ P.dsc := (PT.mir_dsc P).mem_iff.1 (kids2_dsc h).1
/-- A row of two: both are taken out. -/
theorem row2_both {S : List Int} {A B : PT} {x : Int} (hS : S.Nodup) (h2 : A.pl ∈ S) (h3 : B.pl ∈ S) (hl : 3 < S.length) : ([A, B] : List PT).foldl (stpT S) ([], [x]) = (A.kids ++ B.kids, [x, A.pl, B.pl]) := by
  rw [go_hit hS h2 (by simp; omega), go_hit hS h3 (by simp; omega)]; simp
theorem row2_left {S : List Int} {A B : PT} {x : Int} (hS : S.Nodup) (h2 : A.pl ∈ S) (h3 : B.pl ∉ S) (hl : 2 < S.length) : ([A, B] : List PT).foldl (stpT S) ([], [x]) = (A.kids ++ B.kids, [x, A.pl]) := by
  rw [go_hit hS h2 (by simp; omega)]
  have := go_miss (nx := [] ++ A.kids) (out := [x] ++ [A.pl]) (A := [B]) (ks := []) (by simpa using h3) (by simp; omega : _ < S.length)
  rw [List.append_nil] at this; rw [this]; simp
theorem row2_right {S : List Int} {A B : PT} {x : Int} (hS : S.Nodup) (h2 : A.pl ∉ S) (h3 : B.pl ∈ S) (hl : 2 < S.length) : ([A, B] : List PT).foldl (stpT S) ([], [x]) = (A.kids ++ B.kids, [x, B.pl]) := by
  have := go_miss (S := S) (nx := []) (out := [x]) (A := [A]) (ks := [B]) (by simpa using h2) (by simp; omega : _ < S.length)
  show (([A] ++ [B] : List PT).foldl (stpT S) ([], [x])) = _
  rw [this, go_hit hS h3 (by simp; omega)]; simp
/-- A row with one place among others. -/
theorem row3_one {S : List Int} {X Y : List PT} {q : PT} {out : List Int} (hS : S.Nodup) (hX : ∀ Q ∈ X, Q.pl ∉ S) (hY : ∀ Q ∈ Y, Q.pl ∉ S) (hq : q.pl ∈ S) (hl : out.length + 1 < S.length) : (X ++ q :: Y).foldl (stpT S) ([], out) = (X.flatMap PT.kids ++ q.kids ++ Y.flatMap PT.kids, out ++ [q.pl]) := by
  rw [go_miss hX (by omega), go_hit hS hq (by omega)]
  have := go_miss (S := S) (nx := [] ++ X.flatMap PT.kids ++ q.kids) (out := out ++ [q.pl]) (A := Y) (ks := []) hY (by simp; omega)
  rw [List.append_nil] at this; rw [this]; simp
theorem in_mir {S : List Int} {P : PT} (h : P.pl ∈ S) : P.mir.pl ∈ S := by rw [PT.mir_pl]; exact h
theorem no_mir {S : List Int} {P : PT} (h : P.pl ∉ S) : P.mir.pl ∉ S := by rw [PT.mir_pl]; exact h
theorem off_k {S : List Int} {P : PT} (h : ∀ d ∈ P.dsc, d ∉ S) : ∀ Q ∈ P.kids, Q.pl ∉ S := fun _ hQ => h _ (kids_dsc hQ).1
theorem off_m {S : List Int} {P : PT} (h : ∀ d ∈ P.dsc, d ∉ S) : ∀ Q ∈ P.mir.kids, Q.pl ∉ S := fun _ hQ => h _ (kids_mir P hQ)
theorem off_k2 {S : List Int} {P : PT} (h : ∀ d ∈ P.dsc, d ∉ S) : ∀ Q ∈ P.kids.flatMap PT.kids, Q.pl ∉ S := fun _ hQ => h _ (kids2_dsc hQ).1
theorem off_m2 {S : List Int} {P : PT} (h : ∀ d ∈ P.dsc, d ∉ S) : ∀ Q ∈ P.mir.kids.flatMap PT.kids, Q.pl ∉ S := fun _ hQ => h _ (kids2_mir P hQ)
theorem off_1 {S : List Int} {P : PT} (h : P.pl ∉ S) : ∀ Q ∈ [P], Q.pl ∉ S := fun Q hQ => by rw [List.mem_singleton.1 hQ]; exact h
theorem off_0 {S : List Int} : ∀ Q ∈ ([] : List PT), Q.pl ∉ S := fun _ hQ => absurd hQ List.not_mem_nil
theorem off_app {S : List Int} {X Y : List PT} (h : ∀ Q ∈ X, Q.pl ∉ S) (h' : ∀ Q ∈ Y, Q.pl ∉ S) : ∀ Q ∈ X ++ Y, Q.pl ∉ S := fun Q hQ => (List.mem_append.1 hQ).elim (h Q) (h' Q)
theorem off_c {S : List Int} {P : PT} {Y : List PT} (h : P.pl ∉ S) (h' : ∀ Q ∈ Y, Q.pl ∉ S) : ∀ Q ∈ P :: Y, Q.pl ∉ S := off_app (off_1 h) h'
theorem tou1f {n : NdD} {x : Int} {L R : PT} (hN : (PT.nd n x L R).pls.Nodup) : ∃ D, TouF (outS 1 (PT.nd n x L R)) ((PT.nd n x L R).mt false) D (outW 1 false (PT.nd n x L R)) := by
  simp only [PT.pls, PT.dsc, PT.pl_nd, List.cons_append, List.nodup_cons, List.nodup_append, List.mem_append, List.mem_cons, not_or] at hN
  have hS : ([x, L.pl, R.pl] : List Int).Nodup := by simp only [List.nodup_cons, List.mem_cons, List.not_mem_nil, or_false, not_or, List.nodup_nil, and_true, not_false_eq_true]; grind
  have q := touB (n := n) (x := x) (L := L) (R := R) hS (List.Mem.head _) (List.Mem.tail _ (List.Mem.head _)) (List.Mem.tail _ (List.Mem.tail _ (List.Mem.head _))) rfl
  exact ⟨2, q⟩
theorem tou1t {n : NdD} {x : Int} {L R : PT} (hN : (PT.nd n x L R).pls.Nodup) : ∃ D, TouF (outS 1 (PT.nd n x L R)) ((PT.nd n x L R).mt true) D (outW 1 true (PT.nd n x L R)) := by
  simp only [PT.pls, PT.dsc, PT.pl_nd, List.cons_append, List.nodup_cons, List.nodup_append, List.mem_append, List.mem_cons, not_or] at hN
  have hS : ([x, L.pl, R.pl] : List Int).Nodup := by simp only [List.nodup_cons, List.mem_cons, List.not_mem_nil, or_false, not_or, List.nodup_nil, and_true, not_false_eq_true]; grind
  have q := touB (n := n) (x := x) (L := R.mir) (R := L.mir) hS (List.Mem.head _) (in_mir (List.Mem.tail _ (List.Mem.tail _ (List.Mem.head _)))) (in_mir (List.Mem.tail _ (List.Mem.head _))) rfl
  simp only [PT.mir_pl] at q
  exact ⟨2, q⟩
theorem tou2f {n n1 : NdD} {x l : Int} {LL LR R : PT} (hN : (PT.nd n x (.nd n1 l LL LR) R).pls.Nodup) : ∃ D, TouF (outS 2 (PT.nd n x (.nd n1 l LL LR) R)) ((PT.nd n x (.nd n1 l LL LR) R).mt false) D (outW 2 false (PT.nd n x (.nd n1 l LL LR) R)) := by
  simp only [PT.pls, PT.dsc, PT.pl_nd, List.cons_append, List.nodup_cons, List.nodup_append, List.mem_append, List.mem_cons, not_or] at hN
  have hS : ([x, l] : List Int).Nodup := by simp only [List.nodup_cons, List.mem_cons, List.not_mem_nil, or_false, List.nodup_nil, and_true, not_false_eq_true]; grind
  have q := touB1 (n := n) (x := x) (L := .nd n1 l LL LR) (R := R) hS (List.Mem.head _) (List.Mem.tail _ (List.Mem.head _)) (show R.pl ∉ ([x, l] : List Int) by simp only [List.mem_cons, List.not_mem_nil, or_false, not_or]; grind) rfl
  exact ⟨2, q⟩
theorem tou2t {n n1 : NdD} {x l : Int} {LL LR R : PT} (hN : (PT.nd n x (.nd n1 l LL LR) R).pls.Nodup) : ∃ D, TouF (outS 2 (PT.nd n x (.nd n1 l LL LR) R)) ((PT.nd n x (.nd n1 l LL LR) R).mt true) D (outW 2 true (PT.nd n x (.nd n1 l LL LR) R)) := by
  simp only [PT.pls, PT.dsc, PT.pl_nd, List.cons_append, List.nodup_cons, List.nodup_append, List.mem_append, List.mem_cons, not_or] at hN
  have hS : ([x, l] : List Int).Nodup := by simp only [List.nodup_cons, List.mem_cons, List.not_mem_nil, or_false, List.nodup_nil, and_true, not_false_eq_true]; grind
  have q := touB2 (n := n) (x := x) (L := R.mir) (R := .nd n1 l LR.mir LL.mir) hS (List.Mem.head _) (List.Mem.tail _ (List.Mem.head _)) (no_mir (show R.pl ∉ ([x, l] : List Int) by simp only [List.mem_cons, List.not_mem_nil, or_false, not_or]; grind)) rfl
  exact ⟨2, q⟩
theorem tou3f {n n1 : NdD} {x l : Int} {LL LR R : PT} (hN : (PT.nd n x (.nd n1 l LL LR) R).pls.Nodup) : ∃ D, TouF (outS 3 (PT.nd n x (.nd n1 l LL LR) R)) ((PT.nd n x (.nd n1 l LL LR) R).mt false) D (outW 3 false (PT.nd n x (.nd n1 l LL LR) R)) := by
  simp only [PT.pls, PT.dsc, PT.pl_nd, List.cons_append, List.nodup_cons, List.nodup_append, List.mem_append, List.mem_cons, not_or] at hN
  have hS : ([x, l, LR.pl] : List Int).Nodup := by simp only [List.nodup_cons, List.mem_cons, List.not_mem_nil, or_false, not_or, List.nodup_nil, and_true, not_false_eq_true]; grind
  have r2 := row2_left (A := .nd n1 l LL LR) (B := R) (x := x) hS (List.Mem.tail _ (List.Mem.head _)) (show R.pl ∉ ([x, l, LR.pl] : List Int) by simp only [List.mem_cons, List.not_mem_nil, or_false, not_or]; grind) (by decide : 2 < 3)
  have q := touC (n := n) (q := LR) (X := [LL]) (Y := R.kids) hS (List.Mem.head _) (by decide : 2 < 3) r2 rfl rfl (off_1 (show LL.pl ∉ ([x, l, LR.pl] : List Int) by simp only [List.mem_cons, List.not_mem_nil, or_false, not_or]; grind)) (off_k (show ∀ d ∈ R.dsc, d ∉ ([x, l, LR.pl] : List Int) from fun d hd => by simp only [List.mem_cons, List.not_mem_nil, or_false, not_or]; grind)) (List.Mem.tail _ (List.Mem.tail _ (List.Mem.head _)))
  exact ⟨3, q⟩
theorem tou3t {n n1 : NdD} {x l : Int} {LL LR R : PT} (hN : (PT.nd n x (.nd n1 l LL LR) R).pls.Nodup) : ∃ D, TouF (outS 3 (PT.nd n x (.nd n1 l LL LR) R)) ((PT.nd n x (.nd n1 l LL LR) R).mt true) D (outW 3 true (PT.nd n x (.nd n1 l LL LR) R)) := by
  simp only [PT.pls, PT.dsc, PT.pl_nd, List.cons_append, List.nodup_cons, List.nodup_append, List.mem_append, List.mem_cons, not_or] at hN
  have hS : ([x, l, LR.pl] : List Int).Nodup := by simp only [List.nodup_cons, List.mem_cons, List.not_mem_nil, or_false, not_or, List.nodup_nil, and_true, not_false_eq_true]; grind
  have r2 := row2_right (A := R.mir) (B := .nd n1 l LR.mir LL.mir) (x := x) hS (no_mir (show R.pl ∉ ([x, l, LR.pl] : List Int) by simp only [List.mem_cons, List.not_mem_nil, or_false, not_or]; grind)) (List.Mem.tail _ (List.Mem.head _)) (by decide : 2 < 3)
  have q := touC (n := n) (q := LR.mir) (X := R.mir.kids) (Y := [LL.mir]) hS (List.Mem.head _) (by decide : 2 < 3) r2 rfl rfl (off_m (show ∀ d ∈ R.dsc, d ∉ ([x, l, LR.pl] : List Int) from fun d hd => by simp only [List.mem_cons, List.not_mem_nil, or_false, not_or]; grind)) (off_1 (no_mir (show LL.pl ∉ ([x, l, LR.pl] : List Int) by simp only [List.mem_cons, List.not_mem_nil, or_false, not_or]; grind))) (in_mir (List.Mem.tail _ (List.Mem.tail _ (List.Mem.head _))))
  simp only [PT.mir_pl] at q
  exact ⟨3, q⟩
theorem tou4f {n n1 : NdD} {x r : Int} {L RL RR : PT} (hN : (PT.nd n x L (.nd n1 r RL RR)).pls.Nodup) : ∃ D, TouF (outS 4 (PT.nd n x L (.nd n1 r RL RR))) ((PT.nd n x L (.nd n1 r RL RR)).mt false) D (outW 4 false (PT.nd n x L (.nd n1 r RL RR))) := by
  simp only [PT.pls, PT.dsc, PT.pl_nd, List.cons_append, List.nodup_cons, List.nodup_append, List.mem_append, List.mem_cons, not_or] at hN
  have hS : ([x, L.pl, r] : List Int).Nodup := by simp only [List.nodup_cons, List.mem_cons, List.not_mem_nil, or_false, not_or, List.nodup_nil, and_true, not_false_eq_true]; grind
  have q := touB (n := n) (x := x) (L := L) (R := .nd n1 r RL RR) hS (List.Mem.head _) (List.Mem.tail _ (List.Mem.head _)) (List.Mem.tail _ (List.Mem.tail _ (List.Mem.head _))) rfl
  exact ⟨2, q⟩
theorem tou4t {n n1 : NdD} {x r : Int} {L RL RR : PT} (hN : (PT.nd n x L (.nd n1 r RL RR)).pls.Nodup) : ∃ D, TouF (outS 4 (PT.nd n x L (.nd n1 r RL RR))) ((PT.nd n x L (.nd n1 r RL RR)).mt true) D (outW 4 true (PT.nd n x L (.nd n1 r RL RR))) := by
  simp only [PT.pls, PT.dsc, PT.pl_nd, List.cons_append, List.nodup_cons, List.nodup_append, List.mem_append, List.mem_cons, not_or] at hN
  have hS : ([x, L.pl, r] : List Int).Nodup := by simp only [List.nodup_cons, List.mem_cons, List.not_mem_nil, or_false, not_or, List.nodup_nil, and_true, not_false_eq_true]; grind
  have q := touB (n := n) (x := x) (L := .nd n1 r RR.mir RL.mir) (R := L.mir) hS (List.Mem.head _) (List.Mem.tail _ (List.Mem.tail _ (List.Mem.head _))) (in_mir (List.Mem.tail _ (List.Mem.head _))) rfl
  simp only [PT.mir_pl] at q
  exact ⟨2, q⟩
theorem tou5f {n n1 : NdD} {x r : Int} {L RL RR : PT} (hN : (PT.nd n x L (.nd n1 r RL RR)).pls.Nodup) : ∃ D, TouF (outS 5 (PT.nd n x L (.nd n1 r RL RR))) ((PT.nd n x L (.nd n1 r RL RR)).mt false) D (outW 5 false (PT.nd n x L (.nd n1 r RL RR))) := by
  simp only [PT.pls, PT.dsc, PT.pl_nd, List.cons_append, List.nodup_cons, List.nodup_append, List.mem_append, List.mem_cons, not_or] at hN
  have hS : ([x, L.pl, r, RL.pl] : List Int).Nodup := by simp only [List.nodup_cons, List.mem_cons, List.not_mem_nil, or_false, not_or, List.nodup_nil, and_true, not_false_eq_true]; grind
  have r2 := row2_both (A := L) (B := .nd n1 r (RL) RR) (x := x) hS (List.Mem.tail _ (List.Mem.head _)) (List.Mem.tail _ (List.Mem.tail _ (List.Mem.head _))) (by decide : 3 < 4)
  have q := touC (n := n) (q := RL) (X := L.kids) (Y := [RR]) hS (List.Mem.head _) (by decide : 2 < 4) r2 rfl rfl (off_k (show ∀ d ∈ L.dsc, d ∉ ([x, L.pl, r, RL.pl] : List Int) from fun d hd => by simp only [List.mem_cons, List.not_mem_nil, or_false, not_or]; grind)) (off_1 (show RR.pl ∉ ([x, L.pl, r, RL.pl] : List Int) by simp only [List.mem_cons, List.not_mem_nil, or_false, not_or]; grind)) (List.Mem.tail _ (List.Mem.tail _ (List.Mem.tail _ (List.Mem.head _))))
  exact ⟨3, q⟩
theorem tou5t {n n1 : NdD} {x r : Int} {L RL RR : PT} (hN : (PT.nd n x L (.nd n1 r RL RR)).pls.Nodup) : ∃ D, TouF (outS 5 (PT.nd n x L (.nd n1 r RL RR))) ((PT.nd n x L (.nd n1 r RL RR)).mt true) D (outW 5 true (PT.nd n x L (.nd n1 r RL RR))) := by
  simp only [PT.pls, PT.dsc, PT.pl_nd, List.cons_append, List.nodup_cons, List.nodup_append, List.mem_append, List.mem_cons, not_or] at hN
  have hS : ([x, L.pl, r, RL.pl] : List Int).Nodup := by simp only [List.nodup_cons, List.mem_cons, List.not_mem_nil, or_false, not_or, List.nodup_nil, and_true, not_false_eq_true]; grind
  have r2 := row2_both (A := .nd n1 r RR.mir (RL.mir)) (B := L.mir) (x := x) hS (List.Mem.tail _ (List.Mem.tail _ (List.Mem.head _))) (in_mir (List.Mem.tail _ (List.Mem.head _))) (by decide : 3 < 4)
  have q := touC (n := n) (q := RL.mir) (X := [RR.mir]) (Y := L.mir.kids) hS (List.Mem.head _) (by decide : 2 < 4) r2 rfl rfl (off_1 (no_mir (show RR.pl ∉ ([x, L.pl, r, RL.pl] : List Int) by simp only [List.mem_cons, List.not_mem_nil, or_false, not_or]; grind))) (off_m (show ∀ d ∈ L.dsc, d ∉ ([x, L.pl, r, RL.pl] : List Int) from fun d hd => by simp only [List.mem_cons, List.not_mem_nil, or_false, not_or]; grind)) (in_mir (List.Mem.tail _ (List.Mem.tail _ (List.Mem.tail _ (List.Mem.head _)))))
  simp only [PT.mir_pl] at q
  exact ⟨3, q⟩
theorem tou6f {n n1 : NdD} {x r : Int} {L RL RR : PT} (hN : (PT.nd n x L (.nd n1 r RL RR)).pls.Nodup) : ∃ D, TouF (outS 6 (PT.nd n x L (.nd n1 r RL RR))) ((PT.nd n x L (.nd n1 r RL RR)).mt false) D (outW 6 false (PT.nd n x L (.nd n1 r RL RR))) := by
  simp only [PT.pls, PT.dsc, PT.pl_nd, List.cons_append, List.nodup_cons, List.nodup_append, List.mem_append, List.mem_cons, not_or] at hN
  have hS : ([x, L.pl, r, RL.pl] : List Int).Nodup := by simp only [List.nodup_cons, List.mem_cons, List.not_mem_nil, or_false, not_or, List.nodup_nil, and_true, not_false_eq_true]; grind
  have r2 := row2_both (A := L) (B := .nd n1 r (RL) RR) (x := x) hS (List.Mem.tail _ (List.Mem.head _)) (List.Mem.tail _ (List.Mem.tail _ (List.Mem.head _))) (by decide : 3 < 4)
  have q := touC (n := n) (q := RL) (X := L.kids) (Y := [RR]) hS (List.Mem.head _) (by decide : 2 < 4) r2 rfl rfl (off_k (show ∀ d ∈ L.dsc, d ∉ ([x, L.pl, r, RL.pl] : List Int) from fun d hd => by simp only [List.mem_cons, List.not_mem_nil, or_false, not_or]; grind)) (off_1 (show RR.pl ∉ ([x, L.pl, r, RL.pl] : List Int) by simp only [List.mem_cons, List.not_mem_nil, or_false, not_or]; grind)) (List.Mem.tail _ (List.Mem.tail _ (List.Mem.tail _ (List.Mem.head _))))
  exact ⟨3, q⟩
theorem tou6t {n n1 : NdD} {x r : Int} {L RL RR : PT} (hN : (PT.nd n x L (.nd n1 r RL RR)).pls.Nodup) : ∃ D, TouF (outS 6 (PT.nd n x L (.nd n1 r RL RR))) ((PT.nd n x L (.nd n1 r RL RR)).mt true) D (outW 6 true (PT.nd n x L (.nd n1 r RL RR))) := by
  simp only [PT.pls, PT.dsc, PT.pl_nd, List.cons_append, List.nodup_cons, List.nodup_append, List.mem_append, List.mem_cons, not_or] at hN
  have hS : ([x, L.pl, r, RL.pl] : List Int).Nodup := by simp only [List.nodup_cons, List.mem_cons, List.not_mem_nil, or_false, not_or, List.nodup_nil, and_true, not_false_eq_true]; grind
  have r2 := row2_both (A := .nd n1 r RR.mir (RL.mir)) (B := L.mir) (x := x) hS (List.Mem.tail _ (List.Mem.tail _ (List.Mem.head _))) (in_mir (List.Mem.tail _ (List.Mem.head _))) (by decide : 3 < 4)
  have q := touC (n := n) (q := RL.mir) (X := [RR.mir]) (Y := L.mir.kids) hS (List.Mem.head _) (by decide : 2 < 4) r2 rfl rfl (off_1 (no_mir (show RR.pl ∉ ([x, L.pl, r, RL.pl] : List Int) by simp only [List.mem_cons, List.not_mem_nil, or_false, not_or]; grind))) (off_m (show ∀ d ∈ L.dsc, d ∉ ([x, L.pl, r, RL.pl] : List Int) from fun d hd => by simp only [List.mem_cons, List.not_mem_nil, or_false, not_or]; grind)) (in_mir (List.Mem.tail _ (List.Mem.tail _ (List.Mem.tail _ (List.Mem.head _)))))
  simp only [PT.mir_pl] at q
  exact ⟨3, q⟩
theorem tou7f {n n1 n2 : NdD} {x r rl : Int} {L RLL RLR RR : PT} (hN : (PT.nd n x L (.nd n1 r (.nd n2 rl RLL RLR) RR)).pls.Nodup) : ∃ D, TouF (outS 7 (PT.nd n x L (.nd n1 r (.nd n2 rl RLL RLR) RR))) ((PT.nd n x L (.nd n1 r (.nd n2 rl RLL RLR) RR)).mt false) D (outW 7 false (PT.nd n x L (.nd n1 r (.nd n2 rl RLL RLR) RR))) := by
  simp only [PT.pls, PT.dsc, PT.pl_nd, List.cons_append, List.nodup_cons, List.nodup_append, List.mem_append, List.mem_cons, not_or] at hN
  have hS : ([x, L.pl, r, rl, RLL.pl] : List Int).Nodup := by simp only [List.nodup_cons, List.mem_cons, List.not_mem_nil, or_false, not_or, List.nodup_nil, and_true, not_false_eq_true]; grind
  have r2 := row2_both (A := L) (B := .nd n1 r (.nd n2 rl RLL RLR) RR) (x := x) hS (List.Mem.tail _ (List.Mem.head _)) (List.Mem.tail _ (List.Mem.tail _ (List.Mem.head _))) (by decide : 3 < 5)
  have r3 := row3_one (out := [x, L.pl, r]) (X := L.kids) (q := .nd n2 rl RLL RLR) (Y := [RR]) hS (off_k (show ∀ d ∈ L.dsc, d ∉ ([x, L.pl, r, rl, RLL.pl] : List Int) from fun d hd => by simp only [List.mem_cons, List.not_mem_nil, or_false, not_or]; grind)) (off_1 (show RR.pl ∉ ([x, L.pl, r, rl, RLL.pl] : List Int) by simp only [List.mem_cons, List.not_mem_nil, or_false, not_or]; grind)) (List.Mem.tail _ (List.Mem.tail _ (List.Mem.tail _ (List.Mem.head _)))) (by decide : 4 < 5)
  have q := touD (out := [x, L.pl, r]) (o3 := [x, L.pl, r] ++ [rl]) (n := n) (q := RLL) (X := L.kids.flatMap PT.kids) (Y := RLR :: RR.kids) hS (List.Mem.head _) (by decide : 1 < 3) r2 (by decide : 3 < 4) (by simp [PT.kids]) r3 rfl (by simp [PT.kids]) (off_k2 (show ∀ d ∈ L.dsc, d ∉ ([x, L.pl, r, rl, RLL.pl] : List Int) from fun d hd => by simp only [List.mem_cons, List.not_mem_nil, or_false, not_or]; grind)) (off_c (show RLR.pl ∉ ([x, L.pl, r, rl, RLL.pl] : List Int) by simp only [List.mem_cons, List.not_mem_nil, or_false, not_or]; grind) (off_k (show ∀ d ∈ RR.dsc, d ∉ ([x, L.pl, r, rl, RLL.pl] : List Int) from fun d hd => by simp only [List.mem_cons, List.not_mem_nil, or_false, not_or]; grind))) (List.Mem.tail _ (List.Mem.tail _ (List.Mem.tail _ (List.Mem.tail _ (List.Mem.head _)))))
  exact ⟨4, q⟩
theorem tou7t {n n1 n2 : NdD} {x r rl : Int} {L RLL RLR RR : PT} (hN : (PT.nd n x L (.nd n1 r (.nd n2 rl RLL RLR) RR)).pls.Nodup) : ∃ D, TouF (outS 7 (PT.nd n x L (.nd n1 r (.nd n2 rl RLL RLR) RR))) ((PT.nd n x L (.nd n1 r (.nd n2 rl RLL RLR) RR)).mt true) D (outW 7 true (PT.nd n x L (.nd n1 r (.nd n2 rl RLL RLR) RR))) := by
  simp only [PT.pls, PT.dsc, PT.pl_nd, List.cons_append, List.nodup_cons, List.nodup_append, List.mem_append, List.mem_cons, not_or] at hN
  have hS : ([x, L.pl, r, rl, RLL.pl] : List Int).Nodup := by simp only [List.nodup_cons, List.mem_cons, List.not_mem_nil, or_false, not_or, List.nodup_nil, and_true, not_false_eq_true]; grind
  have r2 := row2_both (A := .nd n1 r RR.mir (.nd n2 rl RLR.mir RLL.mir)) (B := L.mir) (x := x) hS (List.Mem.tail _ (List.Mem.tail _ (List.Mem.head _))) (in_mir (List.Mem.tail _ (List.Mem.head _))) (by decide : 3 < 5)
  have r3 := row3_one (out := [x, r, L.mir.pl]) (X := [RR.mir]) (q := .nd n2 rl RLR.mir RLL.mir) (Y := L.mir.kids) hS (off_1 (no_mir (show RR.pl ∉ ([x, L.pl, r, rl, RLL.pl] : List Int) by simp only [List.mem_cons, List.not_mem_nil, or_false, not_or]; grind))) (off_m (show ∀ d ∈ L.dsc, d ∉ ([x, L.pl, r, rl, RLL.pl] : List Int) from fun d hd => by simp only [List.mem_cons, List.not_mem_nil, or_false, not_or]; grind)) (List.Mem.tail _ (List.Mem.tail _ (List.Mem.tail _ (List.Mem.head _)))) (by decide : 4 < 5)
  have q := touD (out := [x, r, L.mir.pl]) (o3 := [x, r, L.mir.pl] ++ [rl]) (n := n) (q := RLL.mir) (X := RR.mir.kids ++ [RLR.mir]) (Y := L.mir.kids.flatMap PT.kids) hS (List.Mem.head _) (by decide : 1 < 3) r2 (by decide : 3 < 4) (by simp [PT.kids]) r3 rfl (by simp [PT.kids]) (off_app (off_m (show ∀ d ∈ RR.dsc, d ∉ ([x, L.pl, r, rl, RLL.pl] : List Int) from fun d hd => by simp only [List.mem_cons, List.not_mem_nil, or_false, not_or]; grind)) (off_1 (no_mir (show RLR.pl ∉ ([x, L.pl, r, rl, RLL.pl] : List Int) by simp only [List.mem_cons, List.not_mem_nil, or_false, not_or]; grind)))) (off_m2 (show ∀ d ∈ L.dsc, d ∉ ([x, L.pl, r, rl, RLL.pl] : List Int) from fun d hd => by simp only [List.mem_cons, List.not_mem_nil, or_false, not_or]; grind)) (in_mir (List.Mem.tail _ (List.Mem.tail _ (List.Mem.tail _ (List.Mem.tail _ (List.Mem.head _))))))
  simp only [PT.mir_pl] at q
  exact ⟨4, q⟩
theorem tou8f {n n1 n2 : NdD} {x r rl : Int} {L RLL RLR RR : PT} (hN : (PT.nd n x L (.nd n1 r (.nd n2 rl RLL RLR) RR)).pls.Nodup) : ∃ D, TouF (outS 8 (PT.nd n x L (.nd n1 r (.nd n2 rl RLL RLR) RR))) ((PT.nd n x L (.nd n1 r (.nd n2 rl RLL RLR) RR)).mt false) D (outW 8 false (PT.nd n x L (.nd n1 r (.nd n2 rl RLL RLR) RR))) := by
  simp only [PT.pls, PT.dsc, PT.pl_nd, List.cons_append, List.nodup_cons, List.nodup_append, List.mem_append, List.mem_cons, not_or] at hN
  have hS : ([x, L.pl, r, rl, RLR.pl] : List Int).Nodup := by simp only [List.nodup_cons, List.mem_cons, List.not_mem_nil, or_false, not_or, List.nodup_nil, and_true, not_false_eq_true]; grind
  have r2 := row2_both (A := L) (B := .nd n1 r (.nd n2 rl RLL RLR) RR) (x := x) hS (List.Mem.tail _ (List.Mem.head _)) (List.Mem.tail _ (List.Mem.tail _ (List.Mem.head _))) (by decide : 3 < 5)
  have r3 := row3_one (out := [x, L.pl, r]) (X := L.kids) (q := .nd n2 rl RLL RLR) (Y := [RR]) hS (off_k (show ∀ d ∈ L.dsc, d ∉ ([x, L.pl, r, rl, RLR.pl] : List Int) from fun d hd => by simp only [List.mem_cons, List.not_mem_nil, or_false, not_or]; grind)) (off_1 (show RR.pl ∉ ([x, L.pl, r, rl, RLR.pl] : List Int) by simp only [List.mem_cons, List.not_mem_nil, or_false, not_or]; grind)) (List.Mem.tail _ (List.Mem.tail _ (List.Mem.tail _ (List.Mem.head _)))) (by decide : 4 < 5)
  have q := touD (out := [x, L.pl, r]) (o3 := [x, L.pl, r] ++ [rl]) (n := n) (q := RLR) (X := L.kids.flatMap PT.kids ++ [RLL]) (Y := RR.kids) hS (List.Mem.head _) (by decide : 1 < 3) r2 (by decide : 3 < 4) (by simp [PT.kids]) r3 rfl (by simp [PT.kids]) (off_app (off_k2 (show ∀ d ∈ L.dsc, d ∉ ([x, L.pl, r, rl, RLR.pl] : List Int) from fun d hd => by simp only [List.mem_cons, List.not_mem_nil, or_false, not_or]; grind)) (off_1 (show RLL.pl ∉ ([x, L.pl, r, rl, RLR.pl] : List Int) by simp only [List.mem_cons, List.not_mem_nil, or_false, not_or]; grind))) (off_k (show ∀ d ∈ RR.dsc, d ∉ ([x, L.pl, r, rl, RLR.pl] : List Int) from fun d hd => by simp only [List.mem_cons, List.not_mem_nil, or_false, not_or]; grind)) (List.Mem.tail _ (List.Mem.tail _ (List.Mem.tail _ (List.Mem.tail _ (List.Mem.head _)))))
  exact ⟨4, q⟩
theorem tou8t {n n1 n2 : NdD} {x r rl : Int} {L RLL RLR RR : PT} (hN : (PT.nd n x L (.nd n1 r (.nd n2 rl RLL RLR) RR)).pls.Nodup) : ∃ D, TouF (outS 8 (PT.nd n x L (.nd n1 r (.nd n2 rl RLL RLR) RR))) ((PT.nd n x L (.nd n1 r (.nd n2 rl RLL RLR) RR)).mt true) D (outW 8 true (PT.nd n x L (.nd n1 r (.nd n2 rl RLL RLR) RR))) := by
  simp only [PT.pls, PT.dsc, PT.pl_nd, List.cons_append, List.nodup_cons, List.nodup_append, List.mem_append, List.mem_cons, not_or] at hN
  have hS : ([x, L.pl, r, rl, RLR.pl] : List Int).Nodup := by simp only [List.nodup_cons, List.mem_cons, List.not_mem_nil, or_false, not_or, List.nodup_nil, and_true, not_false_eq_true]; grind
  have r2 := row2_both (A := .nd n1 r RR.mir (.nd n2 rl RLR.mir RLL.mir)) (B := L.mir) (x := x) hS (List.Mem.tail _ (List.Mem.tail _ (List.Mem.head _))) (in_mir (List.Mem.tail _ (List.Mem.head _))) (by decide : 3 < 5)
  have r3 := row3_one (out := [x, r, L.mir.pl]) (X := [RR.mir]) (q := .nd n2 rl RLR.mir RLL.mir) (Y := L.mir.kids) hS (off_1 (no_mir (show RR.pl ∉ ([x, L.pl, r, rl, RLR.pl] : List Int) by simp only [List.mem_cons, List.not_mem_nil, or_false, not_or]; grind))) (off_m (show ∀ d ∈ L.dsc, d ∉ ([x, L.pl, r, rl, RLR.pl] : List Int) from fun d hd => by simp only [List.mem_cons, List.not_mem_nil, or_false, not_or]; grind)) (List.Mem.tail _ (List.Mem.tail _ (List.Mem.tail _ (List.Mem.head _)))) (by decide : 4 < 5)
  have q := touD (out := [x, r, L.mir.pl]) (o3 := [x, r, L.mir.pl] ++ [rl]) (n := n) (q := RLR.mir) (X := RR.mir.kids) (Y := RLL.mir :: L.mir.kids.flatMap PT.kids) hS (List.Mem.head _) (by decide : 1 < 3) r2 (by decide : 3 < 4) (by simp [PT.kids]) r3 rfl (by simp [PT.kids]) (off_m (show ∀ d ∈ RR.dsc, d ∉ ([x, L.pl, r, rl, RLR.pl] : List Int) from fun d hd => by simp only [List.mem_cons, List.not_mem_nil, or_false, not_or]; grind)) (off_c (no_mir (show RLL.pl ∉ ([x, L.pl, r, rl, RLR.pl] : List Int) by simp only [List.mem_cons, List.not_mem_nil, or_false, not_or]; grind)) (off_m2 (show ∀ d ∈ L.dsc, d ∉ ([x, L.pl, r, rl, RLR.pl] : List Int) from fun d hd => by simp only [List.mem_cons, List.not_mem_nil, or_false, not_or]; grind))) (in_mir (List.Mem.tail _ (List.Mem.tail _ (List.Mem.tail _ (List.Mem.tail _ (List.Mem.head _))))))
  simp only [PT.mir_pl] at q
  exact ⟨4, q⟩
theorem tou9f {n n1 : NdD} {x r : Int} {L RL RR : PT} (hN : (PT.nd n x L (.nd n1 r RL RR)).pls.Nodup) : ∃ D, TouF (outS 9 (PT.nd n x L (.nd n1 r RL RR))) ((PT.nd n x L (.nd n1 r RL RR)).mt false) D (outW 9 false (PT.nd n x L (.nd n1 r RL RR))) := by
  simp only [PT.pls, PT.dsc, PT.pl_nd, List.cons_append, List.nodup_cons, List.nodup_append, List.mem_append, List.mem_cons, not_or] at hN
  have hS : ([x, L.pl, r, RR.pl] : List Int).Nodup := by simp only [List.nodup_cons, List.mem_cons, List.not_mem_nil, or_false, not_or, List.nodup_nil, and_true, not_false_eq_true]; grind
  have r2 := row2_both (A := L) (B := .nd n1 r (RL) RR) (x := x) hS (List.Mem.tail _ (List.Mem.head _)) (List.Mem.tail _ (List.Mem.tail _ (List.Mem.head _))) (by decide : 3 < 4)
  have q := touC (n := n) (q := RR) (X := L.kids ++ [RL]) (Y := []) hS (List.Mem.head _) (by decide : 2 < 4) r2 rfl (by rw [List.append_assoc]; rfl) (off_app (off_k (show ∀ d ∈ L.dsc, d ∉ ([x, L.pl, r, RR.pl] : List Int) from fun d hd => by simp only [List.mem_cons, List.not_mem_nil, or_false, not_or]; grind)) (off_1 (show RL.pl ∉ ([x, L.pl, r, RR.pl] : List Int) by simp only [List.mem_cons, List.not_mem_nil, or_false, not_or]; grind))) off_0 (List.Mem.tail _ (List.Mem.tail _ (List.Mem.tail _ (List.Mem.head _))))
  exact ⟨3, q⟩
theorem tou9t {n n1 : NdD} {x r : Int} {L RL RR : PT} (hN : (PT.nd n x L (.nd n1 r RL RR)).pls.Nodup) : ∃ D, TouF (outS 9 (PT.nd n x L (.nd n1 r RL RR))) ((PT.nd n x L (.nd n1 r RL RR)).mt true) D (outW 9 true (PT.nd n x L (.nd n1 r RL RR))) := by
  simp only [PT.pls, PT.dsc, PT.pl_nd, List.cons_append, List.nodup_cons, List.nodup_append, List.mem_append, List.mem_cons, not_or] at hN
  have hS : ([x, L.pl, r, RR.pl] : List Int).Nodup := by simp only [List.nodup_cons, List.mem_cons, List.not_mem_nil, or_false, not_or, List.nodup_nil, and_true, not_false_eq_true]; grind
  have r2 := row2_both (A := .nd n1 r RR.mir (RL.mir)) (B := L.mir) (x := x) hS (List.Mem.tail _ (List.Mem.tail _ (List.Mem.head _))) (in_mir (List.Mem.tail _ (List.Mem.head _))) (by decide : 3 < 4)
  have q := touC (n := n) (q := RR.mir) (X := []) (Y := RL.mir :: L.mir.kids) hS (List.Mem.head _) (by decide : 2 < 4) r2 rfl rfl off_0 (off_c (no_mir (show RL.pl ∉ ([x, L.pl, r, RR.pl] : List Int) by simp only [List.mem_cons, List.not_mem_nil, or_false, not_or]; grind)) (off_m (show ∀ d ∈ L.dsc, d ∉ ([x, L.pl, r, RR.pl] : List Int) from fun d hd => by simp only [List.mem_cons, List.not_mem_nil, or_false, not_or]; grind))) (in_mir (List.Mem.tail _ (List.Mem.tail _ (List.Mem.tail _ (List.Mem.head _)))))
  simp only [PT.mir_pl] at q
  exact ⟨3, q⟩
theorem tou10f {n n1 : NdD} {x r : Int} {L RL RR : PT} (hN : (PT.nd n x L (.nd n1 r RL RR)).pls.Nodup) : ∃ D, TouF (outS 10 (PT.nd n x L (.nd n1 r RL RR))) ((PT.nd n x L (.nd n1 r RL RR)).mt false) D (outW 10 false (PT.nd n x L (.nd n1 r RL RR))) := by
  simp only [PT.pls, PT.dsc, PT.pl_nd, List.cons_append, List.nodup_cons, List.nodup_append, List.mem_append, List.mem_cons, not_or] at hN
  have hS : ([x, L.pl, r, RL.pl] : List Int).Nodup := by simp only [List.nodup_cons, List.mem_cons, List.not_mem_nil, or_false, not_or, List.nodup_nil, and_true, not_false_eq_true]; grind
  have r2 := row2_both (A := L) (B := .nd n1 r (RL) RR) (x := x) hS (List.Mem.tail _ (List.Mem.head _)) (List.Mem.tail _ (List.Mem.tail _ (List.Mem.head _))) (by decide : 3 < 4)
  have q := touC (n := n) (q := RL) (X := L.kids) (Y := [RR]) hS (List.Mem.head _) (by decide : 2 < 4) r2 rfl rfl (off_k (show ∀ d ∈ L.dsc, d ∉ ([x, L.pl, r, RL.pl] : List Int) from fun d hd => by simp only [List.mem_cons, List.not_mem_nil, or_false, not_or]; grind)) (off_1 (show RR.pl ∉ ([x, L.pl, r, RL.pl] : List Int) by simp only [List.mem_cons, List.not_mem_nil, or_false, not_or]; grind)) (List.Mem.tail _ (List.Mem.tail _ (List.Mem.tail _ (List.Mem.head _))))
  exact ⟨3, q⟩
theorem tou10t {n n1 : NdD} {x r : Int} {L RL RR : PT} (hN : (PT.nd n x L (.nd n1 r RL RR)).pls.Nodup) : ∃ D, TouF (outS 10 (PT.nd n x L (.nd n1 r RL RR))) ((PT.nd n x L (.nd n1 r RL RR)).mt true) D (outW 10 true (PT.nd n x L (.nd n1 r RL RR))) := by
  simp only [PT.pls, PT.dsc, PT.pl_nd, List.cons_append, List.nodup_cons, List.nodup_append, List.mem_append, List.mem_cons, not_or] at hN
  have hS : ([x, L.pl, r, RL.pl] : List Int).Nodup := by simp only [List.nodup_cons, List.mem_cons, List.not_mem_nil, or_false, not_or, List.nodup_nil, and_true, not_false_eq_true]; grind
  have r2 := row2_both (A := .nd n1 r RR.mir (RL.mir)) (B := L.mir) (x := x) hS (List.Mem.tail _ (List.Mem.tail _ (List.Mem.head _))) (in_mir (List.Mem.tail _ (List.Mem.head _))) (by decide : 3 < 4)
  have q := touC (n := n) (q := RL.mir) (X := [RR.mir]) (Y := L.mir.kids) hS (List.Mem.head _) (by decide : 2 < 4) r2 rfl rfl (off_1 (no_mir (show RR.pl ∉ ([x, L.pl, r, RL.pl] : List Int) by simp only [List.mem_cons, List.not_mem_nil, or_false, not_or]; grind))) (off_m (show ∀ d ∈ L.dsc, d ∉ ([x, L.pl, r, RL.pl] : List Int) from fun d hd => by simp only [List.mem_cons, List.not_mem_nil, or_false, not_or]; grind)) (in_mir (List.Mem.tail _ (List.Mem.tail _ (List.Mem.tail _ (List.Mem.head _)))))
  simp only [PT.mir_pl] at q
  exact ⟨3, q⟩
theorem tou11f {n : NdD} {x : Int} {L R : PT} (hN : (PT.nd n x L R).pls.Nodup) : ∃ D, TouF (outS 11 (PT.nd n x L R)) ((PT.nd n x L R).mt false) D (outW 11 false (PT.nd n x L R)) := by
  simp only [PT.pls, PT.dsc, PT.pl_nd, List.cons_append, List.nodup_cons, List.nodup_append, List.mem_append, List.mem_cons, not_or] at hN
  have hS : ([x, L.pl, R.pl] : List Int).Nodup := by simp only [List.nodup_cons, List.mem_cons, List.not_mem_nil, or_false, not_or, List.nodup_nil, and_true, not_false_eq_true]; grind
  have q := touB (n := n) (x := x) (L := L) (R := R) hS (List.Mem.head _) (List.Mem.tail _ (List.Mem.head _)) (List.Mem.tail _ (List.Mem.tail _ (List.Mem.head _))) rfl
  exact ⟨2, q⟩
theorem tou11t {n : NdD} {x : Int} {L R : PT} (hN : (PT.nd n x L R).pls.Nodup) : ∃ D, TouF (outS 11 (PT.nd n x L R)) ((PT.nd n x L R).mt true) D (outW 11 true (PT.nd n x L R)) := by
  simp only [PT.pls, PT.dsc, PT.pl_nd, List.cons_append, List.nodup_cons, List.nodup_append, List.mem_append, List.mem_cons, not_or] at hN
  have hS : ([x, L.pl, R.pl] : List Int).Nodup := by simp only [List.nodup_cons, List.mem_cons, List.not_mem_nil, or_false, not_or, List.nodup_nil, and_true, not_false_eq_true]; grind
  have q := touB (n := n) (x := x) (L := R.mir) (R := L.mir) hS (List.Mem.head _) (in_mir (List.Mem.tail _ (List.Mem.tail _ (List.Mem.head _)))) (in_mir (List.Mem.tail _ (List.Mem.head _))) rfl
  simp only [PT.mir_pl] at q
  exact ⟨2, q⟩
theorem tou_any {k : Int} {root : Bool} {y : PT} {c : BT} (h : StepR root k y.bt c) (mi : Bool) (hN : y.pls.Nodup) : ∃ D, TouF (outS k y) (y.mt mi) D (outW k mi y) := by
  generalize hb : y.bt = b at h
  cases h with
  | blk =>
    obtain ⟨n, x, A, B, rfl, -, -, -⟩ := bt_node hb
    cases mi
    · exact tou1f hN
    · exact tou1t hN
  | rb1 =>
    obtain ⟨n, x, A, B, rfl, -, hA, -⟩ := bt_node hb
    obtain ⟨n1, l, A1, A2, rfl, -, -, -⟩ := bt_node hA
    cases mi
    · exact tou2f hN
    · exact tou2t hN
  | rb2 =>
    obtain ⟨n, x, A, B, rfl, -, hA, -⟩ := bt_node hb
    obtain ⟨n1, l, A1, A2, rfl, -, -, -⟩ := bt_node hA
    cases mi
    · exact tou3f hN
    · exact tou3t hN
  | push =>
    obtain ⟨n, x, A, B, rfl, -, -, hB⟩ := bt_node hb
    obtain ⟨n1, r, B1, B2, rfl, -, -, -⟩ := bt_node hB
    cases mi
    · exact tou4f hN
    · exact tou4t hN
  | w1 =>
    obtain ⟨n, x, A, B, rfl, -, -, hB⟩ := bt_node hb
    obtain ⟨n1, r, B1, B2, rfl, -, -, -⟩ := bt_node hB
    cases mi
    · exact tou5f hN
    · exact tou5t hN
  | w2 =>
    obtain ⟨n, x, A, B, rfl, -, -, hB⟩ := bt_node hb
    obtain ⟨n1, r, B1, B2, rfl, -, -, -⟩ := bt_node hB
    cases mi
    · exact tou6f hN
    · exact tou6t hN
  | w3 =>
    obtain ⟨n, x, A, B, rfl, -, -, hB⟩ := bt_node hb
    obtain ⟨n1, r, B1, B2, rfl, -, hB1, -⟩ := bt_node hB
    obtain ⟨n2, rl, C1, C2, rfl, -, -, -⟩ := bt_node hB1
    cases mi
    · exact tou7f hN
    · exact tou7t hN
  | w4 =>
    obtain ⟨n, x, A, B, rfl, -, -, hB⟩ := bt_node hb
    obtain ⟨n1, r, B1, B2, rfl, -, hB1, -⟩ := bt_node hB
    obtain ⟨n2, rl, C1, C2, rfl, -, -, -⟩ := bt_node hB1
    cases mi
    · exact tou8f hN
    · exact tou8t hN
  | w5 =>
    obtain ⟨n, x, A, B, rfl, -, -, hB⟩ := bt_node hb
    obtain ⟨n1, r, B1, B2, rfl, -, -, -⟩ := bt_node hB
    cases mi
    · exact tou9f hN
    · exact tou9t hN
  | w6 =>
    obtain ⟨n, x, A, B, rfl, -, -, hB⟩ := bt_node hb
    obtain ⟨n1, r, B1, B2, rfl, -, -, -⟩ := bt_node hB
    cases mi
    · exact tou10f hN
    · exact tou10t hN
  | w7 =>
    obtain ⟨n, x, A, B, rfl, -, -, -⟩ := bt_node hb
    cases mi
    · exact tou11f hN
    · exact tou11t hN
  | root =>
    refine ⟨1, ?_⟩
    have e : outS 12 y = [(y.mt mi).pl] := by cases mi <;> simp [outS, PT.mt, PT.mir_pl]
    have e2 : outW 12 mi y = [(y.mt mi).pl] := by cases mi <;> simp [outW, outI, PT.mt, PT.mir_pl]
    rw [e, e2]; exact touA _
theorem GrP.pl {t : NL} {n : Nat} {P : PT} (h : GrP t n P) : P.pl = (n : Int) := by cases h <;> rfl
theorem grp_pls {t : NL} {n : Nat} {P : PT} (h : GrP t n P) : ∀ {M : List Nat}, Tree t n M → P.pls = M.map (fun i : Nat => (i : Int)) := by
  induction h with
  | lf hp h1 h2 =>
    intro M hM
    cases hM with
    | leaf => rfl
    | inner _ q1 => exact absurd (h1.symm.trans q1) (by omega)
  | nd hp h1 h2 _ _ i1 i2 =>
    intro M hM
    cases hM with
    | leaf _ q1 => exact absurd (h1.symm.trans q1) (by omega)
    | inner _ q1 q2 t1 t2 =>
      have e1 := h1.symm.trans q1
      have e2 := h2.symm.trans q2
      have e1 := Int.ofNat.inj e1
      have e2 := Int.ofNat.inj e2
      subst e1 e2
      have a := i1 t1
      have b := i2 t2
      simp only [PT.pls] at a b
      rw [List.map_cons, List.map_append, ← a, ← b]
      rfl
theorem grp_nodup {t : NL} {n : Nat} {P : PT} (h : GrP t n P) {M : List Nat} (hM : Tree t n M) (hN : M.Nodup) (mi : Bool) : (P.mt mi).pls.Nodup := by
  have a : P.pls.Nodup := by
    rw [grp_pls h hM]
    exact List.Pairwise.map _ (fun (x y : Nat) (hxy : x ≠ y) (e : (x : Int) = (y : Int)) => hxy (Int.ofNat.inj e)) hN
  cases mi with
  | false => exact a
  | true =>
    have p : P.mir.pls.Perm P.pls := by
      simp only [PT.pls, PT.mir_pl]; exact List.Perm.cons _ (PT.mir_dsc P)
    exact p.nodup_iff.2 a
/-- A grown tree, as a side looks at it. -/
def GrM (t : NL) (mi : Bool) (n : Nat) (y : PT) : Prop := ∃ P, GrP t n P ∧ y = P.mt mi
theorem GrM.pl {t : NL} {mi : Bool} {n : Nat} {y : PT} (h : GrM t mi n y) : y.pl = (n : Int) := by
  obtain ⟨P, hP, rfl⟩ := h
  cases mi
  · exact hP.pl
  · exact (PT.mir_pl P).trans hP.pl
theorem GrM.open {t : NL} {mi : Bool} {n : Nat} {m : NdD} {pl : Int} {L R : PT} (h : GrM t mi n (.nd m pl L R)) : ∃ l r : Nat, belL t mi (n : Int) = (l : Int) ∧ belR t mi (n : Int) = (r : Int) ∧ GrM t mi l L ∧ GrM t mi r R := by
  obtain ⟨P, hP, e⟩ := h
  have hz : ¬ (n : Int) = -1 := by omega
  cases hP with
  | lf => cases mi <;> simp [PT.mt, PT.mir] at e
  | @nd _ l r A B hp h1 h2 g1 g2 =>
    cases mi with
    | false =>
      simp only [PT.mt, Bool.false_eq_true, if_false, PT.nd.injEq] at e
      obtain ⟨-, -, rfl, rfl⟩ := e
      exact ⟨l, r, by simp [belL, hz, h1], by simp [belR, hz, h2], ⟨_, g1, rfl⟩, ⟨_, g2, rfl⟩⟩
    | true =>
      simp only [PT.mt, if_true, PT.mir, PT.nd.injEq] at e
      obtain ⟨-, -, rfl, rfl⟩ := e
      exact ⟨r, l, by simp [belL, hz, h2], by simp [belR, hz, h1], ⟨_, g2, rfl⟩, ⟨_, g1, rfl⟩⟩
theorem outW_tou {k : Int} {root : Bool} {t : NL} {mi : Bool} {n : Nat} {y : PT} {c : BT} (hG : GrM t mi n y) (h : StepR root k y.bt c) : outW k mi y = touI t (n : Int) k mi := by
  generalize hb : y.bt = b at h
  cases h with
  | blk =>
    obtain ⟨m, x, A, B, rfl, -, -, -⟩ := bt_node hb
    obtain ⟨l, r, e1, e2, g1, g2⟩ := hG.open
    have := hG.pl
    simp [outW, touI, outI, this, e1, e2, g1.pl, g2.pl, PT.lt_nd, PT.rt_nd]
  | push =>
    obtain ⟨m, x, A, B, rfl, -, -, -⟩ := bt_node hb
    obtain ⟨l, r, e1, e2, g1, g2⟩ := hG.open
    have := hG.pl
    simp [outW, touI, outI, this, e1, e2, g1.pl, g2.pl, PT.lt_nd, PT.rt_nd]
  | w7 =>
    obtain ⟨m, x, A, B, rfl, -, -, -⟩ := bt_node hb
    obtain ⟨l, r, e1, e2, g1, g2⟩ := hG.open
    have := hG.pl
    simp [outW, touI, outI, this, e1, e2, g1.pl, g2.pl, PT.lt_nd, PT.rt_nd]
  | rb1 =>
    obtain ⟨m, x, A, B, rfl, -, -, -⟩ := bt_node hb
    obtain ⟨l, r, e1, e2, g1, g2⟩ := hG.open
    have := hG.pl
    simp [outW, touI, outI, this, e1, g1.pl, PT.lt_nd]
  | root =>
    have := hG.pl
    simp [outW, touI, outI, this]
  | rb2 =>
    obtain ⟨m, x, A, B, rfl, -, hA, -⟩ := bt_node hb
    obtain ⟨m1, x1, A1, A2, rfl, -, -, -⟩ := bt_node hA
    obtain ⟨l, r, e1, e2, g1, g2⟩ := hG.open
    obtain ⟨l1, r1, e3, e4, g3, g4⟩ := g1.open
    have := hG.pl
    have q1 := g1.pl
    simp [outW, touI, outI, this, e1, e4, q1, g4.pl, PT.lt_nd, PT.rt_nd]
  | w1 =>
    obtain ⟨m, x, A, B, rfl, -, -, hB⟩ := bt_node hb
    obtain ⟨m1, x1, A1, A2, rfl, -, -, -⟩ := bt_node hB
    obtain ⟨l, r, e1, e2, g1, g2⟩ := hG.open
    obtain ⟨l1, r1, e3, e4, g3, g4⟩ := g2.open
    have := hG.pl
    have q1 := g2.pl
    simp [outW, touI, outI, this, e1, e2, e3, g1.pl, q1, g3.pl, PT.lt_nd, PT.rt_nd]
  | w2 =>
    obtain ⟨m, x, A, B, rfl, -, -, hB⟩ := bt_node hb
    obtain ⟨m1, x1, A1, A2, rfl, -, -, -⟩ := bt_node hB
    obtain ⟨l, r, e1, e2, g1, g2⟩ := hG.open
    obtain ⟨l1, r1, e3, e4, g3, g4⟩ := g2.open
    have := hG.pl
    have q1 := g2.pl
    simp [outW, touI, outI, this, e1, e2, e3, g1.pl, q1, g3.pl, PT.lt_nd, PT.rt_nd]
  | w6 =>
    obtain ⟨m, x, A, B, rfl, -, -, hB⟩ := bt_node hb
    obtain ⟨m1, x1, A1, A2, rfl, -, -, -⟩ := bt_node hB
    obtain ⟨l, r, e1, e2, g1, g2⟩ := hG.open
    obtain ⟨l1, r1, e3, e4, g3, g4⟩ := g2.open
    have := hG.pl
    have q1 := g2.pl
    simp [outW, touI, outI, this, e1, e2, e3, g1.pl, q1, g3.pl, PT.lt_nd, PT.rt_nd]
  | w5 =>
    obtain ⟨m, x, A, B, rfl, -, -, hB⟩ := bt_node hb
    obtain ⟨m1, x1, A1, A2, rfl, -, -, -⟩ := bt_node hB
    obtain ⟨l, r, e1, e2, g1, g2⟩ := hG.open
    obtain ⟨l1, r1, e3, e4, g3, g4⟩ := g2.open
    have := hG.pl
    have q1 := g2.pl
    simp [outW, touI, outI, this, e1, e2, e4, g1.pl, q1, g4.pl, PT.lt_nd, PT.rt_nd]
  | w3 =>
    obtain ⟨m, x, A, B, rfl, -, -, hB⟩ := bt_node hb
    obtain ⟨m1, x1, A1, A2, rfl, -, hA1, -⟩ := bt_node hB
    obtain ⟨m2, x2, C1, C2, rfl, -, -, -⟩ := bt_node hA1
    obtain ⟨l, r, e1, e2, g1, g2⟩ := hG.open
    obtain ⟨l1, r1, e3, e4, g3, g4⟩ := g2.open
    obtain ⟨l2, r2, e5, e6, g5, g6⟩ := g3.open
    have := hG.pl
    have q1 := g2.pl
    have q2 := g3.pl
    simp [outW, touI, outI, this, e1, e2, e3, e5, g1.pl, q1, q2, g5.pl, PT.lt_nd, PT.rt_nd]
  | w4 =>
    obtain ⟨m, x, A, B, rfl, -, -, hB⟩ := bt_node hb
    obtain ⟨m1, x1, A1, A2, rfl, -, hA1, -⟩ := bt_node hB
    obtain ⟨m2, x2, C1, C2, rfl, -, -, -⟩ := bt_node hA1
    obtain ⟨l, r, e1, e2, g1, g2⟩ := hG.open
    obtain ⟨l1, r1, e3, e4, g3, g4⟩ := g2.open
    obtain ⟨l2, r2, e5, e6, g5, g6⟩ := g3.open
    have := hG.pl
    have q1 := g2.pl
    have q2 := g3.pl
    simp [outW, touI, outI, this, e1, e2, e3, e6, g1.pl, q1, q2, g6.pl, PT.lt_nd, PT.rt_nd]
end Go.Proofs.Ythlhbajaogonnaa

namespace Go.Proofs.Ythlhbajaogonnaa

/-- The same with another weight; a new inner node with the key of another one. -/
def PT.wset (a : Int) : PT → PT
  | .lf n p => .lf ⟨n.key, n.inf, a, n.val, n.l, n.r⟩ p
  | .nd n p l r => .nd ⟨n.key, n.inf, a, n.val, n.l, n.r⟩ p l r
theorem PT.wset_bt (a : Int) : ∀ P : PT, (P.wset a).bt = P.bt.wset a
  | .lf _ _ => rfl
  | .nd _ _ _ _ => rfl
def PT.mk (K : PT) (a : Int) (L R : PT) : PT := .nd ⟨K.n.key, K.n.inf, a, 0, 0, 0⟩ (-1) L R
theorem PT.mk_bt {K : PT} {a : Int} {L R : PT} {d : PD} {p q : BT} (h : K.bt = .node d p q) (hv : d.val = 0) : (K.mk a L R).bt = .node (d.w a) L.bt R.bt := by
  obtain ⟨n, pl, A, B, rfl, rfl, -, -⟩ := bt_node h
  simp only [PT.mk, PT.bt, PT.n, ndP, PD.w] at hv ⊢
  rw [hv]
theorem PT.bt_wt : ∀ P : PT, P.bt.wt = P.n.wt
  | .lf _ _ => rfl
  | .nd _ _ _ _ => rfl
/-- What stands in its place. -/
def doP (k : Int) (y : PT) : PT :=
  if k = 1 then y.mk (y.n.wt - 1) (y.lt.wset 1) (y.rt.wset 1)
  else if k = 2 then y.lt.mk y.n.wt y.lt.lt (y.mk 0 y.lt.rt y.rt)
  else if k = 3 then y.lt.rt.mk y.n.wt (y.lt.mk 0 y.lt.lt y.lt.rt.lt) (y.mk 0 y.lt.rt.rt y.rt)
  else if k = 4 then y.mk (y.n.wt + 1) (y.lt.wset (y.lt.n.wt - 1)) (y.rt.wset 0)
  else if k = 5 then y.rt.mk y.n.wt (y.mk 1 (y.lt.wset (y.lt.n.wt - 1)) (y.rt.lt.wset (y.rt.lt.n.wt - 1))) y.rt.rt
  else if k = 6 then y.rt.mk y.n.wt (y.mk 1 (y.lt.wset (y.lt.n.wt - 1)) (y.rt.lt.wset 0)) y.rt.rt
  else if k = 7 then y.rt.mk y.n.wt (y.rt.lt.lt.mk 0 (y.mk 1 (y.lt.wset (y.lt.n.wt - 1)) y.rt.lt.lt.lt) (y.rt.lt.mk 1 y.rt.lt.lt.rt y.rt.lt.rt)) y.rt.rt
  else if k = 8 then y.rt.mk y.n.wt (y.rt.lt.mk 0 (y.mk 1 (y.lt.wset (y.lt.n.wt - 1)) y.rt.lt.lt) (y.rt.lt.rt.wset 1)) y.rt.rt
  else if k = 9 then y.rt.mk y.n.wt (y.mk 1 (y.lt.wset (y.lt.n.wt - 1)) y.rt.lt) (y.rt.rt.wset 1)
  else if k = 10 then y.rt.lt.mk y.n.wt (y.mk 1 (y.lt.wset (y.lt.n.wt - 1)) y.rt.lt.lt) (y.rt.mk 1 y.rt.lt.rt y.rt.rt)
  else if k = 11 then y.mk (y.n.wt + 1) (y.lt.wset (y.lt.n.wt - 1)) (y.rt.wset (y.rt.n.wt - 1))
  else y.wset 1
theorem do_bt {k : Int} {root : Bool} {y : PT} {c : BT} (h : StepR root k y.bt c) (hok : y.bt.ok) : (doP k y).bt = c := by
  generalize hb : y.bt = b at h hok
  cases h with
  | blk =>
    obtain ⟨m, x, A, B, rfl, rfl, rfl, rfl⟩ := bt_node hb
    simp [doP, PT.mk_bt hb hok.2.1, PT.wset_bt, PT.lt_nd, PT.rt_nd, PT.n, ndP]
  | push =>
    obtain ⟨m, x, A, B, rfl, rfl, rfl, hB⟩ := bt_node hb
    simp [doP, PT.mk_bt hb hok.2.1, PT.wset_bt, PT.lt_nd, PT.rt_nd, PT.n, ndP, PT.bt_wt, hB, BT.wset]
  | w7 =>
    obtain ⟨m, x, A, B, rfl, rfl, rfl, rfl⟩ := bt_node hb
    simp [doP, PT.mk_bt hb hok.2.1, PT.wset_bt, PT.lt_nd, PT.rt_nd, PT.n, ndP, PT.bt_wt]
  | root => simp [doP, PT.wset_bt, hb]
  | rb1 =>
    obtain ⟨m, x, A, B, rfl, rfl, hA, rfl⟩ := bt_node hb
    obtain ⟨m1, x1, A1, A2, rfl, rfl, rfl, rfl⟩ := bt_node hA
    simp [doP, PT.mk_bt hb hok.2.1, PT.mk_bt hA hok.2.2.1.2.1, PT.lt_nd, PT.rt_nd, PT.n, ndP]
  | rb2 =>
    obtain ⟨m, x, A, B, rfl, rfl, hA, rfl⟩ := bt_node hb
    obtain ⟨m1, x1, A1, A2, rfl, rfl, rfl, hA2⟩ := bt_node hA
    obtain ⟨m2, x2, C1, C2, rfl, rfl, rfl, rfl⟩ := bt_node hA2
    simp [doP, PT.mk_bt hb hok.2.1, PT.mk_bt hA hok.2.2.1.2.1, PT.mk_bt hA2 hok.2.2.1.2.2.2.2.1, PT.lt_nd, PT.rt_nd, PT.n, ndP]
  | w1 =>
    obtain ⟨m, x, A, B, rfl, rfl, rfl, hB⟩ := bt_node hb
    obtain ⟨m1, x1, B1, B2, rfl, rfl, rfl, rfl⟩ := bt_node hB
    simp [doP, PT.mk_bt hb hok.2.1, PT.mk_bt hB hok.2.2.2.2.1, PT.wset_bt, PT.lt_nd, PT.rt_nd, PT.n, ndP, PT.bt_wt]
  | w2 =>
    obtain ⟨m, x, A, B, rfl, rfl, rfl, hB⟩ := bt_node hb
    obtain ⟨m1, x1, B1, B2, rfl, rfl, hB1, rfl⟩ := bt_node hB
    simp [doP, PT.mk_bt hb hok.2.1, PT.mk_bt hB hok.2.2.2.2.1, PT.wset_bt, PT.lt_nd, PT.rt_nd, PT.n, ndP, PT.bt_wt, hB1, BT.wset]
  | w3 =>
    obtain ⟨m, x, A, B, rfl, rfl, rfl, hB⟩ := bt_node hb
    obtain ⟨m1, x1, B1, B2, rfl, rfl, hB1, rfl⟩ := bt_node hB
    obtain ⟨m2, x2, C1, C2, rfl, rfl, hC1, rfl⟩ := bt_node hB1
    obtain ⟨m3, x3, D1, D2, rfl, rfl, rfl, rfl⟩ := bt_node hC1
    simp [doP, PT.mk_bt hb hok.2.1, PT.mk_bt hB hok.2.2.2.2.1, PT.mk_bt hB1 hok.2.2.2.2.2.1.2.1, PT.mk_bt hC1 hok.2.2.2.2.2.1.2.2.1.2.1, PT.wset_bt, PT.lt_nd, PT.rt_nd, PT.n, ndP, PT.bt_wt]
  | w4 =>
    obtain ⟨m, x, A, B, rfl, rfl, rfl, hB⟩ := bt_node hb
    obtain ⟨m1, x1, B1, B2, rfl, rfl, hB1, rfl⟩ := bt_node hB
    obtain ⟨m2, x2, C1, C2, rfl, rfl, rfl, rfl⟩ := bt_node hB1
    simp [doP, PT.mk_bt hb hok.2.1, PT.mk_bt hB hok.2.2.2.2.1, PT.mk_bt hB1 hok.2.2.2.2.2.1.2.1, PT.wset_bt, PT.lt_nd, PT.rt_nd, PT.n, ndP, PT.bt_wt]
  | w5 =>
    obtain ⟨m, x, A, B, rfl, rfl, rfl, hB⟩ := bt_node hb
    obtain ⟨m1, x1, B1, B2, rfl, rfl, rfl, rfl⟩ := bt_node hB
    simp [doP, PT.mk_bt hb hok.2.1, PT.mk_bt hB hok.2.2.2.2.1, PT.wset_bt, PT.lt_nd, PT.rt_nd, PT.n, ndP, PT.bt_wt]
  | w6 =>
    obtain ⟨m, x, A, B, rfl, rfl, rfl, hB⟩ := bt_node hb
    obtain ⟨m1, x1, B1, B2, rfl, rfl, hB1, rfl⟩ := bt_node hB
    obtain ⟨m2, x2, C1, C2, rfl, rfl, rfl, rfl⟩ := bt_node hB1
    simp [doP, PT.mk_bt hb hok.2.1, PT.mk_bt hB hok.2.2.2.2.1, PT.mk_bt hB1 hok.2.2.2.2.2.1.2.1, PT.wset_bt, PT.lt_nd, PT.rt_nd, PT.n, ndP, PT.bt_wt]
/-- Is a weight above the limit? -/
def BT.gr : BT → Bool
  | .leaf d => decide (d.wt > 1000000)
  | .node d l r => decide (d.wt > 1000000) || (l.gr || r.gr)
theorem gr_ok : ∀ {b : BT}, b.ok → b.gr = false
  | .leaf d, h => by have := h.2.2; simp only [BT.gr, decide_eq_false_iff_not]; omega
  | .node d l r, h => by
    have h1 := h.1.2.2
    simp only [BT.gr, gr_ok h.2.2.1, gr_ok h.2.2.2, Bool.or_false, decide_eq_false_iff_not]; omega
theorem gr_top {b : BT} {a : Int} (h : (b.wset a).ok) : b.gr = decide (1000000 < b.wt) := by
  cases b with
  | leaf d => rfl
  | node d l r =>
    show (decide (d.wt > 1000000) || (l.gr || r.gr)) = decide (1000000 < d.wt)
    rw [gr_ok h.2.2.1, gr_ok h.2.2.2]; simp
/-- Another tree in a place. -/
def PT.ins (a : Int) (Y : PT) : PT → PT
  | .lf n p => if p = a then Y else .lf n p
  | .nd n p l r => if p = a then Y else .nd n p (PT.ins a Y l) (PT.ins a Y r)
theorem ins_graft {t : NL} {q : Nat} {Y : PT} {n : Nat} {P : PT} (h : GrP t n P) : GraftR t q Y.bt n (PT.ins (q : Int) Y P).bt := by
  induction h with
  | @lf p hp h1 h2 =>
    by_cases e : p = q
    · subst e; simp only [PT.ins, if_true]; exact .here
    · have e' : ¬ (p : Int) = (q : Int) := fun x => e (Int.ofNat.inj x)
      simp only [PT.ins, if_neg e']; exact .leaf e hp h1 h2
  | @nd p l r L R hp h1 h2 _ _ i1 i2 =>
    by_cases e : p = q
    · subst e; simp only [PT.ins, if_true]; exact .here
    · have e' : ¬ (p : Int) = (q : Int) := fun x => e (Int.ofNat.inj x)
      simp only [PT.ins, if_neg e']; exact .node e hp h1 h2 i1 i2
end Go.Proofs.Ythlhbajaogonnaa

namespace Go.Proofs.Ythlhbajaogonnaa

open Go.RowKit

attribute [local go_sem ↓] Go.wp_at_zero Go.wp_at_succ

theorem wrapo (a : Int) (h1 : -9223372036854775808 ≤ a) (h2 : a ≤ 9223372036854775807) : IntKind.i64.wrap a = a := by rw [IntKind.wrap_i64] <;> omega
set_option maxRecDepth 100000 in
set_option maxHeartbeats 2000000 in
theorem node_any (B : Nat) (K L R : PT) (gk gl gr : Nat) (a : Int) (w : World) (hB : B ≤ w.heap.size) (hK : PTAt w B K gk) (hL : PTAt w B L gl) (hR : PTAt w B R gr) :
    Calls Try.prog 65 #[.pointer (some ⟨gk, 0, none⟩), .int .i64 a, .pointer (some ⟨gl, 0, none⟩), .pointer (some ⟨gr, 0, none⟩)] w fun e w' => ∃ g : Nat, e = .returned (.pointer (some ⟨g, 0, none⟩)) ∧ PTAt w' B (K.mk a L R) g ∧ Below w.heap.size w w' := by
  obtain ⟨vl, vr, hb, -, -⟩ := hK.block
  have c0 : w.cell? ⟨gk, 0, none⟩ = some (.int .i64 K.n.key) := (cell_of hb 0 _ rfl).1
  have c1 : w.cell? ⟨gk, 1, none⟩ = some (.int .i64 K.n.inf) := (cell_of hb 1 _ rfl).1
  have hl := (Array.getElem?_eq_some_iff.1 hb).1
  have E : Hid (K.mk a L R = .nd ⟨K.n.key, K.n.inf, a, 0, 0, 0⟩ (-1) L R) := rfl
  rw [E.out]
  have HL : Hid (PTAt w B L gl) := hL
  have HR : Hid (PTAt w B R gr) := hR
  have HB : Hid (B ≤ w.heap.size) := hB
  clear hb hK hL hR hB E
  generalize K.n.key = k0 at *
  generalize K.n.inf = k1 at *
  go_enter Try.func65, Try.ntmps65
  go_wp2_with fail
  go_region
  all_goals go_wp2_with fail
  all_goals go_ret
  all_goals exact ⟨_, rfl, ⟨_, _, HB.out, heap_alloc_at _ _ _ rfl, HL.out.below (by first | exact below_alloc _ _ | exact (Below.refl _ _).drew.alloc (Nat.le_refl _) _), HR.out.below (by first | exact below_alloc _ _ | exact (Below.refl _ _).drew.alloc (Nat.le_refl _) _)⟩, by first | exact below_alloc _ _ | exact (Below.refl _ _).drew.alloc (Nat.le_refl _) _⟩
theorem PTAt.wset_of {w y : World} {B : Nat} {P : PT} {g n : Nat} {vl vr : Value} (a : Int) (h : PTAt w B P g) (hb : w.heap[g]? = some (.cells (ptC P.n P.pl vl vr) 76 (0, 0))) (hn : B ≤ n) (hy : y.heap[n]? = some (.cells (ptC (P.wset a).n P.pl vl vr) 76 (0, 0))) (hk : Below w.heap.size w y) : PTAt y B (P.wset a) n := by
  cases P with
  | lf m p =>
    have q := h.2.symm.trans hb
    injection q with q
    injection q with q
    simp only [ptC, PT.n, PT.pl, Array.mk.injEq, List.cons.injEq] at q
    obtain ⟨-, -, -, -, -, -, rfl, rfl, -⟩ := q
    exact ⟨hn, hy⟩
  | nd m p l r =>
    obtain ⟨gl, gr, -, h2, h3, h4⟩ := h
    have q := h2.symm.trans hb
    injection q with q
    injection q with q
    simp only [ptC, PT.n, PT.pl, Array.mk.injEq, List.cons.injEq] at q
    obtain ⟨-, -, -, -, -, -, rfl, rfl, -⟩ := q
    exact ⟨gl, gr, hn, hy, h3.below hk, h4.below hk⟩
theorem POAt.form {w : World} {B : Nat} : ∀ {o : Option PT} {v : Value}, POAt w B o v → ∃ a, v = .pointer a
  | none, _, h => ⟨none, h⟩
  | some _, _, ⟨_, h, _⟩ => ⟨_, h⟩
theorem PT.wset_n (a : Int) : ∀ P : PT, (P.wset a).n = ⟨P.n.key, P.n.inf, a, P.n.val, P.n.l, P.n.r⟩
  | .lf _ _ => rfl
  | .nd _ _ _ _ => rfl
set_option maxRecDepth 100000 in
set_option maxHeartbeats 4000000 in
theorem rwith_any (B : Nat) (P : PT) (g : Nat) (a : Int) (w : World) (hB : B ≤ w.heap.size) (h : PTAt w B P g) :
    Calls Try.prog 31 #[.pointer (some ⟨g, 0, none⟩), .int .i64 a] w fun e w' => ∃ g' : Nat, e = .returned (.pointer (some ⟨g', 0, none⟩)) ∧ PTAt w' B (P.wset a) g' ∧ Below w.heap.size w w' := by
  obtain ⟨vl, vr, hb, hvl, hvr⟩ := h.block
  obtain ⟨ol, rfl⟩ := hvl.form
  obtain ⟨or, rfl⟩ := hvr.form
  clear hvl hvr
  have WS : Hid (∀ (y : World) (n : Nat), B ≤ n → y.heap[n]? = some (.cells (ptC (P.wset a).n P.pl (.pointer ol) (.pointer or)) 76 (0, 0)) → Below w.heap.size w y → PTAt y B (P.wset a) n) := fun y n hn hy hk => PTAt.wset_of a h hb hn hy hk
  rw [PT.wset_n] at WS
  have HB : Hid (B ≤ w.heap.size) := hB
  have HH : Hid (w.heap[g]? = some (.cells (ptC P.n P.pl (.pointer ol) (.pointer or)) 76 (0, 0))) := hb
  have hl := (Array.getElem?_eq_some_iff.1 hb).1
  clear hb h hB
  generalize P.wset a = PW at *
  generalize P.n = n at *
  obtain ⟨k0, k1, k2, k3, k4, k5⟩ := n
  generalize P.pl = pl at *
  simp only [ptC] at WS HH
  have CC : Hid (∀ z, Below w.heap.size w z → z.cell? ⟨g, 0, none⟩ = some (.int .i64 k0) ∧ z.cell? ⟨g, 1, none⟩ = some (.int .i64 k1) ∧ z.cell? ⟨g, 2, none⟩ = some (.int .i64 k2) ∧ z.cell? ⟨g, 3, none⟩ = some (.int .i64 k3) ∧ z.cell? ⟨g, 4, none⟩ = some (.int .i64 k4) ∧ z.cell? ⟨g, 5, none⟩ = some (.int .i64 k5) ∧ z.cell? ⟨g, 6, none⟩ = some (.pointer ol) ∧ z.cell? ⟨g, 7, none⟩ = some (.pointer or) ∧ z.cell? ⟨g, 8, none⟩ = some (.int .i64 pl)) := fun z hz => by
    have q := (hz.block g hl).trans HH.out
    exact ⟨(cell_of q 0 _ rfl).1, (cell_of q 1 _ rfl).1, (cell_of q 2 _ rfl).1, (cell_of q 3 _ rfl).1, (cell_of q 4 _ rfl).1, (cell_of q 5 _ rfl).1, (cell_of q 6 _ rfl).1, (cell_of q 7 _ rfl).1, (cell_of q 8 _ rfl).1⟩
  obtain ⟨c0, c1, c2, c3, c4, c5, -, -, -⟩ := CC.out w (Below.refl _ _)
  have BA : Hid (Below w.heap.size w (w.alloc (.cells #[.int .i64 k0, .int .i64 k1, .int .i64 a, .int .i64 k3, .int .i64 k4, .int .i64 k5] 55))) := below_alloc _ _
  obtain ⟨-, -, -, -, -, -, d6, d7, d8⟩ := CC.out _ BA.out
  go_enter Try.func31, Try.ntmps31
  go_wp2_with fail
  go_region
  all_goals go_wp2_with fail
  all_goals go_ret
  all_goals exact ⟨_, rfl, WS.out _ _ (Nat.le_trans HB.out (Nat.le_succ _)) (heap_alloc_at _ _ _ (by simp)) (by first | exact BA.out.alloc BA.out.size _ | exact BA.out.drew.alloc BA.out.drew.size _), by first | exact BA.out.alloc BA.out.size _ | exact BA.out.drew.alloc BA.out.drew.size _⟩
set_option maxRecDepth 100000 in
set_option maxHeartbeats 4000000 in
theorem rdo12 (B : Nat) (P : PT) (g : Nat) (w : World) (hB : B ≤ w.heap.size) (h : PTAt w B P g) :
    Calls Try.prog 30 #[.pointer (some ⟨g, 0, none⟩), .int .i64 12] w fun e w' => ∃ g' : Nat, e = .returned (.pointer (some ⟨g', 0, none⟩)) ∧ PTAt w' B (doP 12 P) g' ∧ Below w.heap.size w w' := by
  obtain ⟨vl, vr, hb, -, -⟩ := h.block
  have c6 : w.cell? ⟨g, 6, none⟩ = some vl := (cell_of hb 6 _ rfl).1
  have c7 : w.cell? ⟨g, 7, none⟩ = some vr := (cell_of hb 7 _ rfl).1
  have hl := (Array.getElem?_eq_some_iff.1 hb).1
  have WX : Hid (∀ z, Below w.heap.size w z → Calls Try.prog 62 #[.pointer (some ⟨g, 0, none⟩)] z fun e w' => e = .returned (.int .i64 (pwO (some P))) ∧ Below z.heap.size z w') := fun z hz => w_any B (some P) _ z ⟨g, rfl, h.below hz⟩
  have WI : Hid (∀ z, Below w.heap.size w z → Calls Try.prog 31 #[.pointer (some ⟨g, 0, none⟩), .int .i64 1] z fun e w' => ∃ g' : Nat, e = .returned (.pointer (some ⟨g', 0, none⟩)) ∧ PTAt w' B (P.wset 1) g' ∧ Below z.heap.size z w') := fun z hz => rwith_any B P g 1 z (Nat.le_trans hB hz.size) (h.below hz)
  have E : Hid (doP 12 P = P.wset 1) := rfl
  rw [E.out]
  have B0 : Hid (Below w.heap.size w w.drew) := (Below.refl _ _).drew
  clear hb h hB E
  generalize P.wset 1 = Q at *
  generalize pwO (some P) = q at *
  go_enter Try.func30, Try.ntmps30
  go_wp2_with fail
  go_region
  go_wp2_with fail
  refine (WX.out _ B0.out).mono ?_
  rintro e w1 ⟨rfl, hb⟩
  have B1 : Hid (Below w.heap.size w w1) := B0.out.trans (hb.mono B0.out.size)
  clear hb
  go_wp2_with fail
  refine (WI.out _ B1.out).mono ?_
  rintro e w2 ⟨g2, rfl, hT, hb⟩
  have B2 : Hid (Below w.heap.size w w2) := B1.out.trans (hb.mono B1.out.size)
  have T2 : Hid (PTAt w2 B Q g2) := hT
  clear hb hT
  go_wp2_with fail
  go_ret
  exact ⟨_, rfl, T2.out, B2.out⟩
set_option maxRecDepth 100000 in
set_option maxHeartbeats 4000000 in
theorem rdo1 (B : Nat) (n0 : NdD) (p0 : Int) (L R : PT) (g : Nat) (w : World) (hB : B ≤ w.heap.size) (qx : 0 ≤ n0.wt ∧ n0.wt ≤ 1000000) (h : PTAt w B (.nd n0 p0 L R) g) :
    Calls Try.prog 30 #[.pointer (some ⟨g, 0, none⟩), .int .i64 1] w fun e w' => ∃ g' : Nat, e = .returned (.pointer (some ⟨g', 0, none⟩)) ∧ PTAt w' B (doP 1 (.nd n0 p0 L R)) g' ∧ Below w.heap.size w w' := by
  have hx := h
  obtain ⟨gl, gr, -, bx, hl, hr⟩ := h
  have lx := (Array.getElem?_eq_some_iff.1 bx).1
  have CC : Hid (∀ z, Below w.heap.size w z → z.cell? ⟨g, 6, none⟩ = some (.pointer (some ⟨gl, 0, none⟩)) ∧ z.cell? ⟨g, 7, none⟩ = some (.pointer (some ⟨gr, 0, none⟩))) := fun z hz => by
    have qbx := (hz.block g lx).trans bx
    exact ⟨(cell_of qbx 6 _ rfl).1, (cell_of qbx 7 _ rfl).1⟩
  have Hl : Hid (∀ z, Below w.heap.size w z → PTAt z B L gl) := fun z hz => hl.below hz
  have Hr : Hid (∀ z, Below w.heap.size w z → PTAt z B R gr) := fun z hz => hr.below hz
  have Hx : Hid (∀ z, Below w.heap.size w z → PTAt z B (PT.nd n0 p0 L R) g) := fun z hz => hx.below hz
  have HB : Hid (∀ z, Below w.heap.size w z → B ≤ z.heap.size) := fun z hz => Nat.le_trans hB hz.size
  have WX : Hid (∀ z, Below w.heap.size w z → Calls Try.prog 62 #[.pointer (some ⟨g, 0, none⟩)] z fun e w' => e = .returned (.int .i64 n0.wt) ∧ Below z.heap.size z w') := fun z hz => w_any B (some (PT.nd n0 p0 L R)) _ z ⟨g, rfl, hx.below hz⟩
  have B0 : Hid (Below w.heap.size w w.drew) := (Below.refl _ _).drew
  obtain ⟨y0, y1⟩ := CC.out w (Below.refl _ _)
  have E : Hid (doP 1 (.nd n0 p0 L R) = ((PT.nd n0 p0 L R).mk (n0.wt - 1) (L.wset (1)) (R.wset (1)))) := rfl
  rw [E.out]
  have e0 : IntKind.i64.wrap (n0.wt - 1) = n0.wt - 1 := wrapo _ (by omega) (by omega)
  clear hx hB E bx hl hr
  go_enter Try.func30, Try.ntmps30
  go_wp2_with fail
  go_region
  go_wp2_with fail
  refine (WX.out _ B0.out).mono ?_
  rintro e w0 ⟨rfl, hb⟩
  have C0 : Hid (Below w.heap.size w w0) := B0.out.trans (hb.mono B0.out.size)
  clear hb
  obtain ⟨z0, z1⟩ := CC.out w0 C0.out
  have mx := Nat.lt_of_lt_of_le lx C0.out.size
  have D0 : Hid (Below w.heap.size w w0) := C0.out
  have K0 : Hid True := trivial
  go_wp2_with (first | (go_at_call 31; have hq := K0; refine (rwith_any B _ _ _ _ (HB.out _ D0.out) (Hl.out _ D0.out)).mono ?_; rintro e w1 ⟨s0, rfl, hT, hb⟩; have B1 : Hid (Below w.heap.size w w1) := D0.out.trans (hb.mono D0.out.size); have R0_1 : Hid (PTAt w1 B (L.wset (1)) s0) := hT; clear hT; have K1 : Hid True := trivial; clear hb hq K0) | (go_at_call 31; have hq := K1; refine (rwith_any B _ _ _ _ (HB.out _ B1.out) (Hr.out _ B1.out)).mono ?_; rintro e w2 ⟨s1, rfl, hT, hb⟩; have B2 : Hid (Below w.heap.size w w2) := B1.out.trans (hb.mono B1.out.size); have R0_2 : Hid (PTAt w2 B (L.wset (1)) s0) := R0_1.out.below hb; have R1_2 : Hid (PTAt w2 B (R.wset (1)) s1) := hT; clear hT; have K2 : Hid True := trivial; clear hb hq K1) | (go_at_call 65; have hq := K2; refine (node_any B _ _ _ _ _ _ _ _ (HB.out _ B2.out) (Hx.out _ B2.out) R0_2.out R1_2.out).mono ?_; rintro e w3 ⟨s2, rfl, hT, hb⟩; have B3 : Hid (Below w.heap.size w w3) := B2.out.trans (hb.mono B2.out.size); have R0_3 : Hid (PTAt w3 B (L.wset (1)) s0) := R0_2.out.below hb; have R1_3 : Hid (PTAt w3 B (R.wset (1)) s1) := R1_2.out.below hb; have R2_3 : Hid (PTAt w3 B ((PT.nd n0 p0 L R).mk (n0.wt - 1) (L.wset (1)) (R.wset (1))) s2) := hT; clear hT; have K3 : Hid True := trivial; clear hb hq K2))
  go_ret
  exact ⟨_, rfl, R2_3.out, B3.out⟩
set_option maxRecDepth 100000 in
set_option maxHeartbeats 4000000 in
theorem rdo2 (B : Nat) (n0 n1 : NdD) (p0 p1 : Int) (LL LR R : PT) (g : Nat) (w : World) (hB : B ≤ w.heap.size) (_qx : 0 ≤ n0.wt ∧ n0.wt ≤ 1000000) (h : PTAt w B (.nd n0 p0 (.nd n1 p1 LL LR) R) g) :
    Calls Try.prog 30 #[.pointer (some ⟨g, 0, none⟩), .int .i64 2] w fun e w' => ∃ g' : Nat, e = .returned (.pointer (some ⟨g', 0, none⟩)) ∧ PTAt w' B (doP 2 (.nd n0 p0 (.nd n1 p1 LL LR) R)) g' ∧ Below w.heap.size w w' := by
  have hx := h
  obtain ⟨gl, gr, -, bx, hl, hr⟩ := h
  have kl := hl
  obtain ⟨gll, glr, -, bl, hll, hlr⟩ := kl
  have lx := (Array.getElem?_eq_some_iff.1 bx).1
  have ll := (Array.getElem?_eq_some_iff.1 bl).1
  have CC : Hid (∀ z, Below w.heap.size w z → z.cell? ⟨g, 6, none⟩ = some (.pointer (some ⟨gl, 0, none⟩)) ∧ z.cell? ⟨g, 7, none⟩ = some (.pointer (some ⟨gr, 0, none⟩)) ∧ z.cell? ⟨gl, 6, none⟩ = some (.pointer (some ⟨gll, 0, none⟩)) ∧ z.cell? ⟨gl, 7, none⟩ = some (.pointer (some ⟨glr, 0, none⟩))) := fun z hz => by
    have qbx := (hz.block g lx).trans bx
    have qbl := (hz.block gl ll).trans bl
    exact ⟨(cell_of qbx 6 _ rfl).1, (cell_of qbx 7 _ rfl).1, (cell_of qbl 6 _ rfl).1, (cell_of qbl 7 _ rfl).1⟩
  have Hx : Hid (∀ z, Below w.heap.size w z → PTAt z B (PT.nd n0 p0 (.nd n1 p1 LL LR) R) g) := fun z hz => hx.below hz
  have Hlr : Hid (∀ z, Below w.heap.size w z → PTAt z B LR glr) := fun z hz => hlr.below hz
  have Hr : Hid (∀ z, Below w.heap.size w z → PTAt z B R gr) := fun z hz => hr.below hz
  have Hl : Hid (∀ z, Below w.heap.size w z → PTAt z B (PT.nd n1 p1 LL LR) gl) := fun z hz => hl.below hz
  have Hll : Hid (∀ z, Below w.heap.size w z → PTAt z B LL gll) := fun z hz => hll.below hz
  have HB : Hid (∀ z, Below w.heap.size w z → B ≤ z.heap.size) := fun z hz => Nat.le_trans hB hz.size
  have WX : Hid (∀ z, Below w.heap.size w z → Calls Try.prog 62 #[.pointer (some ⟨g, 0, none⟩)] z fun e w' => e = .returned (.int .i64 n0.wt) ∧ Below z.heap.size z w') := fun z hz => w_any B (some (PT.nd n0 p0 (.nd n1 p1 LL LR) R)) _ z ⟨g, rfl, hx.below hz⟩
  have B0 : Hid (Below w.heap.size w w.drew) := (Below.refl _ _).drew
  obtain ⟨y0, y1, y2, y3⟩ := CC.out w (Below.refl _ _)
  have E : Hid (doP 2 (.nd n0 p0 (.nd n1 p1 LL LR) R) = ((PT.nd n1 p1 LL LR).mk (n0.wt) LL ((PT.nd n0 p0 (.nd n1 p1 LL LR) R).mk (0) LR R))) := rfl
  rw [E.out]
  clear hx hB E bx bl hl hll hlr hr
  go_enter Try.func30, Try.ntmps30
  go_wp2_with fail
  go_region
  go_wp2_with fail
  refine (WX.out _ B0.out).mono ?_
  rintro e w0 ⟨rfl, hb⟩
  have C0 : Hid (Below w.heap.size w w0) := B0.out.trans (hb.mono B0.out.size)
  clear hb
  obtain ⟨z0, z1, z2, z3⟩ := CC.out w0 C0.out
  have mx := Nat.lt_of_lt_of_le lx C0.out.size
  have ml := Nat.lt_of_lt_of_le ll C0.out.size
  have D0 : Hid (Below w.heap.size w w0.drew) := C0.out.drew
  have K0 : Hid True := trivial
  go_wp2_with fail
  go_region_held3 (fun w' => w'.cell? ⟨g, 6, none⟩ = some (.pointer (some ⟨gl, 0, none⟩)) ∧ w'.cell? ⟨g, 7, none⟩ = some (.pointer (some ⟨gr, 0, none⟩)) ∧ w'.cell? ⟨gl, 6, none⟩ = some (.pointer (some ⟨gll, 0, none⟩)) ∧ w'.cell? ⟨gl, 7, none⟩ = some (.pointer (some ⟨glr, 0, none⟩)))
    (first | (with_reducible exact X2.out) | (with_reducible exact X1.out) | go_keep)
    (first | (go_at_call 65; have hq := K0; refine (node_any B _ _ _ _ _ _ _ _ (HB.out _ D0.out) (Hx.out _ D0.out) (Hlr.out _ D0.out) (Hr.out _ D0.out)).mono ?_; rintro e w1 ⟨s0, rfl, hT, hb⟩; have B1 : Hid (Below w.heap.size w w1) := D0.out.trans (hb.mono D0.out.size); have X1 : Hid (w1.cell? ⟨g, 6, none⟩ = some (.pointer (some ⟨gl, 0, none⟩)) ∧ w1.cell? ⟨g, 7, none⟩ = some (.pointer (some ⟨gr, 0, none⟩)) ∧ w1.cell? ⟨gl, 6, none⟩ = some (.pointer (some ⟨gll, 0, none⟩)) ∧ w1.cell? ⟨gl, 7, none⟩ = some (.pointer (some ⟨glr, 0, none⟩))) := CC.out _ B1.out; have R0_1 : Hid (PTAt w1 B ((PT.nd n0 p0 (.nd n1 p1 LL LR) R).mk (0) LR R) s0) := hT; clear hT; have K1 : Hid True := trivial; clear hb hq K0) | (go_at_call 65; have hq := K1; refine (node_any B _ _ _ _ _ _ _ _ (HB.out _ B1.out) (Hl.out _ B1.out) (Hll.out _ B1.out) R0_1.out).mono ?_; rintro e w2 ⟨s1, rfl, hT, hb⟩; have B2 : Hid (Below w.heap.size w w2) := B1.out.trans (hb.mono B1.out.size); have X2 : Hid (w2.cell? ⟨g, 6, none⟩ = some (.pointer (some ⟨gl, 0, none⟩)) ∧ w2.cell? ⟨g, 7, none⟩ = some (.pointer (some ⟨gr, 0, none⟩)) ∧ w2.cell? ⟨gl, 6, none⟩ = some (.pointer (some ⟨gll, 0, none⟩)) ∧ w2.cell? ⟨gl, 7, none⟩ = some (.pointer (some ⟨glr, 0, none⟩))) := CC.out _ B2.out; have R0_2 : Hid (PTAt w2 B ((PT.nd n0 p0 (.nd n1 p1 LL LR) R).mk (0) LR R) s0) := R0_1.out.below hb; have R1_2 : Hid (PTAt w2 B ((PT.nd n1 p1 LL LR).mk (n0.wt) LL ((PT.nd n0 p0 (.nd n1 p1 LL LR) R).mk (0) LR R)) s1) := hT; clear hT; have K2 : Hid True := trivial; clear hb hq K1))
  all_goals go_wp2_with fail
  all_goals go_ret
  all_goals exact ⟨_, rfl, R1_2.out, B2.out⟩
end Go.Proofs.Ythlhbajaogonnaa

namespace Go.Proofs.Ythlhbajaogonnaa

open Go.RowKit

attribute [local go_sem ↓] Go.wp_at_zero Go.wp_at_succ

/-- A row of pointers to trees, in a block of its own. -/
def prC (R : List (PT × Nat)) : List Value := R.map fun e => Value.pointer (some ⟨e.2, 0, none⟩)
structure OutsP (B : Nat) (k : Int) (y : PT) (w : World) (e : Ending) (w' : World) : Prop where
  out : ∃ (gb : Nat) (R : List (PT × Nat)), e = .returned (.slice (some ⟨gb, 0, none⟩) R.length R.length) ∧ R.map (fun e => e.1.pl) = outS k y ∧ (∀ e ∈ R, PTAt w' B e.1 e.2) ∧ w'.heap[gb]? = some (.cells (prC R).toArray 64 (0, 0)) ∧ Below w.heap.size w w'
set_option maxRecDepth 100000 in
set_option maxHeartbeats 4000000 in
theorem routs1 (B : Nat) (n0 : NdD) (p0 : Int) (L R : PT) (g : Nat) (w : World) (h : PTAt w B (.nd n0 p0 L R) g) :
    Calls Try.prog 36 #[.pointer (some ⟨g, 0, none⟩), .int .i64 1] w fun e w' => OutsP B 1 (.nd n0 p0 L R) w e w' := by
  have hx := h
  obtain ⟨gl, gr, -, bx, hl, hr⟩ := h
  have lx := (Array.getElem?_eq_some_iff.1 bx).1
  have cx6 : w.cell? ⟨g, 6, none⟩ = some (.pointer (some ⟨gl, 0, none⟩)) := (cell_of bx 6 _ rfl).1
  have cx7 : w.cell? ⟨g, 7, none⟩ = some (.pointer (some ⟨gr, 0, none⟩)) := (cell_of bx 7 _ rfl).1
  have HM : Hid (∀ y, Below w.heap.size w y → ∀ e ∈ [((PT.nd n0 p0 L R), g), (L, gl), (R, gr)], PTAt y B e.1 e.2) := by
    intro y hy e he
    simp only [List.mem_cons, List.not_mem_nil, or_false] at he
    rcases he with rfl | rfl | rfl
    · exact hx.below hy
    · exact hl.below hy
    · exact hr.below hy
  clear hx bx hl hr
  go_enter Try.func36, Try.ntmps36
  go_wp2_with fail
  go_region
  go_wp2_with fail
  all_goals go_ret
  all_goals exact ⟨_, [((PT.nd n0 p0 L R), g), (L, gl), (R, gr)], rfl, rfl, HM.out _ (by first | exact below_alloc _ _ | exact (Below.refl _ _).drew.alloc (Nat.le_refl _) _ | exact (Below.refl _ _).drew.drew.alloc (Nat.le_refl _) _), heap_alloc_at _ _ _ rfl, (by first | exact below_alloc _ _ | exact (Below.refl _ _).drew.alloc (Nat.le_refl _) _ | exact (Below.refl _ _).drew.drew.alloc (Nat.le_refl _) _)⟩
set_option maxRecDepth 100000 in
set_option maxHeartbeats 4000000 in
theorem routs2 (B : Nat) (n0 n1 : NdD) (p0 p1 : Int) (LL LR R : PT) (g : Nat) (w : World) (h : PTAt w B (.nd n0 p0 (.nd n1 p1 LL LR) R) g) :
    Calls Try.prog 36 #[.pointer (some ⟨g, 0, none⟩), .int .i64 2] w fun e w' => OutsP B 2 (.nd n0 p0 (.nd n1 p1 LL LR) R) w e w' := by
  have hx := h
  obtain ⟨gl, gr, -, bx, hl, hr⟩ := h
  have kl := hl
  obtain ⟨gll, glr, -, bl, hll, hlr⟩ := kl
  have lx := (Array.getElem?_eq_some_iff.1 bx).1
  have cx6 : w.cell? ⟨g, 6, none⟩ = some (.pointer (some ⟨gl, 0, none⟩)) := (cell_of bx 6 _ rfl).1
  have cx7 : w.cell? ⟨g, 7, none⟩ = some (.pointer (some ⟨gr, 0, none⟩)) := (cell_of bx 7 _ rfl).1
  have ll := (Array.getElem?_eq_some_iff.1 bl).1
  have cl6 : w.cell? ⟨gl, 6, none⟩ = some (.pointer (some ⟨gll, 0, none⟩)) := (cell_of bl 6 _ rfl).1
  have cl7 : w.cell? ⟨gl, 7, none⟩ = some (.pointer (some ⟨glr, 0, none⟩)) := (cell_of bl 7 _ rfl).1
  have HM : Hid (∀ y, Below w.heap.size w y → ∀ e ∈ [((PT.nd n0 p0 (.nd n1 p1 LL LR) R), g), ((PT.nd n1 p1 LL LR), gl)], PTAt y B e.1 e.2) := by
    intro y hy e he
    simp only [List.mem_cons, List.not_mem_nil, or_false] at he
    rcases he with rfl | rfl
    · exact hx.below hy
    · exact hl.below hy
  clear hx bx bl hl hll hlr hr
  go_enter Try.func36, Try.ntmps36
  go_wp2_with fail
  go_region
  go_wp2_with fail
  all_goals go_ret
  all_goals exact ⟨_, [((PT.nd n0 p0 (.nd n1 p1 LL LR) R), g), ((PT.nd n1 p1 LL LR), gl)], rfl, rfl, HM.out _ (by first | exact below_alloc _ _ | exact (Below.refl _ _).drew.alloc (Nat.le_refl _) _ | exact (Below.refl _ _).drew.drew.alloc (Nat.le_refl _) _), heap_alloc_at _ _ _ rfl, (by first | exact below_alloc _ _ | exact (Below.refl _ _).drew.alloc (Nat.le_refl _) _ | exact (Below.refl _ _).drew.drew.alloc (Nat.le_refl _) _)⟩
set_option maxRecDepth 100000 in
set_option maxHeartbeats 4000000 in
theorem routs3 (B : Nat) (n0 n1 : NdD) (p0 p1 : Int) (LL LR R : PT) (g : Nat) (w : World) (h : PTAt w B (.nd n0 p0 (.nd n1 p1 LL LR) R) g) :
    Calls Try.prog 36 #[.pointer (some ⟨g, 0, none⟩), .int .i64 3] w fun e w' => OutsP B 3 (.nd n0 p0 (.nd n1 p1 LL LR) R) w e w' := by
  have hx := h
  obtain ⟨gl, gr, -, bx, hl, hr⟩ := h
  have kl := hl
  obtain ⟨gll, glr, -, bl, hll, hlr⟩ := kl
  have lx := (Array.getElem?_eq_some_iff.1 bx).1
  have cx6 : w.cell? ⟨g, 6, none⟩ = some (.pointer (some ⟨gl, 0, none⟩)) := (cell_of bx 6 _ rfl).1
  have cx7 : w.cell? ⟨g, 7, none⟩ = some (.pointer (some ⟨gr, 0, none⟩)) := (cell_of bx 7 _ rfl).1
  have ll := (Array.getElem?_eq_some_iff.1 bl).1
  have cl6 : w.cell? ⟨gl, 6, none⟩ = some (.pointer (some ⟨gll, 0, none⟩)) := (cell_of bl 6 _ rfl).1
  have cl7 : w.cell? ⟨gl, 7, none⟩ = some (.pointer (some ⟨glr, 0, none⟩)) := (cell_of bl 7 _ rfl).1
  have HM : Hid (∀ y, Below w.heap.size w y → ∀ e ∈ [((PT.nd n0 p0 (.nd n1 p1 LL LR) R), g), ((PT.nd n1 p1 LL LR), gl), (LR, glr)], PTAt y B e.1 e.2) := by
    intro y hy e he
    simp only [List.mem_cons, List.not_mem_nil, or_false] at he
    rcases he with rfl | rfl | rfl
    · exact hx.below hy
    · exact hl.below hy
    · exact hlr.below hy
  clear hx bx bl hl hll hlr hr
  go_enter Try.func36, Try.ntmps36
  go_wp2_with fail
  go_region
  go_wp2_with fail
  all_goals go_ret
  all_goals exact ⟨_, [((PT.nd n0 p0 (.nd n1 p1 LL LR) R), g), ((PT.nd n1 p1 LL LR), gl), (LR, glr)], rfl, rfl, HM.out _ (by first | exact below_alloc _ _ | exact (Below.refl _ _).drew.alloc (Nat.le_refl _) _ | exact (Below.refl _ _).drew.drew.alloc (Nat.le_refl _) _), heap_alloc_at _ _ _ rfl, (by first | exact below_alloc _ _ | exact (Below.refl _ _).drew.alloc (Nat.le_refl _) _ | exact (Below.refl _ _).drew.drew.alloc (Nat.le_refl _) _)⟩
set_option maxRecDepth 100000 in
set_option maxHeartbeats 4000000 in
theorem routs4 (B : Nat) (n0 : NdD) (p0 : Int) (L R : PT) (g : Nat) (w : World) (h : PTAt w B (.nd n0 p0 L R) g) :
    Calls Try.prog 36 #[.pointer (some ⟨g, 0, none⟩), .int .i64 4] w fun e w' => OutsP B 4 (.nd n0 p0 L R) w e w' := by
  have hx := h
  obtain ⟨gl, gr, -, bx, hl, hr⟩ := h
  have lx := (Array.getElem?_eq_some_iff.1 bx).1
  have cx6 : w.cell? ⟨g, 6, none⟩ = some (.pointer (some ⟨gl, 0, none⟩)) := (cell_of bx 6 _ rfl).1
  have cx7 : w.cell? ⟨g, 7, none⟩ = some (.pointer (some ⟨gr, 0, none⟩)) := (cell_of bx 7 _ rfl).1
  have HM : Hid (∀ y, Below w.heap.size w y → ∀ e ∈ [((PT.nd n0 p0 L R), g), (L, gl), (R, gr)], PTAt y B e.1 e.2) := by
    intro y hy e he
    simp only [List.mem_cons, List.not_mem_nil, or_false] at he
    rcases he with rfl | rfl | rfl
    · exact hx.below hy
    · exact hl.below hy
    · exact hr.below hy
  clear hx bx hl hr
  go_enter Try.func36, Try.ntmps36
  go_wp2_with fail
  go_region
  go_wp2_with fail
  all_goals go_ret
  all_goals exact ⟨_, [((PT.nd n0 p0 L R), g), (L, gl), (R, gr)], rfl, rfl, HM.out _ (by first | exact below_alloc _ _ | exact (Below.refl _ _).drew.alloc (Nat.le_refl _) _ | exact (Below.refl _ _).drew.drew.alloc (Nat.le_refl _) _), heap_alloc_at _ _ _ rfl, (by first | exact below_alloc _ _ | exact (Below.refl _ _).drew.alloc (Nat.le_refl _) _ | exact (Below.refl _ _).drew.drew.alloc (Nat.le_refl _) _)⟩
set_option maxRecDepth 100000 in
set_option maxHeartbeats 4000000 in
theorem routs5 (B : Nat) (n0 n1 : NdD) (p0 p1 : Int) (L RL RR : PT) (g : Nat) (w : World) (h : PTAt w B (.nd n0 p0 L (.nd n1 p1 RL RR)) g) :
    Calls Try.prog 36 #[.pointer (some ⟨g, 0, none⟩), .int .i64 5] w fun e w' => OutsP B 5 (.nd n0 p0 L (.nd n1 p1 RL RR)) w e w' := by
  have hx := h
  obtain ⟨gl, gr, -, bx, hl, hr⟩ := h
  have kr := hr
  obtain ⟨grl, grr, -, br, hrl, hrr⟩ := kr
  have lx := (Array.getElem?_eq_some_iff.1 bx).1
  have cx6 : w.cell? ⟨g, 6, none⟩ = some (.pointer (some ⟨gl, 0, none⟩)) := (cell_of bx 6 _ rfl).1
  have cx7 : w.cell? ⟨g, 7, none⟩ = some (.pointer (some ⟨gr, 0, none⟩)) := (cell_of bx 7 _ rfl).1
  have lr := (Array.getElem?_eq_some_iff.1 br).1
  have cr6 : w.cell? ⟨gr, 6, none⟩ = some (.pointer (some ⟨grl, 0, none⟩)) := (cell_of br 6 _ rfl).1
  have cr7 : w.cell? ⟨gr, 7, none⟩ = some (.pointer (some ⟨grr, 0, none⟩)) := (cell_of br 7 _ rfl).1
  have HM : Hid (∀ y, Below w.heap.size w y → ∀ e ∈ [((PT.nd n0 p0 L (.nd n1 p1 RL RR)), g), (L, gl), ((PT.nd n1 p1 RL RR), gr), (RL, grl)], PTAt y B e.1 e.2) := by
    intro y hy e he
    simp only [List.mem_cons, List.not_mem_nil, or_false] at he
    rcases he with rfl | rfl | rfl | rfl
    · exact hx.below hy
    · exact hl.below hy
    · exact hr.below hy
    · exact hrl.below hy
  clear hx bx br hl hr hrl hrr
  go_enter Try.func36, Try.ntmps36
  go_wp2_with fail
  go_region
  go_wp2_with fail
  all_goals go_ret
  all_goals exact ⟨_, [((PT.nd n0 p0 L (.nd n1 p1 RL RR)), g), (L, gl), ((PT.nd n1 p1 RL RR), gr), (RL, grl)], rfl, rfl, HM.out _ (by first | exact below_alloc _ _ | exact (Below.refl _ _).drew.alloc (Nat.le_refl _) _ | exact (Below.refl _ _).drew.drew.alloc (Nat.le_refl _) _), heap_alloc_at _ _ _ rfl, (by first | exact below_alloc _ _ | exact (Below.refl _ _).drew.alloc (Nat.le_refl _) _ | exact (Below.refl _ _).drew.drew.alloc (Nat.le_refl _) _)⟩
set_option maxRecDepth 100000 in
set_option maxHeartbeats 4000000 in
theorem routs6 (B : Nat) (n0 n1 : NdD) (p0 p1 : Int) (L RL RR : PT) (g : Nat) (w : World) (h : PTAt w B (.nd n0 p0 L (.nd n1 p1 RL RR)) g) :
    Calls Try.prog 36 #[.pointer (some ⟨g, 0, none⟩), .int .i64 6] w fun e w' => OutsP B 6 (.nd n0 p0 L (.nd n1 p1 RL RR)) w e w' := by
  have hx := h
  obtain ⟨gl, gr, -, bx, hl, hr⟩ := h
  have kr := hr
  obtain ⟨grl, grr, -, br, hrl, hrr⟩ := kr
  have lx := (Array.getElem?_eq_some_iff.1 bx).1
  have cx6 : w.cell? ⟨g, 6, none⟩ = some (.pointer (some ⟨gl, 0, none⟩)) := (cell_of bx 6 _ rfl).1
  have cx7 : w.cell? ⟨g, 7, none⟩ = some (.pointer (some ⟨gr, 0, none⟩)) := (cell_of bx 7 _ rfl).1
  have lr := (Array.getElem?_eq_some_iff.1 br).1
  have cr6 : w.cell? ⟨gr, 6, none⟩ = some (.pointer (some ⟨grl, 0, none⟩)) := (cell_of br 6 _ rfl).1
  have cr7 : w.cell? ⟨gr, 7, none⟩ = some (.pointer (some ⟨grr, 0, none⟩)) := (cell_of br 7 _ rfl).1
  have HM : Hid (∀ y, Below w.heap.size w y → ∀ e ∈ [((PT.nd n0 p0 L (.nd n1 p1 RL RR)), g), (L, gl), ((PT.nd n1 p1 RL RR), gr), (RL, grl)], PTAt y B e.1 e.2) := by
    intro y hy e he
    simp only [List.mem_cons, List.not_mem_nil, or_false] at he
    rcases he with rfl | rfl | rfl | rfl
    · exact hx.below hy
    · exact hl.below hy
    · exact hr.below hy
    · exact hrl.below hy
  clear hx bx br hl hr hrl hrr
  go_enter Try.func36, Try.ntmps36
  go_wp2_with fail
  go_region
  go_wp2_with fail
  all_goals go_ret
  all_goals exact ⟨_, [((PT.nd n0 p0 L (.nd n1 p1 RL RR)), g), (L, gl), ((PT.nd n1 p1 RL RR), gr), (RL, grl)], rfl, rfl, HM.out _ (by first | exact below_alloc _ _ | exact (Below.refl _ _).drew.alloc (Nat.le_refl _) _ | exact (Below.refl _ _).drew.drew.alloc (Nat.le_refl _) _), heap_alloc_at _ _ _ rfl, (by first | exact below_alloc _ _ | exact (Below.refl _ _).drew.alloc (Nat.le_refl _) _ | exact (Below.refl _ _).drew.drew.alloc (Nat.le_refl _) _)⟩
set_option maxRecDepth 100000 in
set_option maxHeartbeats 4000000 in
theorem routs7 (B : Nat) (n0 n1 n2 : NdD) (p0 p1 p2 : Int) (L C D RR : PT) (g : Nat) (w : World) (h : PTAt w B (.nd n0 p0 L (.nd n1 p1 (.nd n2 p2 C D) RR)) g) :
    Calls Try.prog 36 #[.pointer (some ⟨g, 0, none⟩), .int .i64 7] w fun e w' => OutsP B 7 (.nd n0 p0 L (.nd n1 p1 (.nd n2 p2 C D) RR)) w e w' := by
  have hx := h
  obtain ⟨gl, gr, -, bx, hl, hr⟩ := h
  have kr := hr
  obtain ⟨grl, grr, -, br, hrl, hrr⟩ := kr
  have krl := hrl
  obtain ⟨grll, grlr, -, brl, hrll, hrlr⟩ := krl
  have lx := (Array.getElem?_eq_some_iff.1 bx).1
  have cx6 : w.cell? ⟨g, 6, none⟩ = some (.pointer (some ⟨gl, 0, none⟩)) := (cell_of bx 6 _ rfl).1
  have cx7 : w.cell? ⟨g, 7, none⟩ = some (.pointer (some ⟨gr, 0, none⟩)) := (cell_of bx 7 _ rfl).1
  have lr := (Array.getElem?_eq_some_iff.1 br).1
  have cr6 : w.cell? ⟨gr, 6, none⟩ = some (.pointer (some ⟨grl, 0, none⟩)) := (cell_of br 6 _ rfl).1
  have cr7 : w.cell? ⟨gr, 7, none⟩ = some (.pointer (some ⟨grr, 0, none⟩)) := (cell_of br 7 _ rfl).1
  have lrl := (Array.getElem?_eq_some_iff.1 brl).1
  have crl6 : w.cell? ⟨grl, 6, none⟩ = some (.pointer (some ⟨grll, 0, none⟩)) := (cell_of brl 6 _ rfl).1
  have crl7 : w.cell? ⟨grl, 7, none⟩ = some (.pointer (some ⟨grlr, 0, none⟩)) := (cell_of brl 7 _ rfl).1
  have HM : Hid (∀ y, Below w.heap.size w y → ∀ e ∈ [((PT.nd n0 p0 L (.nd n1 p1 (.nd n2 p2 C D) RR)), g), (L, gl), ((PT.nd n1 p1 (.nd n2 p2 C D) RR), gr), ((PT.nd n2 p2 C D), grl), (C, grll)], PTAt y B e.1 e.2) := by
    intro y hy e he
    simp only [List.mem_cons, List.not_mem_nil, or_false] at he
    rcases he with rfl | rfl | rfl | rfl | rfl
    · exact hx.below hy
    · exact hl.below hy
    · exact hr.below hy
    · exact hrl.below hy
    · exact hrll.below hy
  clear hx bx br brl hl hr hrl hrll hrlr hrr
  go_enter Try.func36, Try.ntmps36
  go_wp2_with fail
  go_region
  go_wp2_with fail
  go_region
  all_goals go_wp2_with fail
  all_goals go_ret
  all_goals exact ⟨_, [((PT.nd n0 p0 L (.nd n1 p1 (.nd n2 p2 C D) RR)), g), (L, gl), ((PT.nd n1 p1 (.nd n2 p2 C D) RR), gr), ((PT.nd n2 p2 C D), grl), (C, grll)], rfl, rfl, HM.out _ (by first | exact below_alloc _ _ | exact (Below.refl _ _).drew.alloc (Nat.le_refl _) _ | exact (Below.refl _ _).drew.drew.alloc (Nat.le_refl _) _), heap_alloc_at _ _ _ rfl, (by first | exact below_alloc _ _ | exact (Below.refl _ _).drew.alloc (Nat.le_refl _) _ | exact (Below.refl _ _).drew.drew.alloc (Nat.le_refl _) _)⟩
set_option maxRecDepth 100000 in
set_option maxHeartbeats 4000000 in
theorem routs8 (B : Nat) (n0 n1 n2 : NdD) (p0 p1 p2 : Int) (L C D RR : PT) (g : Nat) (w : World) (h : PTAt w B (.nd n0 p0 L (.nd n1 p1 (.nd n2 p2 C D) RR)) g) :
    Calls Try.prog 36 #[.pointer (some ⟨g, 0, none⟩), .int .i64 8] w fun e w' => OutsP B 8 (.nd n0 p0 L (.nd n1 p1 (.nd n2 p2 C D) RR)) w e w' := by
  have hx := h
  obtain ⟨gl, gr, -, bx, hl, hr⟩ := h
  have kr := hr
  obtain ⟨grl, grr, -, br, hrl, hrr⟩ := kr
  have krl := hrl
  obtain ⟨grll, grlr, -, brl, hrll, hrlr⟩ := krl
  have lx := (Array.getElem?_eq_some_iff.1 bx).1
  have cx6 : w.cell? ⟨g, 6, none⟩ = some (.pointer (some ⟨gl, 0, none⟩)) := (cell_of bx 6 _ rfl).1
  have cx7 : w.cell? ⟨g, 7, none⟩ = some (.pointer (some ⟨gr, 0, none⟩)) := (cell_of bx 7 _ rfl).1
  have lr := (Array.getElem?_eq_some_iff.1 br).1
  have cr6 : w.cell? ⟨gr, 6, none⟩ = some (.pointer (some ⟨grl, 0, none⟩)) := (cell_of br 6 _ rfl).1
  have cr7 : w.cell? ⟨gr, 7, none⟩ = some (.pointer (some ⟨grr, 0, none⟩)) := (cell_of br 7 _ rfl).1
  have lrl := (Array.getElem?_eq_some_iff.1 brl).1
  have crl6 : w.cell? ⟨grl, 6, none⟩ = some (.pointer (some ⟨grll, 0, none⟩)) := (cell_of brl 6 _ rfl).1
  have crl7 : w.cell? ⟨grl, 7, none⟩ = some (.pointer (some ⟨grlr, 0, none⟩)) := (cell_of brl 7 _ rfl).1
  have HM : Hid (∀ y, Below w.heap.size w y → ∀ e ∈ [((PT.nd n0 p0 L (.nd n1 p1 (.nd n2 p2 C D) RR)), g), (L, gl), ((PT.nd n1 p1 (.nd n2 p2 C D) RR), gr), ((PT.nd n2 p2 C D), grl), (D, grlr)], PTAt y B e.1 e.2) := by
    intro y hy e he
    simp only [List.mem_cons, List.not_mem_nil, or_false] at he
    rcases he with rfl | rfl | rfl | rfl | rfl
    · exact hx.below hy
    · exact hl.below hy
    · exact hr.below hy
    · exact hrl.below hy
    · exact hrlr.below hy
  clear hx bx br brl hl hr hrl hrll hrlr hrr
  go_enter Try.func36, Try.ntmps36
  go_wp2_with fail
  go_region
  go_wp2_with fail
  go_region
  all_goals go_wp2_with fail
  all_goals go_ret
  all_goals exact ⟨_, [((PT.nd n0 p0 L (.nd n1 p1 (.nd n2 p2 C D) RR)), g), (L, gl), ((PT.nd n1 p1 (.nd n2 p2 C D) RR), gr), ((PT.nd n2 p2 C D), grl), (D, grlr)], rfl, rfl, HM.out _ (by first | exact below_alloc _ _ | exact (Below.refl _ _).drew.alloc (Nat.le_refl _) _ | exact (Below.refl _ _).drew.drew.alloc (Nat.le_refl _) _), heap_alloc_at _ _ _ rfl, (by first | exact below_alloc _ _ | exact (Below.refl _ _).drew.alloc (Nat.le_refl _) _ | exact (Below.refl _ _).drew.drew.alloc (Nat.le_refl _) _)⟩
set_option maxRecDepth 100000 in
set_option maxHeartbeats 4000000 in
theorem routs9 (B : Nat) (n0 n1 : NdD) (p0 p1 : Int) (L RL RR : PT) (g : Nat) (w : World) (h : PTAt w B (.nd n0 p0 L (.nd n1 p1 RL RR)) g) :
    Calls Try.prog 36 #[.pointer (some ⟨g, 0, none⟩), .int .i64 9] w fun e w' => OutsP B 9 (.nd n0 p0 L (.nd n1 p1 RL RR)) w e w' := by
  have hx := h
  obtain ⟨gl, gr, -, bx, hl, hr⟩ := h
  have kr := hr
  obtain ⟨grl, grr, -, br, hrl, hrr⟩ := kr
  have lx := (Array.getElem?_eq_some_iff.1 bx).1
  have cx6 : w.cell? ⟨g, 6, none⟩ = some (.pointer (some ⟨gl, 0, none⟩)) := (cell_of bx 6 _ rfl).1
  have cx7 : w.cell? ⟨g, 7, none⟩ = some (.pointer (some ⟨gr, 0, none⟩)) := (cell_of bx 7 _ rfl).1
  have lr := (Array.getElem?_eq_some_iff.1 br).1
  have cr6 : w.cell? ⟨gr, 6, none⟩ = some (.pointer (some ⟨grl, 0, none⟩)) := (cell_of br 6 _ rfl).1
  have cr7 : w.cell? ⟨gr, 7, none⟩ = some (.pointer (some ⟨grr, 0, none⟩)) := (cell_of br 7 _ rfl).1
  have HM : Hid (∀ y, Below w.heap.size w y → ∀ e ∈ [((PT.nd n0 p0 L (.nd n1 p1 RL RR)), g), (L, gl), ((PT.nd n1 p1 RL RR), gr), (RR, grr)], PTAt y B e.1 e.2) := by
    intro y hy e he
    simp only [List.mem_cons, List.not_mem_nil, or_false] at he
    rcases he with rfl | rfl | rfl | rfl
    · exact hx.below hy
    · exact hl.below hy
    · exact hr.below hy
    · exact hrr.below hy
  clear hx bx br hl hr hrl hrr
  go_enter Try.func36, Try.ntmps36
  go_wp2_with fail
  go_region
  go_wp2_with fail
  all_goals go_ret
  all_goals exact ⟨_, [((PT.nd n0 p0 L (.nd n1 p1 RL RR)), g), (L, gl), ((PT.nd n1 p1 RL RR), gr), (RR, grr)], rfl, rfl, HM.out _ (by first | exact below_alloc _ _ | exact (Below.refl _ _).drew.alloc (Nat.le_refl _) _ | exact (Below.refl _ _).drew.drew.alloc (Nat.le_refl _) _), heap_alloc_at _ _ _ rfl, (by first | exact below_alloc _ _ | exact (Below.refl _ _).drew.alloc (Nat.le_refl _) _ | exact (Below.refl _ _).drew.drew.alloc (Nat.le_refl _) _)⟩
set_option maxRecDepth 100000 in
set_option maxHeartbeats 4000000 in
theorem routs10 (B : Nat) (n0 n1 : NdD) (p0 p1 : Int) (L RL RR : PT) (g : Nat) (w : World) (h : PTAt w B (.nd n0 p0 L (.nd n1 p1 RL RR)) g) :
    Calls Try.prog 36 #[.pointer (some ⟨g, 0, none⟩), .int .i64 10] w fun e w' => OutsP B 10 (.nd n0 p0 L (.nd n1 p1 RL RR)) w e w' := by
  have hx := h
  obtain ⟨gl, gr, -, bx, hl, hr⟩ := h
  have kr := hr
  obtain ⟨grl, grr, -, br, hrl, hrr⟩ := kr
  have lx := (Array.getElem?_eq_some_iff.1 bx).1
  have cx6 : w.cell? ⟨g, 6, none⟩ = some (.pointer (some ⟨gl, 0, none⟩)) := (cell_of bx 6 _ rfl).1
  have cx7 : w.cell? ⟨g, 7, none⟩ = some (.pointer (some ⟨gr, 0, none⟩)) := (cell_of bx 7 _ rfl).1
  have lr := (Array.getElem?_eq_some_iff.1 br).1
  have cr6 : w.cell? ⟨gr, 6, none⟩ = some (.pointer (some ⟨grl, 0, none⟩)) := (cell_of br 6 _ rfl).1
  have cr7 : w.cell? ⟨gr, 7, none⟩ = some (.pointer (some ⟨grr, 0, none⟩)) := (cell_of br 7 _ rfl).1
  have HM : Hid (∀ y, Below w.heap.size w y → ∀ e ∈ [((PT.nd n0 p0 L (.nd n1 p1 RL RR)), g), (L, gl), ((PT.nd n1 p1 RL RR), gr), (RL, grl)], PTAt y B e.1 e.2) := by
    intro y hy e he
    simp only [List.mem_cons, List.not_mem_nil, or_false] at he
    rcases he with rfl | rfl | rfl | rfl
    · exact hx.below hy
    · exact hl.below hy
    · exact hr.below hy
    · exact hrl.below hy
  clear hx bx br hl hr hrl hrr
  go_enter Try.func36, Try.ntmps36
  go_wp2_with fail
  go_region
  go_wp2_with fail
  all_goals go_ret
  all_goals exact ⟨_, [((PT.nd n0 p0 L (.nd n1 p1 RL RR)), g), (L, gl), ((PT.nd n1 p1 RL RR), gr), (RL, grl)], rfl, rfl, HM.out _ (by first | exact below_alloc _ _ | exact (Below.refl _ _).drew.alloc (Nat.le_refl _) _ | exact (Below.refl _ _).drew.drew.alloc (Nat.le_refl _) _), heap_alloc_at _ _ _ rfl, (by first | exact below_alloc _ _ | exact (Below.refl _ _).drew.alloc (Nat.le_refl _) _ | exact (Below.refl _ _).drew.drew.alloc (Nat.le_refl _) _)⟩
set_option maxRecDepth 100000 in
set_option maxHeartbeats 4000000 in
theorem routs11 (B : Nat) (n0 : NdD) (p0 : Int) (L R : PT) (g : Nat) (w : World) (h : PTAt w B (.nd n0 p0 L R) g) :
    Calls Try.prog 36 #[.pointer (some ⟨g, 0, none⟩), .int .i64 11] w fun e w' => OutsP B 11 (.nd n0 p0 L R) w e w' := by
  have hx := h
  obtain ⟨gl, gr, -, bx, hl, hr⟩ := h
  have lx := (Array.getElem?_eq_some_iff.1 bx).1
  have cx6 : w.cell? ⟨g, 6, none⟩ = some (.pointer (some ⟨gl, 0, none⟩)) := (cell_of bx 6 _ rfl).1
  have cx7 : w.cell? ⟨g, 7, none⟩ = some (.pointer (some ⟨gr, 0, none⟩)) := (cell_of bx 7 _ rfl).1
  have HM : Hid (∀ y, Below w.heap.size w y → ∀ e ∈ [((PT.nd n0 p0 L R), g), (L, gl), (R, gr)], PTAt y B e.1 e.2) := by
    intro y hy e he
    simp only [List.mem_cons, List.not_mem_nil, or_false] at he
    rcases he with rfl | rfl | rfl
    · exact hx.below hy
    · exact hl.below hy
    · exact hr.below hy
  clear hx bx hl hr
  go_enter Try.func36, Try.ntmps36
  go_wp2_with fail
  go_region
  go_wp2_with fail
  all_goals go_ret
  all_goals exact ⟨_, [((PT.nd n0 p0 L R), g), (L, gl), (R, gr)], rfl, rfl, HM.out _ (by first | exact below_alloc _ _ | exact (Below.refl _ _).drew.alloc (Nat.le_refl _) _ | exact (Below.refl _ _).drew.drew.alloc (Nat.le_refl _) _), heap_alloc_at _ _ _ rfl, (by first | exact below_alloc _ _ | exact (Below.refl _ _).drew.alloc (Nat.le_refl _) _ | exact (Below.refl _ _).drew.drew.alloc (Nat.le_refl _) _)⟩
set_option maxRecDepth 100000 in
set_option maxHeartbeats 4000000 in
theorem routs12 (B : Nat) (P : PT) (g : Nat) (w : World) (h : PTAt w B P g) :
    Calls Try.prog 36 #[.pointer (some ⟨g, 0, none⟩), .int .i64 12] w fun e w' => OutsP B 12 P w e w' := by
  obtain ⟨vl, vr, hb, -, -⟩ := h.block
  have c6 : w.cell? ⟨g, 6, none⟩ = some vl := (cell_of hb 6 _ rfl).1
  have c7 : w.cell? ⟨g, 7, none⟩ = some vr := (cell_of hb 7 _ rfl).1
  have hl := (Array.getElem?_eq_some_iff.1 hb).1
  have HM : Hid (∀ y, Below w.heap.size w y → ∀ e ∈ [(P, g)], PTAt y B e.1 e.2) := by
    intro y hy e he
    rw [List.mem_singleton] at he
    rw [he]
    exact h.below hy
  clear hb h
  go_enter Try.func36, Try.ntmps36
  go_wp2_with fail
  go_region
  go_wp2_with fail
  go_ret
  exact ⟨_, [(P, g)], rfl, rfl, HM.out _ (by first | exact below_alloc _ _ | exact (Below.refl _ _).drew.alloc (Nat.le_refl _) _ | exact (Below.refl _ _).drew.drew.alloc (Nat.le_refl _) _), heap_alloc_at _ _ _ rfl, (by first | exact below_alloc _ _ | exact (Below.refl _ _).drew.alloc (Nat.le_refl _) _ | exact (Below.refl _ _).drew.drew.alloc (Nat.le_refl _) _)⟩
theorem routs_any (B : Nat) (y : PT) (c : BT) (root : Bool) (k : Int) (g : Nat) (w : World) (hS : StepR root k y.bt c) (h : PTAt w B y g) :
    Calls Try.prog 36 #[.pointer (some ⟨g, 0, none⟩), .int .i64 k] w fun e w' => OutsP B k y w e w' := by
  generalize hb : y.bt = b at hS
  cases hS with
  | blk =>
    obtain ⟨n0, p0, A, C, rfl, -, -, -⟩ := bt_node hb
    exact routs1 B n0 p0 A C g w h
  | rb1 =>
    obtain ⟨n0, p0, A, C, rfl, -, hA, -⟩ := bt_node hb
    obtain ⟨n1, p1, A1, A2, rfl, -, -, -⟩ := bt_node hA
    exact routs2 B n0 n1 p0 p1 A1 A2 C g w h
  | rb2 =>
    obtain ⟨n0, p0, A, C, rfl, -, hA, -⟩ := bt_node hb
    obtain ⟨n1, p1, A1, A2, rfl, -, -, -⟩ := bt_node hA
    exact routs3 B n0 n1 p0 p1 A1 A2 C g w h
  | push =>
    obtain ⟨n0, p0, A, C, rfl, -, -, -⟩ := bt_node hb
    exact routs4 B n0 p0 A C g w h
  | w1 =>
    obtain ⟨n0, p0, A, C, rfl, -, -, hB⟩ := bt_node hb
    obtain ⟨n1, p1, C1, C2, rfl, -, -, -⟩ := bt_node hB
    exact routs5 B n0 n1 p0 p1 A C1 C2 g w h
  | w2 =>
    obtain ⟨n0, p0, A, C, rfl, -, -, hB⟩ := bt_node hb
    obtain ⟨n1, p1, C1, C2, rfl, -, -, -⟩ := bt_node hB
    exact routs6 B n0 n1 p0 p1 A C1 C2 g w h
  | w3 =>
    obtain ⟨n0, p0, A, C, rfl, -, -, hB⟩ := bt_node hb
    obtain ⟨n1, p1, C1, C2, rfl, -, hC1, -⟩ := bt_node hB
    obtain ⟨n2, p2, D1, D2, rfl, -, -, -⟩ := bt_node hC1
    exact routs7 B n0 n1 n2 p0 p1 p2 A D1 D2 C2 g w h
  | w4 =>
    obtain ⟨n0, p0, A, C, rfl, -, -, hB⟩ := bt_node hb
    obtain ⟨n1, p1, C1, C2, rfl, -, hC1, -⟩ := bt_node hB
    obtain ⟨n2, p2, D1, D2, rfl, -, -, -⟩ := bt_node hC1
    exact routs8 B n0 n1 n2 p0 p1 p2 A D1 D2 C2 g w h
  | w5 =>
    obtain ⟨n0, p0, A, C, rfl, -, -, hB⟩ := bt_node hb
    obtain ⟨n1, p1, C1, C2, rfl, -, -, -⟩ := bt_node hB
    exact routs9 B n0 n1 p0 p1 A C1 C2 g w h
  | w6 =>
    obtain ⟨n0, p0, A, C, rfl, -, -, hB⟩ := bt_node hb
    obtain ⟨n1, p1, C1, C2, rfl, -, -, -⟩ := bt_node hB
    exact routs10 B n0 n1 p0 p1 A C1 C2 g w h
  | w7 =>
    obtain ⟨n0, p0, A, C, rfl, -, -, -⟩ := bt_node hb
    exact routs11 B n0 p0 A C g w h
  | root => exact routs12 B y g w h
end Go.Proofs.Ythlhbajaogonnaa

namespace Go.Proofs.Ythlhbajaogonnaa

open Go.RowKit

attribute [local go_sem ↓] Go.wp_at_zero Go.wp_at_succ

theorem pt_info : (Try.prog.info? 64).map (fun i => (i.zero, i.size, i.bytes)) = some (some (.pointer none), 1, 8) := by kernel_rfl
theorem pts_under : Try.prog.underlying 73 = some (.slice 64) := by kernel_rfl
theorem prC_length (R : List (PT × Nat)) : (prC R).length = R.length := by simp [prC]
theorem prC_append (R T : List (PT × Nat)) : prC (R ++ T) = prC R ++ prC T := by simp [prC]
def pt0 : PT × Nat := (.lf nd0 0, 0)
theorem prC_at (R : List (PT × Nat)) (i : Nat) (h : i < R.length) : (prC R)[i]? = some (.pointer (some ⟨(R.getD i pt0).2, 0, none⟩)) := by
  simp [prC, List.getD_eq_getElem?_getD, List.getElem?_eq_getElem h]
/-- Inside a round: what was found, what comes next, the row that is gone through. -/
structure TI (W0 Wd x : World) (vo vn : Value) (out : List Int) (nx : List (PT × Nat)) (gr : Nat) (cur : Array Value) : Prop where
  bel : Below W0.heap.size W0 x
  own1 : x.ownsRow W0.heap.size 3 1 vo out.length (out.map (Value.int .i64))
  own2 : x.ownsRow Wd.heap.size 64 1 vn nx.length (prC nx)
  row : x.heap[gr]? = some (.cells cur 64 (0, 0))
  rlt : gr < Wd.heap.size
  le : W0.heap.size ≤ Wd.heap.size
  le2 : Wd.heap.size ≤ x.heap.size
theorem ti_ne {x : World} {B n g : Nat} {u : Value} {xs : List Value} {cur : Array Value} (h : x.ownsRow B 3 1 u n xs) (hg : x.heap[g]? = some (.cells cur 64 (0, 0))) : u.ownBlock ≠ some g := by
  rcases h.2 with ⟨rfl, _⟩ | ⟨g', cap, cur', rfl, _, hgb, _⟩
  · simp [Value.ownBlock]
  · intro e
    have : g' = g := by simpa [Value.ownBlock] using e
    subst this
    rw [hgb] at hg
    simp at hg
theorem ti_rows {x : World} {B C n m : Nat} {u v : Value} {xs ys : List Value} (h : x.ownsRow B 3 1 u n xs) (h2 : x.ownsRow C 64 1 v m ys) : v.ownBlock = none ∨ v.ownBlock ≠ u.ownBlock := by
  rcases h2.2 with ⟨rfl, _⟩ | ⟨g', cap, cur', rfl, _, hgb, _⟩
  · exact Or.inl rfl
  · exact Or.inr fun e => ti_ne h hgb e.symm
theorem ti_rows' {x : World} {B C n m : Nat} {u v : Value} {xs ys : List Value} (h : x.ownsRow B 3 1 u n xs) (h2 : x.ownsRow C 64 1 v m ys) : u.ownBlock = none ∨ u.ownBlock ≠ v.ownBlock := by
  rcases ti_rows h h2 with e | e
  · by_cases q : u.ownBlock = none
    · exact Or.inl q
    · exact Or.inr (by rw [e]; exact q)
  · exact Or.inr (Ne.symm e)
theorem TI.quiet {W0 Wd x y : World} {vo vn : Value} {out : List Int} {nx : List (PT × Nat)} {gr : Nat} {cur : Array Value} (h : TI W0 Wd x vo vn out nx gr cur) (hb : Below x.heap.size x y) : TI W0 Wd y vo vn out nx gr cur :=
  ⟨h.bel.trans (hb.mono h.bel.size), owns_below h.own1 hb, owns_below h.own2 hb, (hb.block gr (Array.getElem?_eq_some_iff.1 h.row).1).trans h.row, h.rlt, h.le, Nat.le_trans h.le2 hb.size⟩
theorem TI.push1 {W0 Wd x y : World} {vo vo' vn : Value} {out : List Int} {nx : List (PT × Nat)} {gr : Nat} {cur : Array Value} {q : Int} {o : Obj} (h : TI W0 Wd x vo vn out nx gr cur) (hg : (x.alloc o).grownBy y vo.ownBlock) (ho : y.ownsRow W0.heap.size 3 1 vo' (out.length + 1) (out.map (Value.int .i64) ++ [.int .i64 q])) : TI W0 Wd y vo' vn (out ++ [q]) nx gr cur := by
  have k := h.quiet (below_alloc x o)
  have hz : (x.alloc o).heap.size ≤ y.heap.size := (Below.grown (Below.refl 0 _) hg (Nat.zero_le _) (fun _ _ => Nat.zero_le _)).size
  refine ⟨Below.grown k.bel hg k.bel.size (fun b hb => (owns_lt k.own1 b hb).1), by rw [List.length_append, List.map_append]; exact ho, k.own2.kept hg (ti_rows k.own1 k.own2), ?_, h.rlt, h.le, Nat.le_trans k.le2 hz⟩
  exact (hg.block gr (Array.getElem?_eq_some_iff.1 k.row).1 (fun e => ti_ne k.own1 k.row e.symm)).trans k.row
theorem TI.push2 {W0 Wd x y : World} {vo vn vn' : Value} {out : List Int} {nx : List (PT × Nat)} {gr : Nat} {cur : Array Value} {a b : PT × Nat} {o : Obj} (h : TI W0 Wd x vo vn out nx gr cur) (hg : (x.alloc o).grownBy y vn.ownBlock) (ho : y.ownsRow Wd.heap.size 64 1 vn' (nx.length + 2) (prC nx ++ [.pointer (some ⟨a.2, 0, none⟩), .pointer (some ⟨b.2, 0, none⟩)])) : TI W0 Wd y vo vn' out (nx ++ [a, b]) gr cur := by
  have k := h.quiet (below_alloc x o)
  have hz : (x.alloc o).heap.size ≤ y.heap.size := (Below.grown (Below.refl 0 _) hg (Nat.zero_le _) (fun _ _ => Nat.zero_le _)).size
  refine ⟨Below.grown k.bel hg k.bel.size (fun b hb => Nat.le_trans h.le (owns_lt k.own2 b hb).1), k.own1.kept hg (ti_rows' k.own1 k.own2), by rw [List.length_append, prC_append]; exact ho, ?_, h.rlt, h.le, Nat.le_trans k.le2 hz⟩
  refine (hg.block gr (Array.getElem?_eq_some_iff.1 k.row).1 (fun e => ?_)).trans k.row
  have := (owns_lt k.own2 gr e.symm).1
  have := h.rlt
  omega
/-- Ahead of a round. -/
structure TO (W0 : World) (B : Nat) (S : List Int) (P : PT) (x : World) (vo vr : Value) (d : Nat) (R : List (PT × Nat)) (gr : Nat) (cur : Array Value) (c : Nat) : Prop where
  bel : Below W0.heap.size W0 x
  own1 : x.ownsRow W0.heap.size 3 1 vo (RoT S P d).2.length ((RoT S P d).2.map (Value.int .i64))
  val : vr = .slice (some ⟨gr, 0, none⟩) R.length c
  row : x.heap[gr]? = some (.cells cur 64 (0, 0))
  cells : ∀ i, i < R.length → cur[i]? = some (.pointer (some ⟨(R.getD i pt0).2, 0, none⟩))
  dat : R.map (·.1) = (RoT S P d).1
  at_ : ∀ e ∈ R, PTAt W0 B e.1 e.2
/-- From the end of a round to the next one. -/
theorem TI.next {W0 Wd x : World} {B : Nat} {S : List Int} {P : PT} {d : Nat} {vo vn : Value} {N : List (PT × Nat)} {gr : Nat} {cur : Array Value} (h : TI W0 Wd x vo vn (RoT S P d).2 N gr cur) (hN : N.map (·.1) = (RoT S P d).1) (hA : ∀ e ∈ N, PTAt W0 B e.1 e.2) (hne : (RoT S P d).1 ≠ []) : ∃ gr' cur' c, TO W0 B S P x vo vn d N gr' cur' c := by
  have hp : 0 < N.length := by
    rcases N with _ | ⟨a, N⟩
    · exact absurd hN.symm hne
    · simp
  rcases h.own2.2 with ⟨_, e⟩ | ⟨g, cap, cu, rfl, _, hgb, _, _, _, hc⟩
  · omega
  · refine ⟨g, cu, cap, h.bel, h.own1, rfl, hgb, fun i hi => ?_, hN, hA⟩
    have q : (cu.toList.take (N.length * 1))[i]? = cu.toList[i]? := List.getElem?_take_of_lt (by omega)
    rw [hc, prC_at N i hi] at q
    simpa using q.symm
/-- A row as far as it was gone through. -/
def foJ (S : List Int) (R : List (PT × Nat)) (out : List Int) (j : Nat) : List PT × List Int := ((R.map (·.1)).take j).foldl (stpT S) ([], out)
theorem foJ_succ (S : List Int) (R : List (PT × Nat)) (out : List Int) (j : Nat) (h : j < R.length) : foJ S R out (j + 1) = stpT S (foJ S R out j) (R.getD j pt0).1 := by
  unfold foJ
  rw [List.take_succ_eq_append_getElem (by simpa using h), List.foldl_append]
  simp [List.getD_eq_getElem?_getD, List.getElem?_eq_getElem h]
theorem foJ_end {S : List Int} {P : PT} {d : Nat} {R : List (PT × Nat)} (h : R.map (·.1) = (RoT S P d).1) : foJ S R (RoT S P d).2 R.length = RoT S P (d + 1) := by
  unfold foJ
  rw [h, show R.length = (RoT S P d).1.length by rw [← h, List.length_map], List.take_length]
  rfl
theorem filt_succ (S : List Int) (q : Int) (m : Nat) (h : m < S.length) : (S.take (m + 1)).filter (· == q) = (S.take m).filter (· == q) ++ (if (S.getD m 0 == q) = true then [q] else []) := by
  rw [List.take_succ_eq_append_getElem h, List.filter_append]
  congr 1
  rw [List.getD_eq_getElem?_getD, List.getElem?_eq_getElem h]
  simp only [Option.getD_some]
  by_cases e : S[m] = q
  · simp [e]
  · simp [e]
end Go.Proofs.Ythlhbajaogonnaa

namespace Go.Proofs.Ythlhbajaogonnaa

open Go.RowKit

attribute [local go_sem ↓] Go.wp_at_zero Go.wp_at_succ

theorem slLen_own {w : World} {B sz : Nat} {e : TypeId} {v : Value} {n : Nat} {xs : List Value} (h : w.ownsRow B e sz v n xs) : slLen v = n := by
  rcases h.2 with ⟨rfl, rfl⟩ | ⟨g, cap, cur, rfl, _⟩ <;> rfl
theorem own_form {w : World} {B sz : Nat} {e : TypeId} {v : Value} {n : Nat} {xs : List Value} (h : w.ownsRow B e sz v n xs) : ∃ a c, v = .slice a n c := by
  rcases h.2 with ⟨rfl, rfl⟩ | ⟨g, cap, cur, rfl, _⟩
  · exact ⟨_, _, rfl⟩
  · exact ⟨_, _, rfl⟩
theorem getD_in {R : List (PT × Nat)} {i : Nat} (h : i < R.length) : R.getD i pt0 ∈ R := by
  rw [List.getD_eq_getElem?_getD, List.getElem?_eq_getElem h]
  simp
/-- What is known of a tree in a later world. -/
theorem PTAt.seen {W0 x : World} {B : Nat} {P : PT} {g : Nat} (h : PTAt W0 B P g) (hb : Below W0.heap.size W0 x) : g < x.heap.size ∧ x.cell? ⟨g, 8, none⟩ = some (.int .i64 P.pl) := by
  obtain ⟨vl, vr, hh, -, -⟩ := h.block
  have hl := (Array.getElem?_eq_some_iff.1 hh).1
  have q := (hb.block g hl).trans hh
  exact ⟨Nat.lt_of_lt_of_le hl hb.size, (cell_of q 8 _ rfl).1⟩
theorem PTAt.seenL {W0 x : World} {B : Nat} {n : NdD} {pl : Int} {g : Nat} (h : PTAt W0 B (.lf n pl) g) (hb : Below W0.heap.size W0 x) : x.cell? ⟨g, 6, none⟩ = some (.pointer none) := by
  have hl := (Array.getElem?_eq_some_iff.1 h.2).1
  exact (cell_of ((hb.block g hl).trans h.2) 6 _ rfl).1
theorem PTAt.seenN {W0 : World} {B : Nat} {n : NdD} {pl : Int} {l r : PT} {g : Nat} (h : PTAt W0 B (.nd n pl l r) g) : ∃ gl gr : Nat, PTAt W0 B l gl ∧ PTAt W0 B r gr ∧ ∀ x, Below W0.heap.size W0 x → x.cell? ⟨g, 6, none⟩ = some (.pointer (some ⟨gl, 0, none⟩)) ∧ x.cell? ⟨g, 7, none⟩ = some (.pointer (some ⟨gr, 0, none⟩)) := by
  obtain ⟨gl, gr, -, hh, hL, hR⟩ := h
  refine ⟨gl, gr, hL, hR, fun x hb => ?_⟩
  have hl := (Array.getElem?_eq_some_iff.1 hh).1
  have q := (hb.block g hl).trans hh
  exact ⟨(cell_of q 6 _ rfl).1, (cell_of q 7 _ rfl).1⟩
theorem stp_lf (S : List Int) (z : List PT × List Int) (n : NdD) (pl : Int) : stpT S z (.lf n pl) = (z.1, z.2 ++ S.filter (· == pl)) := by simp [stpT, PT.kids, PT.pl]
theorem stp_nd (S : List Int) (z : List PT × List Int) (n : NdD) (pl : Int) (l r : PT) : stpT S z (.nd n pl l r) = (if (z.2 ++ S.filter (· == pl)).length < S.length then z.1 ++ [l, r] else z.1, z.2 ++ S.filter (· == pl)) := rfl
theorem stp_len (S : List Int) (z : List PT × List Int) (Q : PT) : (stpT S z Q).2.length ≤ z.2.length + S.length ∧ (stpT S z Q).1.length ≤ z.1.length + 2 := by
  have h1 := List.length_filter_le (· == Q.pl) S
  refine ⟨by simp [stpT]; exact h1, ?_⟩
  cases Q <;> simp only [stpT, PT.kids] <;> split <;> simp
theorem fo_len (S : List Int) : ∀ (L : List PT) (z : List PT × List Int), (L.foldl (stpT S) z).2.length ≤ z.2.length + L.length * S.length ∧ (L.foldl (stpT S) z).1.length ≤ z.1.length + L.length * 2
  | [], z => by simp
  | Q :: L, z => by
    have h1 := stp_len S z Q
    have h2 := fo_len S L (stpT S z Q)
    rw [List.foldl_cons, List.length_cons, Nat.add_mul, Nat.add_mul]
    omega
/-- All that the walk by depth is to know. -/
structure TB (W0 : World) (B : Nat) (S : List Int) (P : PT) (D : Nat) (want : List Int) (gb : Nat) (RL : List (PT × Nat)) : Prop where
  tou : TouF S P D want
  pls : RL.map (fun e => e.1.pl) = S
  at_ : ∀ e ∈ RL, PTAt W0 B e.1 e.2
  blk : W0.heap[gb]? = some (.cells (prC RL).toArray 64 (0, 0))
  few : S.length ≤ 5
theorem TB.len {W0 : World} {B : Nat} {S : List Int} {P : PT} {D : Nat} {want : List Int} {gb : Nat} {RL : List (PT × Nat)} (h : TB W0 B S P D want gb RL) : RL.length = S.length := by rw [← h.pls, List.length_map]
/-- A place of the list, in a later world. -/
theorem TB.nth {W0 x : World} {B : Nat} {S : List Int} {P : PT} {D : Nat} {want : List Int} {gb : Nat} {RL : List (PT × Nat)} (h : TB W0 B S P D want gb RL) (hb : Below W0.heap.size W0 x) {m : Nat} (hm : m < S.length) : ∃ gm : Nat, gb < x.heap.size ∧ x.cell? ⟨gb, m, none⟩ = some (.pointer (some ⟨gm, 0, none⟩)) ∧ gm < x.heap.size ∧ x.cell? ⟨gm, 8, none⟩ = some (.int .i64 (S.getD m 0)) := by
  have hl := (Array.getElem?_eq_some_iff.1 h.blk).1
  have hm' : m < RL.length := by rw [h.len]; exact hm
  have q := (hb.block gb hl).trans h.blk
  have c := (cell_of q m _ (by rw [List.getElem?_toArray]; exact prC_at RL m hm')).1
  have s := (h.at_ _ (getD_in hm')).seen hb
  refine ⟨_, Nat.lt_of_lt_of_le hl hb.size, c, s.1, ?_⟩
  rw [s.2]
  congr 2
  rw [← h.pls, List.getD_eq_getElem?_getD, List.getD_eq_getElem?_getD, List.getElem?_map, List.getElem?_eq_getElem hm']
  rfl
theorem rot_few {S : List Int} {P : PT} {D : Nat} {want : List Int} (h : TouF S P D want) {d : Nat} (hd : d < D) (hS : S.length ≤ 5) : (RoT S P d).1.length ≤ 1000 ∧ (RoT S P d).2.length < 5 := by
  have h2 := (h.more d hd).1
  refine ⟨?_, by omega⟩
  have q : ∀ n, (RoT S P n).1.length ≤ 2 ^ n := by
    intro n
    induction n with
    | zero => simp [RoT]
    | succ n ih =>
      have := (fo_len S (RoT S P n).1 ([], (RoT S P n).2)).2
      rw [RoT, rowT, Nat.pow_succ]
      simp only [List.length_nil] at this
      omega
  have h3 := q d
  have h4 := h.le
  have h5 : 2 ^ d ≤ 2 ^ 4 := Nat.pow_le_pow_right (by omega) (by omega)
  omega
set_option maxRecDepth 100000 in
set_option maxHeartbeats 16000000 in
theorem rTou_go (base : Option Addr) (b o c : Nat) (t : NL) (p k : Int) (mi : Bool) (w : World) (h : NodesAt w base b o t) (h0 : todoE t p k mi = 0) :
    Calls Try.prog 10 #[.slice base t.length c, .int .i64 p, .agg #[.int .i64 k, .bool mi]] w fun e w' => ∃ v, e = .returned (.tuple #[v, .int .i64 0]) ∧ IntR w w' v (touI t p k mi) := by
  have HA : Hid (NodesAt w base b o t) := h
  have B0 : Hid (Below w.heap.size w (w.alloc (.cells #[.int .i64 k, .bool mi] 24))) := below_alloc _ _
  have hlk := todo_look h0
  have hcan := (todo_ok h0).2
  have AS : Hid (∀ W, NodesAt W base b o t → Calls Try.prog 27 #[.slice base t.length c, .int .i64 p, .agg #[.int .i64 k, .bool mi]] W fun e w' => ∃ v, e = .returned (.tuple #[v, .bool (atR t p), .int .i64 0]) ∧ Below W.heap.size W w' ∧ ∃ Q, POAt w' W.heap.size (some Q) v ∧ GrP t p.toNat Q) := fun W hW => by
    have q := asked_any base b o c t p k mi W hW
    rw [if_pos hlk, hlk] at q
    refine q.mono ?_
    rintro e w' ⟨v, h1, h2, h3⟩
    obtain ⟨Q, hQ, hG⟩ := h3 rfl
    exact ⟨v, h1, h2, Q, hQ, hG⟩
  have hk : 1 ≤ k ∧ k ≤ 12 := by obtain ⟨_, _, _, _, _, _, _, q⟩ := look_place hlk; exact q
  have CA : Hid (∀ Q : PT, GrP t p.toNat Q → ∀ W B v, POAt W B (some (Q.mt mi)) v → Calls Try.prog 28 #[v, .int .i64 k, .bool (atR t p)] W fun e w' => e = .returned (.bool true) ∧ Below W.heap.size W w') := fun Q hQ W B v hv => by
    have q := rcan_any B _ v k (atR t p) W hk hv
    rw [Option.map_some, PT.mt_bt, ← theB_of (grp_det hQ)] at q
    rw [← hcan]
    exact q
  have TF : Hid (∀ Q : PT, GrP t p.toNat Q → ∃ D, TouF (outS k (Q.mt mi)) Q D (touI t p k mi) ∧ (outS k (Q.mt mi)).length ≤ 5) := fun Q hQ => by
    obtain ⟨x, Bx, C, M, rfl, -, -, -, hA, hN, hS, -⟩ := todo_is h0
    have hQ' : GrP t x Q := hQ
    have e1 : Q.bt = Bx := (grp_det hQ').det hA.abs
    have hS' : StepR (atR t (x : Int)) k (Q.mt mi).bt C := by rw [PT.mt_bt, e1]; exact hS
    obtain ⟨D, hT⟩ := tou_any hS' mi (grp_nodup hQ' hA.tree hN mi)
    have e2 : (Q.mt mi).mt mi = Q := by cases mi <;> simp [PT.mt, PT.mir_mir]
    rw [e2, outW_tou ⟨Q, hQ', rfl⟩ hS'] at hT
    refine ⟨D, hT, ?_⟩
    unfold outS
    split <;> (try split) <;> (try split) <;> (try split) <;> (try split) <;> (try split) <;> (try split) <;> (try split) <;> (try split) <;> (try split) <;> (try split) <;> simp
  have OU : Hid (∀ Q : PT, GrP t p.toNat Q → ∀ W B g, PTAt W B (Q.mt mi) g → Calls Try.prog 36 #[.pointer (some ⟨g, 0, none⟩), .int .i64 k] W fun e w' => OutsP B k (Q.mt mi) W e w') := fun Q hQ W B g hv => by
    obtain ⟨x, Bx, C, M, rfl, -, -, -, hA, hN, hS, -⟩ := todo_is h0
    have hQ' : GrP t x Q := hQ
    have e1 : Q.bt = Bx := (grp_det hQ').det hA.abs
    exact routs_any B (Q.mt mi) C (atR t (x : Int)) k g W (by rw [PT.mt_bt, e1]; exact hS) hv
  obtain ⟨i0, hi0, hz0, hz1, hz2⟩ := info_parts in_info
  obtain ⟨i1, hi1, hy0, hy1, hy2⟩ := info_parts pt_info
  clear h h0 hlk hcan hk
  generalize touI t p k mi = want at *
  generalize atR t p = rt at *
  go_enter Try.func10, Try.ntmps10
  go_wp2_with fail
  refine (AS.out _ (HA.out.below B0.out)).mono ?_
  rintro e w1 ⟨v1, rfl, hb, Q, hQ, hG⟩
  have B1 : Hid (Below w.heap.size w w1) := B0.out.trans (hb.mono B0.out.size)
  have M1 : Hid (w1.heap[w.heap.size]? = some (.cells #[.int .i64 k, .bool mi] 24 (0, 0))) := (hb.block _ (by simp)).trans (heap_alloc_at _ _ _ rfl)
  have CC : Hid (∀ z, Below w1.heap.size w1 z → z.cell? ⟨w.heap.size, 0, none⟩ = some (.int .i64 k) ∧ z.cell? ⟨w.heap.size, 1, none⟩ = some (.bool mi)) := fun z hz => by
    have q := (hz.block _ (Array.getElem?_eq_some_iff.1 M1.out).1).trans M1.out
    exact ⟨(cell_of q 0 _ rfl).1, (cell_of q 1 _ rfl).1⟩
  obtain ⟨m0, m1⟩ := CC.out w1 (Below.refl _ _)
  have ml : w.heap.size < w1.heap.size := (Array.getElem?_eq_some_iff.1 M1.out).1
  obtain ⟨gq, rfl, hQ⟩ := hQ
  have Q1 : Hid (PTAt w1 w.heap.size Q gq) := hQ.down B0.out.size
  have SI : Hid (∀ W, w.heap.size ≤ W.heap.size → POAt W w.heap.size (some Q) (.pointer (some ⟨gq, 0, none⟩)) → Calls Try.prog 29 #[.pointer (some ⟨gq, 0, none⟩), .agg #[.int .i64 k, .bool mi]] W fun e w' => ∃ u, e = .returned u ∧ POAt w' w.heap.size (some (Q.mt mi)) u ∧ Below W.heap.size W w') := fun W h1 h2 => side_any _ Q _ k mi W h1 h2
  have CN : Hid (∀ W v, POAt W w.heap.size (some (Q.mt mi)) v → Calls Try.prog 28 #[v, .int .i64 k, .bool rt] W fun e w' => e = .returned (.bool true) ∧ Below W.heap.size W w') := fun W v hv => CA.out Q hG W _ v hv
  have OQ : Hid (∀ W g, PTAt W w.heap.size (Q.mt mi) g → Calls Try.prog 36 #[.pointer (some ⟨g, 0, none⟩), .int .i64 k] W fun e w' => OutsP w.heap.size k (Q.mt mi) W e w') := fun W g hv => OU.out Q hG W _ g hv
  obtain ⟨D, hT, h5⟩ := TF.out Q hG
  have TQ : Hid (TouF (outS k (Q.mt mi)) Q D want ∧ (outS k (Q.mt mi)).length ≤ 5) := ⟨hT, h5⟩
  clear hb hQ hG AS CA OU TF hT h5
  go_wp2_with fail
  refine (SI.out _ B1.out.size ⟨gq, rfl, Q1.out⟩).mono ?_
  rintro e w2 ⟨u2, rfl, hu, hb⟩
  have B2 : Hid (Below w1.heap.size w1 w2) := hb
  obtain ⟨g2, rfl, hu⟩ := hu
  have U2 : Hid (PTAt w2 w.heap.size (Q.mt mi) g2) := hu
  obtain ⟨m2, m3⟩ := CC.out w2 hb
  have ml2 := Nat.lt_of_lt_of_le ml hb.size
  clear hb hu
  go_wp2_with fail
  refine (CN.out _ _ ⟨g2, rfl, U2.out⟩).mono ?_
  rintro e w3 ⟨rfl, hb⟩
  have B3 : Hid (Below w1.heap.size w1 w3) := B2.out.trans (hb.mono B2.out.size)
  have U3 : Hid (PTAt w3 w.heap.size (Q.mt mi) g2) := U2.out.below hb
  obtain ⟨m4, m5⟩ := CC.out w3 B3.out
  have ml3 := Nat.lt_of_lt_of_le ml B3.out.size
  clear hb
  go_wp2_with fail
  refine (OQ.out _ _ U3.out).mono ?_
  rintro e w4 ⟨gb, RL, rfl, hpl, hat, hblk, hb⟩
  have B4 : Hid (Below w1.heap.size w1 w4) := B3.out.trans (hb.mono B3.out.size)
  have T4 : Hid (TB w4 w.heap.size (outS k (Q.mt mi)) Q D want gb RL) := ⟨TQ.out.1, hpl, hat, hblk, TQ.out.2⟩
  have Q4 : Hid (PTAt w4 w.heap.size Q gq) := Q1.out.below B4.out
  have W4 : Hid (Below w.heap.size w w4) := B1.out.trans (B4.out.mono B1.out.size)
  have z4 : w.heap.size ≤ w4.heap.size := W4.out.size
  clear hb hpl hat hblk TQ
  have RLn : Hid (RL.length = (outS k (Q.mt mi)).length) := T4.out.len
  generalize outS k (Q.mt mi) = S at *
  obtain ⟨sn, hsn⟩ : ∃ sn, sn = RL.length := ⟨_, rfl⟩
  have SN : Hid (sn = S.length ∧ sn ≤ 5) := by rw [hsn, RLn.out]; exact ⟨rfl, T4.out.few⟩
  rw [← hsn]
  clear hsn RLn m0 m1 m2 m3 m4 m5 ml ml2 ml3
  have sn5 : sn ≤ 5 := SN.out.2
  have sn5' : (sn : Int) ≤ 5 := by omega
  go_wp2_with fail
  go_loopw [13, 14] (fun vo vr x => ∃ (d : Nat) (R : List (PT × Nat)) (gr : Nat) (cur : Array Value) (c : Nat), d < D ∧ TO w4 w.heap.size S Q x vo vr d R gr cur c) (fun vo _ _ => S.length - slLen vo)
  case atStart =>
    refine ⟨0, [(Q, gq)], w4.heap.size, _, 1, T4.out.tou.pos, below_alloc _ _, World.ownsRow_nil _ _ _ _, rfl, heap_alloc_at _ _ _ rfl, fun i hi => ?_, rfl, fun e he => ?_⟩
    · have : i = 0 := by simp at hi; omega
      subst this; rfl
    · rw [List.mem_singleton] at he; rw [he]; exact Q4.out
  case round =>
    obtain ⟨d, R, gr, cur, cr, hd, hTO⟩ := hrel
    obtain rfl := hTO.val
    have hmore := T4.out.tou.more d hd
    have hup := T4.out.tou.up d hd
    have hfew := rot_few T4.out.tou hd T4.out.few
    have hRl : R.length = (RoT S Q d).1.length := by rw [← hTO.dat, List.length_map]
    have hRp : 0 < R.length := by
      rw [hRl]; exact List.length_pos_iff.2 hmore.2
    have hR3 : R.length ≤ 1000 := by rw [hRl]; exact hfew.1
    obtain ⟨ao, co, rfl⟩ := own_form hTO.own1
    have MS : Hid (slLen (.slice ao (RoT S Q d).2.length co) = (RoT S Q d).2.length) := rfl
    have FJ0 : Hid (foJ S R (RoT S Q d).2 0 = ([], (RoT S Q d).2)) := rfl
    have FJE : Hid (foJ S R (RoT S Q d).2 R.length = RoT S Q (d + 1)) := foJ_end hTO.dat
    have FJS : Hid (∀ j, j < R.length → foJ S R (RoT S Q d).2 (j + 1) = stpT S (foJ S R (RoT S Q d).2 j) (R.getD j pt0).1) := fun j hj => foJ_succ S R _ j hj
    have FJL : Hid (∀ j, j ≤ R.length → (foJ S R (RoT S Q d).2 j).2.length ≤ 10000 ∧ (foJ S R (RoT S Q d).2 j).1.length ≤ 10000) := fun j hj => by
      have q := fo_len S ((R.map (·.1)).take j) ([], (RoT S Q d).2)
      have hj1 : ((R.map (·.1)).take j).length ≤ 1000 := by rw [List.length_take, List.length_map]; omega
      have hf := T4.out.few
      have m1 : ((R.map (·.1)).take j).length * S.length ≤ 1000 * 5 := Nat.mul_le_mul hj1 hf
      unfold foJ
      simp only [List.length_nil] at q
      omega
    have AT : Hid (∀ e ∈ R, PTAt w4 w.heap.size e.1 e.2) := hTO.at_
    have CU : Hid (∀ i, i < R.length → cur[i]? = some (.pointer (some ⟨(R.getD i pt0).2, 0, none⟩))) := hTO.cells
    have I0 : Hid (TI w4 wr wr (.slice ao (RoT S Q d).2.length co) (.slice none 0 0) (RoT S Q d).2 [] gr cur) := ⟨hTO.bel, hTO.own1, World.ownsRow_nil _ _ _ _, hTO.row, (Array.getElem?_eq_some_iff.1 hTO.row).1, hTO.bel.size, Nat.le_refl _⟩
    have HM : Hid ((RoT S Q d).2.length < S.length ∧ (RoT S Q d).2.length < (RoT S Q (d + 1)).2.length) := ⟨hmore.1, hup⟩
    have rp : (R.length : Int) > 0 := by omega
    have r3 : (R.length : Int) ≤ 1000 := by omega
    clear hTO hmore hup hfew hRl
    generalize (RoT S Q d).2 = OUT at *
    generalize wr = Wd at *
    go_wp2_with fail
    go_loopw [13, 15, 16] (fun vo vn i x => ∃ (j : Nat) (N : List (PT × Nat)), j ≤ R.length ∧ i = .int .i64 j ∧ TI w4 Wd x vo vn (foJ S R OUT j).2 N gr cur ∧ N.map (·.1) = (foJ S R OUT j).1 ∧ ∀ e ∈ N, PTAt w4 w.heap.size e.1 e.2) (fun _ _ i _ => R.length - (intOf i).toNat)
    case atStart => exact ⟨0, [], Nat.zero_le _, rfl, by rw [FJ0.out]; exact I0.out, by rw [FJ0.out]; rfl, fun e he => absurd he List.not_mem_nil⟩
    case round =>
      obtain ⟨j, N, hj, rfl, hTI, hN, hNA⟩ := hrel
      have NA : Hid (∀ e ∈ N, PTAt w4 w.heap.size e.1 e.2) := hNA
      have ND : Hid (N.map (·.1) = (foJ S R OUT j).1) := hN
      have FL := FJL.out j hj
      have NL1 : N.length ≤ 10000 := by rw [← List.length_map (f := (·.1)), hN]; exact FL.2
      have j0 : (0 : Int) ≤ (j : Int) := Int.natCast_nonneg _
      by_cases hlt : j < R.length
      · have jlt : (j : Int) < (R.length : Int) := by omega
        have FS : Hid (foJ S R OUT (j + 1) = stpT S ((foJ S R OUT j).1, (foJ S R OUT j).2) (R.getD j pt0).1) := FJS.out j hlt
        have cj := (cell_of hTI.row j _ (CU.out j hlt)).1
        have aj := AT.out _ (getD_in hlt)
        have lgr : gr < wr.heap.size := (Array.getElem?_eq_some_iff.1 hTI.row).1
        have KJ : Hid (cur[j]? = some (.pointer (some ⟨(R.getD j pt0).2, 0, none⟩))) := CU.out j hlt
        generalize R.getD j pt0 = ej at *
        obtain ⟨Qj, gj⟩ := ej
        simp only at FS cj aj KJ
        have AJ : Hid (PTAt w4 w.heap.size Qj gj) := aj
        have I1 : Hid (TI w4 Wd wr u13 u15 (foJ S R OUT j).2 N gr cur) := hTI
        obtain ⟨vo0, co0, rfl⟩ := own_form hTI.own1
        obtain ⟨vn0, cn0, rfl⟩ := own_form hTI.own2
        clear hTI hN hNA aj
        generalize (foJ S R OUT j).2 = OJ at *
        generalize (foJ S R OUT j).1 = NJ at *
        have SL : Hid (∀ m, ((S.take m).filter (· == Qj.pl)).length ≤ 5) := fun m => Nat.le_trans (List.length_filter_le _ _) (Nat.le_trans (List.length_take_le' _ _) T4.out.few)
        go_wp2_with fail
        go_loopw [13, 17] (fun vo i x => ∃ m : Nat, m ≤ sn ∧ i = .int .i64 m ∧ TI w4 Wd x vo (.slice vn0 N.length cn0) (OJ ++ (S.take m).filter (· == Qj.pl)) N gr cur) (fun _ i _ => sn - (intOf i).toNat)
        case atStart => exact ⟨0, Nat.zero_le _, rfl, by simpa using I1.out⟩
        case round =>
          obtain ⟨m, hm, rfl, hI⟩ := hrel
          have m0 : (0 : Int) ≤ (m : Int) := Int.natCast_nonneg _
          have sl := SL.out m
          obtain ⟨lgj, cj8⟩ := AJ.out.seen hI.bel
          have cj' := (cell_of hI.row j _ KJ.out).1
          have lgr' : gr < wr.heap.size := (Array.getElem?_eq_some_iff.1 hI.row).1
          obtain ⟨vo1, co1, rfl⟩ := own_form hI.own1
          by_cases hml : m < sn
          · have hmS : m < S.length := by rw [← SN.out.1]; exact hml
            obtain ⟨gm, lgb, cb, lgm, c8⟩ := T4.out.nth hI.bel hmS
            have mlt : (m : Int) < (sn : Int) := by omega
            have TS := filt_succ S Qj.pl m hmS
            have lF : (OJ ++ (S.take m).filter (· == Qj.pl)).length ≤ 20000 := by rw [List.length_append]; omega
            have ID : Hid (TI w4 Wd wr.drew _ _ _ N gr cur) := hI.quiet (Below.refl _ _).drew
            have z2 : w4.heap.size ≤ wr.heap.size := hI.bel.size
            have lw : w4.heap.size ≤ wr.heap.size := z2
            clear hI
            cases eq : (S.getD m 0 == Qj.pl)
            · rw [eq, if_neg (by decide), List.append_nil] at TS
              have FO : Hid (OJ ++ (S.take (m + 1)).filter (· == Qj.pl) = OJ ++ (S.take m).filter (· == Qj.pl)) := by show _ = _; rw [TS]
              clear TS
              generalize S.getD m 0 = sm at *
              generalize OJ ++ (S.take m).filter (· == Qj.pl) = O1 at *
              generalize Qj.pl = qj at *
              go_wp2_with fail
              go_region
              go_wp2_with fail
              exact ⟨⟨m + 1, by omega, by go_num, by rw [FO.out]; exact ID.out⟩, by simp [intOf]; omega⟩
            · rw [eq, if_pos rfl] at TS
              have FO : Hid (OJ ++ (S.take (m + 1)).filter (· == Qj.pl) = (OJ ++ (S.take m).filter (· == Qj.pl)) ++ [Qj.pl]) := by show _ = _; rw [TS, List.append_assoc]
              clear TS
              generalize S.getD m 0 = sm at *
              generalize OJ ++ (S.take m).filter (· == Qj.pl) = O1 at *
              generalize Qj.pl = qj at *
              go_wp2_with fail
              go_region
              go_wp2_with (first | (at_builtin; (refine wpList_append_lies _ (by rfl) _ _ _ (by rfl) w4.heap.size 3 i0 _ 1 8 ins_under hi0 hz0 hz1 hz2 rfl (by omega) _ O1.length _ (by rfl) (ID.out.own1.alloc _) ⟨wr.heap.size, 0, none⟩ 1 1 [.int .i64 qj] (by rfl) (by rfl) (World.news_of_block (cs := #[.int .i64 qj]) (t := 3) (fr := (0, 0)) (heap_alloc_at _ _ _ (by simp))) (by simp [Value.oneCell']) (by omega) (by unfold maxLen; omega) (by omega) (by simp; omega) (wr.heap.size + 1) (by simp) ?_); intro g5 c5 w5 ho hg hat hl; have I5 : Hid (TI w4 Wd w5 (.slice (some ⟨g5, 0, none⟩) (O1.length + 1) c5) (.slice vn0 N.length cn0) (O1 ++ [qj]) N gr cur) := ID.out.push1 (q := qj) hg ho; clear ho hg hat hl))
              exact ⟨⟨m + 1, by omega, by go_num, by rw [FO.out]; exact I5.out⟩, by simp [intOf]; omega⟩
          · have em : m = S.length := by rw [← SN.out.1]; omega
            have nml : ¬ ((m : Int) < (sn : Int)) := by omega
            have hI3 : TI w4 Wd wr (.slice vo1 (OJ ++ (S.take m).filter (· == Qj.pl)).length co1) (.slice vn0 N.length cn0) (OJ ++ S.filter (· == Qj.pl)) N gr cur := by rw [em, List.take_length] at hI ⊢; exact hI
            have lE : (OJ ++ (S.take m).filter (· == Qj.pl)).length = (OJ ++ S.filter (· == Qj.pl)).length := by rw [em, List.take_length]
            rw [lE] at hI3 ⊢
            have I3 : Hid (TI w4 Wd wr _ _ _ N gr cur) := hI3
            have ID : Hid (TI w4 Wd wr.drew _ _ _ N gr cur) := hI3.quiet (Below.refl _ _).drew
            have z2 : w4.heap.size ≤ wr.heap.size := hI3.bel.size
            have zd : Wd.heap.size ≤ wr.heap.size := hI3.le2
            have sl' : (OJ ++ S.filter (· == Qj.pl)).length ≤ 20000 := by rw [← lE, List.length_append]; omega
            have BX := hI3.bel
            clear hI hI3 lE em hm sl
            cases Qj with
            | lf n pl =>
              have c6 := AJ.out.seenL BX
              have FS' : Hid (foJ S R OUT (j + 1) = (NJ, OJ ++ S.filter (· == pl))) := by show _ = _; rw [FS.out, stp_lf]
              simp only [PT.pl] at I3 ID sl' cj8 ⊢
              clear BX FS
              generalize OJ ++ S.filter (· == pl) = O1 at *
              go_wp2_with fail
              exact ⟨⟨j + 1, N, by omega, by go_num, by rw [FS'.out]; exact I3.out, by rw [FS'.out]; exact ND.out, NA.out⟩, by simp [intOf]; omega⟩
            | nd n pl l r =>
              obtain ⟨gl, gr2, hL, hR, hce⟩ := AJ.out.seenN
              obtain ⟨c6, c7⟩ := hce _ BX
              simp only [PT.pl] at I3 ID sl' cj8 ⊢
              by_cases hq : (OJ ++ S.filter (· == pl)).length < S.length
              · have FS' : Hid (foJ S R OUT (j + 1) = (NJ ++ [l, r], OJ ++ S.filter (· == pl))) := by show _ = _; rw [FS.out, stp_nd]; simp only; rw [if_pos hq]
                have hq' : (((OJ ++ S.filter (· == pl)).length : Int) < (sn : Int)) := by have := SN.out.1; omega
                have NA2 : Hid (∀ e ∈ N ++ [(l, gl), (r, gr2)], PTAt w4 w.heap.size e.1 e.2) := by
                  intro e he
                  rcases List.mem_append.1 he with he | he
                  · exact NA.out e he
                  · simp only [List.mem_cons, List.not_mem_nil, or_false] at he
                    rcases he with rfl | rfl
                    · exact hL
                    · exact hR
                have ND2 : Hid ((N ++ [(l, gl), (r, gr2)]).map (·.1) = NJ ++ [l, r]) := by show _ = _; rw [List.map_append, ND.out]; rfl
                clear BX FS hce hL hR hq
                generalize OJ ++ S.filter (· == pl) = O1 at *
                go_wp2_with fail
                go_region_law (refine step_append_lies _ (by rfl) _ _ _ (by rfl) Wd.heap.size 64 i1 _ 1 8 pts_under hi1 hy0 hy1 hy2 rfl (by omega) _ N.length _ (by rfl) ((I3.out.own2.alloc _).drew) ⟨wr.heap.size, 0, none⟩ 2 2 [.pointer (some ⟨gl, 0, none⟩), .pointer (some ⟨gr2, 0, none⟩)] (by rfl) (by rfl) (World.news_of_block (cs := #[.pointer (some ⟨gl, 0, none⟩), .pointer (some ⟨gr2, 0, none⟩)]) (t := 64) (fr := (0, 0)) (heap_alloc_at _ _ _ (by simp))) (by simp [Value.oneCell']) (by omega) (by unfold maxLen; omega) (by omega) (by simp; omega) (wr.heap.size + 1) (by simp) ?_; intro g5 c5 w5 ho hg hat hl; have I5 : Hid (TI w4 Wd w5 (.slice vo1 O1.length co1) (.slice (some ⟨g5, 0, none⟩) (N.length + 2) c5) O1 (N ++ [(l, gl), (r, gr2)]) gr cur) := I3.out.push2 (a := (l, gl)) (b := (r, gr2)) (undrew hg) ho; clear ho hg hat hl)
                all_goals go_wp2_with fail
                all_goals exact ⟨⟨j + 1, _, by omega, by go_num, by rw [FS'.out]; exact I5.out, by rw [FS'.out]; exact ND2.out, NA2.out⟩, by simp [intOf]; omega⟩
              · have FS' : Hid (foJ S R OUT (j + 1) = (NJ, OJ ++ S.filter (· == pl))) := by show _ = _; rw [FS.out, stp_nd]; simp only; rw [if_neg hq]
                have hq' : ¬ (((OJ ++ S.filter (· == pl)).length : Int) < (sn : Int)) := by have := SN.out.1; omega
                clear BX FS hce hL hR hq
                generalize OJ ++ S.filter (· == pl) = O1 at *
                go_wp2_with fail
                exact ⟨⟨j + 1, N, by omega, by go_num, by rw [FS'.out]; exact I3.out, by rw [FS'.out]; exact ND.out, NA.out⟩, by simp [intOf]; omega⟩
      · obtain rfl : j = R.length := by omega
        obtain ⟨vo0, co0, rfl⟩ := own_form hTI.own1
        have hTI' := hTI
        have hN' := hN
        rw [FJE.out] at hTI' hN'
        have EL : Hid ((foJ S R OUT R.length).2.length = (RoT S Q (d + 1)).2.length) := by show _ = _; rw [FJE.out]
        have IE : Hid (TI w4 Wd wr _ _ (RoT S Q (d + 1)).2 N gr cur) := hTI'
        have NE : Hid (N.map (·.1) = (RoT S Q (d + 1)).1) := hN'
        by_cases hD : d + 1 = D
        · have ea : (RoT S Q (d + 1)).2 = want := by rw [hD]; exact T4.out.tou.ans
          have el : (foJ S R OUT R.length).2.length = sn := by rw [EL.out, ea, SN.out.1]; exact T4.out.tou.len
          have q : (((foJ S R OUT R.length).2.length : Int) == (sn : Int)) = true := by rw [el]; simp
          have IW : Hid (IntR w wr (.slice vo0 (foJ S R OUT R.length).2.length co0) want) := by
            show IntR _ _ _ _
            rw [EL.out, ea]
            exact ⟨by have q := hTI'.own1; rw [ea] at q; exact owns_down q z4, W4.out.trans (hTI'.bel.mono z4)⟩
          clear hTI hTI' hN hN' hNA EL IE
          generalize (foJ S R OUT R.length).2.length = ol at *
          clear el ea hD
          go_wp2_with fail
          go_ret2
          exact ⟨_, rfl, IW.out⟩
        · have hd' : d + 1 < D := by omega
          obtain ⟨gr', cur', c', hTO⟩ := hTI'.next hN' hNA (T4.out.tou.more (d + 1) hd').2
          have TO' : Hid (∃ (d1 : Nat) (R1 : List (PT × Nat)) (gr1 : Nat) (cur1 : Array Value) (c1 : Nat), d1 < D ∧ TO w4 w.heap.size S Q wr (.slice vo0 (foJ S R OUT R.length).2.length co0) u15 d1 R1 gr1 cur1 c1) := by
            show ∃ _, _
            rw [EL.out]
            exact ⟨d + 1, N, gr', cur', c', hd', hTO⟩
          have lm := (T4.out.tou.more (d + 1) hd').1
          have q : (((foJ S R OUT R.length).2.length : Int) == (sn : Int)) = false := by
            have := SN.out.1
            rw [EL.out]
            simp
            omega
          have MD : Hid (S.length - (foJ S R OUT R.length).2.length < S.length - OUT.length) := by
            show _ < _
            have := HM.out
            rw [EL.out]
            omega
          clear hTI hTI' hN hN' hNA EL IE hTO lm hD hd'
          generalize (foJ S R OUT R.length).2.length = ol at *
          go_wp2_with fail
          exact ⟨TO'.out, MD.out⟩
end Go.Proofs.Ythlhbajaogonnaa
