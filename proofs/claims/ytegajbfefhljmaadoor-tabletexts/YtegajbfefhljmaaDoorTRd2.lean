
/- Layer 16: the reader's add. -/

import Derived.Test.YtegajbfefhljmaaDoorTRd1

import Derived.Deep.RegionLaw

namespace Go.Proofs.YtegajbfefhljmaaDoor

open Go.RowKit

attribute [local go_sem ↓] Go.wp_at_zero Go.wp_at_succ

theorem own_form {w : World} {B sz n : Nat} {e : TypeId} {v : Value} {xs : List Value} (h : w.ownsRow B e sz v n xs) : ∃ a c, v = .slice a n c ∧ (n ≠ 0 → ∃ g, a = some ⟨g, 0, none⟩) := by
  rcases Go.Joins.ownsRow_forms h with ⟨rfl, q⟩ | ⟨g, c, rfl⟩
  · exact ⟨none, 0, by rw [q], fun h => absurd q h⟩
  · exact ⟨_, _, rfl, fun _ => ⟨g, rfl⟩⟩
theorem ndCells_l : ∀ (t : NL) (i : Nat) (v : Int), i < t.length → ndCells (t.set i { ndAt t i with l := v }) = (ndCells t).set (i * 6 + 4) (.int .i64 v)
  | [], i, _, h => by simp at h
  | p :: t, 0, v, _ => by simp [ndCells, ndAt]
  | p :: t, i + 1, v, h => by
    have ih := ndCells_l t i v (by simpa using h)
    have e : (i + 1) * 6 + 4 = i * 6 + 4 + 1 + 1 + 1 + 1 + 1 + 1 := by omega
    rw [e]
    simp only [List.set_cons_succ, ndCells]
    rw [← ih]
    simp [ndAt]
theorem ndCells_r : ∀ (t : NL) (i : Nat) (v : Int), i < t.length → ndCells (t.set i { ndAt t i with r := v }) = (ndCells t).set (i * 6 + 5) (.int .i64 v)
  | [], i, _, h => by simp at h
  | p :: t, 0, v, _ => by simp [ndCells, ndAt]
  | p :: t, i + 1, v, h => by
    have ih := ndCells_r t i v (by simpa using h)
    have e : (i + 1) * 6 + 5 = i * 6 + 5 + 1 + 1 + 1 + 1 + 1 + 1 := by omega
    rw [e]
    simp only [List.set_cons_succ, ndCells]
    rw [← ih]
    simp [ndAt]
theorem ndCells_v : ∀ (t : NL) (i : Nat) (v : Int), i < t.length → ndCells (t.set i { ndAt t i with val := v }) = (ndCells t).set (i * 6 + 3) (.int .i64 v)
  | [], i, _, h => by simp at h
  | p :: t, 0, v, _ => by simp [ndCells, ndAt]
  | p :: t, i + 1, v, h => by
    have ih := ndCells_v t i v (by simpa using h)
    have e : (i + 1) * 6 + 3 = i * 6 + 3 + 1 + 1 + 1 + 1 + 1 + 1 := by omega
    rw [e]
    simp only [List.set_cons_succ, ndCells]
    rw [← ih]
    simp [ndAt]

theorem far2 {w w3 : World} {o1 o2 : Obj} {row : Option Nat} {R : Nat} (hg : ((w.alloc o1).alloc o2).drew.grownBy w3 row) (hR : R < w.heap.size) (hne : row ≠ some R) : w3.heap[R]? = w.heap[R]? := by
  rw [hg.block R (by show R < ((w.alloc o1).alloc o2).heap.size; simp; omega) (fun q => hne q.symm)]
  show ((w.alloc o1).alloc o2).heap[R]? = _
  rw [heap_alloc_old _ _ (by simp; omega), heap_alloc_old _ _ hR]
theorem blk3 {w : World} {R : Nat} {a b c : Value} {T : TypeId} (h : w.heap[R]? = some (.cells #[a, b, c] T)) : R < w.heap.size ∧ w.cell? ⟨R, 0, none⟩ = some a ∧ w.cell? ⟨R, 1, none⟩ = some b ∧ w.cell? ⟨R, 2, none⟩ = some c ∧ w.frozen? ⟨R, 0, none⟩ = false ∧ w.frozen? ⟨R, 1, none⟩ = false ∧ w.frozen? ⟨R, 2, none⟩ = false := by
  refine ⟨(Array.getElem?_eq_some_iff.1 h).1, ?_, ?_, ?_, ?_, ?_, ?_⟩ <;> simp [World.cell?, World.frozen?, h]
theorem Turn.setAny {S : Nat → Prop} {w w' : World} (h : Turn S w w') (b j : Nat) (v : Value) (hb : S b ∨ w.heap.size ≤ b) : Turn S w (w'.setCell ⟨b, j, none⟩ v) :=
  ⟨h.os, h.tape, h.output, by simpa using h.size, fun i hi hs => by rw [Below.heap_setCell _ _ _ _ (fun q => by simp at q; rcases hb with r | r; exact hs (by rw [q]; exact r); omega)]; exact h.block i hi hs⟩
theorem Turn.drewN {S : Nat → Prop} {w w' : World} (h : Turn S w w') (n : Nat) : Turn S w (w'.drewN n) := ⟨h.os, h.tape, h.output, h.size, h.block⟩
/-- A cell of one of its nodes set. -/
theorem RdAt.setNode {w : World} {B R g n c : Nat} {l : List UInt8} {ov : Value} {N N' : NL} {O : List Nat} (h : RdAt w B R l (.slice (some ⟨g, 0, none⟩) n c) ov N O) (j : Nat) (v : Value) (hl : N'.length = N.length) (hc : ndCells N' = (ndCells N).set j v) : RdAt (w.setCell ⟨g, j, none⟩ v) B R l (.slice (some ⟨g, 0, none⟩) n c) ov N' O := by
  have ht : Turn (fun k => k = g) w (w.setCell ⟨g, j, none⟩ v) := (Turn.refl _ w).setCell g j v rfl
  have hgR : R ≠ g := (h.sepN g rfl).symm
  have hn : n = N.length := by have := own_len h.hN; simpa [slLen] using this
  subst hn
  refine ⟨h.lo, by rw [ht.block R h.lt hgR]; exact h.blk, ?_, owns_turn h.hO ht (fun g' q r => ?_)⟩
  · rw [hl, hc]; exact owns_put h.hN j v
  · rcases own_sep h.hO h.hN (by decide) with e | e
    · rw [e] at q; cases q
    · exact e (by rw [q, r]; rfl)
theorem hangD_l {n : NdD} {p : Int} (h : n.l = -1) : hangD n p = { n with l := p } := by unfold hangD; rw [if_pos h]
theorem hangD_r {n : NdD} {p : Int} (h : n.l ≠ -1) : hangD n p = { n with r := p } := by unfold hangD; rw [if_neg h]
/-- The reader behind a node's appending. -/
theorem RdAt.added {w w3 : World} {B R : Nat} {l : List UInt8} {nv ov : Value} {N : NL} {O : List Nat} {o1 o2 : Obj} {g c : Nat} {d : NdD} (h : RdAt w B R l nv ov N O) (hg : ((w.alloc o1).alloc o2).drew.grownBy w3 nv.ownBlock) (ho : w3.ownsRow B 33 6 (.slice (some ⟨g, 0, none⟩) (N.length + 1) c) (N.length + 1) (ndCells N ++ ndC d)) (hat : nv.ownBlock = some g ∨ g = w.heap.size + 2) :
    RdAt (w3.setCell ⟨R, 1, none⟩ (.slice (some ⟨g, 0, none⟩) (N.length + 1) c)) B R l (.slice (some ⟨g, 0, none⟩) (N.length + 1) c) ov (N ++ [d]) O ∧ Turn (fun k => k = R ∨ nv.ownBlock = some k) w (w3.setCell ⟨R, 1, none⟩ (.slice (some ⟨g, 0, none⟩) (N.length + 1) c)) := by
  have hR : w3.heap[R]? = w.heap[R]? := far2 hg h.lt (fun q => h.sepN R q rfl)
  have hgR : R ≠ g := by
    rcases hat with q | q
    · exact (h.sepN g q).symm
    · have := h.lt; omega
  have hsz : w.heap.size ≤ w3.heap.size := by
    have h1 := hg.size
    have h2 : ((w.alloc o1).alloc o2).drew.heap.size = w.heap.size + 2 := by show ((w.alloc o1).alloc o2).heap.size = _; simp
    omega
  have ht : Turn (fun k => k = R ∨ nv.ownBlock = some k) w w3 := ⟨hg.os, hg.tape, hg.output, hsz, fun k hk hs => far2 hg hk (fun q => hs (Or.inr q))⟩
  refine ⟨⟨h.lo, ?_, ?_, ?_⟩, ht.setCell R 1 _ (Or.inl rfl)⟩
  · rw [Go.Joins.block_setCell (hR.trans h.blk)]; rfl
  · rw [List.length_append, ndCells_append, ndCells_one]
    exact owns_other ho R 1 _ hgR
  · have hO : w3.ownsRow B 3 1 ov O.length (natC O) := owns_turn h.hO ht (fun g' q r => by
      rcases r with r | r
      · exact h.sepO g' q r
      · rcases own_sep h.hO h.hN (by decide) with e | e
        · rw [e] at q; cases q
        · exact e (q.trans r.symm))
    exact owns_turn hO ((Turn.refl (fun k => k = R) w3).setCell R 1 _ rfl) (fun g' q => h.sepO g' q)

set_option maxRecDepth 100000 in
set_option maxHeartbeats 2000000 in
theorem add_any (B R : Nat) (l : List UInt8) (nv ov : Value) (N : NL) (O : List Nat) (a0 a1 a2 a3 a4 a5 : Int) (w : World) (h : RdAt w B R l nv ov N O) (hB : B ≤ w.heap.size) (hNl : N.length ≤ 8000000) (hOl : O.length ≤ 8000000) (hOb : ∀ u ∈ O, u < N.length) :
    Calls Tryd.prog 34 #[.pointer (some ⟨R, 0, none⟩), .agg #[.int .i64 a0, .int .i64 a1, .int .i64 a2, .int .i64 a3, .int .i64 a4, .int .i64 a5]] w fun e w' => e = .returned (.tuple #[]) ∧ ∃ nv', RdAt w' B R l nv' ov (addP N O ⟨a0, a1, a2, a3, a4, a5⟩) O ∧ Turn (fun k => k = R ∨ nv.ownBlock = some k) w w' ∧ (∀ g, nv'.ownBlock = some g → nv.ownBlock = some g ∨ w.heap.size ≤ g) := by
  obtain ⟨na, nc, rfl, hna⟩ := own_form h.hN
  obtain ⟨oa, oc, rfl, hoa⟩ := own_form h.hO
  have HR : Hid _ := h
  obtain ⟨c0, c1, c2, f0, f1, f2⟩ := h.cells
  have hlt := h.lt
  have HSN : Hid _ := h.sepN
  have oln := owns_lt h.hN
  have HON : Hid (World.ownsRow _ _ _ _ _ _ _) := h.hN
  obtain ⟨i0, hi0, hz0, hz1, hz2⟩ := info_parts nd_info
  clear h
  cases hlast : O.getLast? with
  | none =>
    have hO0 : O = [] := List.getLast?_eq_none_iff.1 hlast
    have F : Hid (addP N O ⟨a0, a1, a2, a3, a4, a5⟩ = N ++ [⟨a0, a1, a2, a3, a4, a5⟩]) := by show addP _ _ _ = _; unfold addP; rw [hlast]
    subst hO0
    clear hlast hOb hoa
    go_enter Tryd.func34, Tryd.ntmps34
    go_wp2_with fail
    go_region_law (refine step_append_lies _ (by rfl) _ _ _ (by rfl) B 33 i0 _ 6 48 nds_under hi0 hz0 hz1 hz2 rfl (by omega) _ N.length _ (by rfl) (((HON.out.alloc _).alloc _).drew) ⟨w.heap.size + 1, 0, none⟩ 1 1 [.int .i64 a0, .int .i64 a1, .int .i64 a2, .int .i64 a3, .int .i64 a4, .int .i64 a5] (by rfl) (by rfl) (World.news_of_block (cs := #[.int .i64 a0, .int .i64 a1, .int .i64 a2, .int .i64 a3, .int .i64 a4, .int .i64 a5]) (t := 33) (fr := (0, 0)) (heap_alloc_at _ _ _ (by simp))) (by simp [Value.oneCell']) (by omega) (by unfold maxLen; omega) (by omega) (by simp; omega) (w.heap.size + 2) (by simp) ?_; intro gg cp w3 hown3 hgrow hat hlt3; obtain ⟨r0, r1, r2, r3, r4, r5, r6⟩ := blk3 ((far2 hgrow hlt (fun q => HSN.out R q rfl)).trans HR.out.blk))
    all_goals
      have HAD : Hid _ := HR.out.added (d := ⟨a0, a1, a2, a3, a4, a5⟩) hgrow hown3 hat
      have HAT : Hid _ := hat
      clear hgrow hown3 hat
      go_wp2_with fail
      refine bodyPost_ret (results_none rfl _ _ _) rfl ?_
      refine ⟨rfl, _, by rw [F.out]; exact HAD.out.1, HAD.out.2, fun g q => ?_⟩
      simp only [Value.ownBlock, Option.some.injEq] at q
      subst q
      rcases HAT.out with q | q
      · exact Or.inl q
      · right; omega
  | some u =>
    obtain ⟨O', rfl⟩ := List.getLast?_eq_some_iff.1 hlast
    have hu : u < N.length := hOb u (by simp)
    have F : Hid (addP N (O' ++ [u]) ⟨a0, a1, a2, a3, a4, a5⟩ = (N ++ [(⟨a0, a1, a2, a3, a4, a5⟩ : NdD)]).set u (hangD (ndAt (N ++ [(⟨a0, a1, a2, a3, a4, a5⟩ : NdD)]) u) N.length)) := by show addP _ _ _ = _; unfold addP; rw [hlast]
    obtain ⟨go, rfl⟩ := hoa (by simp)
    have hOc : Hid (w.cell? ⟨go, O'.length, none⟩ = some (.int .i64 (u : Int)) ∧ go < w.heap.size) := ⟨by rw [HR.out.hO.cellAt O'.length (by simp)]; simp [natC], (owns_lt HR.out.hO go rfl).2⟩
    have hgo := hOc.out.2
    have hgoR : go ≠ R := HR.out.sepO go rfl
    have HGN : Hid (∀ g, Value.ownBlock (.slice na N.length nc) = some g → g ≠ go) := fun g q r => by
      rcases own_sep HR.out.hO HR.out.hN (by decide) with e | e
      · cases e
      · exact e (by rw [q, r]; rfl)
    have ol1 : (O' ++ [u]).length = O'.length + 1 := by simp
    have hlx : (((O' ++ [u]).length : Nat) : Int) - 1 = (O'.length : Int) := by rw [ol1]; omega
    have hoz : ((((O' ++ [u]).length : Nat) : Int) == 0) = false := beq_eq_false_iff_ne.2 (by rw [ol1]; omega)
    have hob1 : ((O'.length : Nat) : Int) < (((O' ++ [u]).length : Nat) : Int) := by rw [ol1]; omega
    have hob0 : (0 : Int) ≤ ((O'.length : Nat) : Int) := Int.natCast_nonneg _
    have u0 : (0 : Int) ≤ (u : Int) := Int.natCast_nonneg _
    have u1 : (u : Int) < ((N.length + 1 : Nat) : Int) := by omega
    have HOL : Hid _ := ol1
    clear hlast hOb ol1 hoa
    generalize hm : (O' ++ [u]).length = m at *
    have HM : Hid _ := hm
    clear hm
    go_enter Tryd.func34, Tryd.ntmps34
    go_wp2_with fail
    go_region_law (refine step_append_lies _ (by rfl) _ _ _ (by rfl) B 33 i0 _ 6 48 nds_under hi0 hz0 hz1 hz2 rfl (by omega) _ N.length _ (by rfl) (((HON.out.alloc _).alloc _).drew) ⟨w.heap.size + 1, 0, none⟩ 1 1 [.int .i64 a0, .int .i64 a1, .int .i64 a2, .int .i64 a3, .int .i64 a4, .int .i64 a5] (by rfl) (by rfl) (World.news_of_block (cs := #[.int .i64 a0, .int .i64 a1, .int .i64 a2, .int .i64 a3, .int .i64 a4, .int .i64 a5]) (t := 33) (fr := (0, 0)) (heap_alloc_at _ _ _ (by simp))) (by simp [Value.oneCell']) (by omega) (by unfold maxLen; omega) (by omega) (by simp; omega) (w.heap.size + 2) (by simp) ?_; intro gg cp w3 hown3 hgrow hat hlt3; obtain ⟨r0, r1, r2, r3, r4, r5, r6⟩ := blk3 ((far2 hgrow hlt (fun q => HSN.out R q rfl)).trans HR.out.blk))
    all_goals
      have HAD : Hid _ := HR.out.added (d := ⟨a0, a1, a2, a3, a4, a5⟩) hgrow hown3 hat
      have HAT : Hid _ := hat
      have hgg : gg < w3.heap.size := hlt3
      have HSA : Hid ((gg = R ∨ Value.ownBlock (.slice na N.length nc) = some gg) ∨ w.heap.size ≤ gg) := by
        rcases hat with q | q
        · exact Or.inl (Or.inr q)
        · exact Or.inr (by omega)
      have hggo : go ≠ gg := by
        rcases hat with q | q
        · exact (HGN.out gg q).symm
        · omega
      have hggR : R ≠ gg := by
        rcases hat with q | q
        · exact (HSN.out gg q).symm
        · omega
      have x1 : w3.cell? ⟨go, O'.length, none⟩ = some (.int .i64 (u : Int)) := (World.cell?_of_block (far2 hgrow hgo (fun q => HGN.out go q rfl))).trans hOc.out.1
      have hN1 : (N ++ [(⟨a0, a1, a2, a3, a4, a5⟩ : NdD)]).length = N.length + 1 := by simp
      have hcu := (ndCells_get (N ++ [(⟨a0, a1, a2, a3, a4, a5⟩ : NdD)]) u (by omega)).2.2.2.2.1
      have y4 : w3.cell? ⟨gg, u * 6 + 4, none⟩ = some (.int .i64 (ndAt (N ++ [(⟨a0, a1, a2, a3, a4, a5⟩ : NdD)]) u).l) := by
        rw [hown3.cellAt (u * 6 + 4) (by omega), ← hcu, ndCells_append]; rfl
      have hcu5 := (ndCells_get (N ++ [(⟨a0, a1, a2, a3, a4, a5⟩ : NdD)]) u (by omega)).2.2.2.2.2
      have y5 : w3.cell? ⟨gg, u * 6 + 5, none⟩ = some (.int .i64 (ndAt (N ++ [(⟨a0, a1, a2, a3, a4, a5⟩ : NdD)]) u).r) := by
        rw [hown3.cellAt (u * 6 + 5) (by omega), ← hcu5, ndCells_append]; rfl
      have z4 : w3.frozen? ⟨gg, u * 6 + 4, none⟩ = false := hown3.frozenAt _
      have z5 : w3.frozen? ⟨gg, u * 6 + 5, none⟩ = false := hown3.frozenAt _
      have HL4 : Hid (∀ v, ndCells ((N ++ [(⟨a0, a1, a2, a3, a4, a5⟩ : NdD)]).set u { ndAt (N ++ [(⟨a0, a1, a2, a3, a4, a5⟩ : NdD)]) u with l := v }) = (ndCells (N ++ [(⟨a0, a1, a2, a3, a4, a5⟩ : NdD)])).set (u * 6 + 4) (.int .i64 v)) := fun v => ndCells_l _ u v (by omega)
      have HL5 : Hid (∀ v, ndCells ((N ++ [(⟨a0, a1, a2, a3, a4, a5⟩ : NdD)]).set u { ndAt (N ++ [(⟨a0, a1, a2, a3, a4, a5⟩ : NdD)]) u with r := v }) = (ndCells (N ++ [(⟨a0, a1, a2, a3, a4, a5⟩ : NdD)])).set (u * 6 + 5) (.int .i64 v)) := fun v => ndCells_r _ u v (by omega)
      clear hgrow hown3 hat hcu hcu5 hN1
      generalize hN1 : N ++ [(⟨a0, a1, a2, a3, a4, a5⟩ : NdD)] = N1 at *
      clear hN1
      by_cases hl1 : (ndAt N1 u).l = -1
      · have HH : Hid _ := hangD_l (p := (N.length : Int)) hl1
        have hl2 : ((ndAt N1 u).l == -1) = true := by simp [hl1]
        rw [hl1] at y4
        clear hl1 hl2
        go_wp2_with fail
        go_quiet (fail)
        go_wp2_with fail
        refine bodyPost_end (results_none rfl _ _ _) rfl ?_
        refine ⟨rfl, .slice (some ⟨gg, 0, none⟩) (N.length + 1) cp, ?_, ?_, fun g q => ?_⟩
        · rw [F.out, HH.out]; exact (HAD.out.1.quiet (Go.Joins.below_draws _ _ _)).setNode _ _ (by simp) (HL4.out _)
        · exact (HAD.out.2.drewN _).setAny _ _ _ HSA.out
        · simp only [Value.ownBlock, Option.some.injEq] at q
          subst q
          rcases HAT.out with q | q
          · exact Or.inl q
          · right; omega
      · have HH : Hid _ := hangD_r (p := (N.length : Int)) hl1
        have hl2 : ((ndAt N1 u).l == -1) = false := by simp [hl1]
        clear hl1
        go_wp2_with fail
        go_quiet (fail)
        go_wp2_with fail
        refine bodyPost_end (results_none rfl _ _ _) rfl ?_
        refine ⟨rfl, .slice (some ⟨gg, 0, none⟩) (N.length + 1) cp, ?_, ?_, fun g q => ?_⟩
        · rw [F.out, HH.out]; exact (HAD.out.1.quiet (Go.Joins.below_draws _ _ _)).setNode _ _ (by simp) (HL5.out _)
        · exact (HAD.out.2.drewN _).setAny _ _ _ HSA.out
        · simp only [Value.ownBlock, Option.some.injEq] at q
          subst q
          rcases HAT.out with q | q
          · exact Or.inl q
          · right; omega
end Go.Proofs.YtegajbfefhljmaaDoor
