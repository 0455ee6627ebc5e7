
/- Layer 18: allows, Can, lookToDo. -/

import Derived.Test.YthlhbajaogonnaaDoorSLook

import Derived.Test.YthlhbajaogonnaaDoorSAlw

import Derived.Test.YthlhbajaogonnaaDoorSAl2

import Derived.Test.YthlhbajaogonnaaDoorSAl3

namespace Go.Proofs.YthlhbajaogonnaaDoor

open Go.RowKit

attribute [local go_sem ↓] Go.wp_at_zero Go.wp_at_succ

theorem allows_any (sb : Nat) (base : Option Addr) (b o c : Nat) (t : NL) (root : Int) (mi : Bool) (x k : Int) (u : Option BT) (w : World) (hk : 1 ≤ k ∧ k ≤ 12) (hu : PA t mi x u)
    (h : SBox w sb base b o c t root mi x (belL t mi x) (belR t mi x) (belL t mi (belL t mi x)) (belR t mi (belL t mi x)) (belL t mi (belR t mi x)) (belR t mi (belR t mi x)) (belL t mi (belL t mi (belR t mi x))) (belR t mi (belL t mi (belR t mi x)))) :
    Calls Tryd.prog 28 #[.pointer (some ⟨sb, 0, none⟩), .int .i64 k] w fun e w' => e = .returned (.bool (canO k (decide (x = root)) u)) ∧ Below w.heap.size w w' := by
  obtain ⟨hl, hr⟩ := hu.kids
  obtain ⟨hll, hlr⟩ := hl.kids
  obtain ⟨hrl, hrr⟩ := hr.kids
  obtain ⟨hrll, hrlr⟩ := hrl.kids
  have cc : k = 1 ∨ k = 2 ∨ k = 3 ∨ k = 4 ∨ k = 5 ∨ k = 6 ∨ k = 7 ∨ k = 8 ∨ k = 9 ∨ k = 10 ∨ k = 11 ∨ k = 12 := by omega
  rcases cc with rfl | rfl | rfl | rfl | rfl | rfl | rfl | rfl | rfl | rfl | rfl | rfl
  · refine (allows1 sb base b o c t root mi _ _ _ _ _ _ _ _ _ w h hu.ok hl.ok hr.ok hll.ok hlr.ok hrl.ok hrr.ok).mono ?_
    rintro e w' ⟨rfl, hb⟩
    exact ⟨by rw [hu.wt, hl.wt, hr.wt, hll.wt, hlr.wt, hrl.wt, hrr.wt]; rfl, hb⟩
  · refine (allows2 sb base b o c t root mi _ _ _ _ _ _ _ _ _ w h hu.ok hl.ok hr.ok hll.ok).mono ?_
    rintro e w' ⟨rfl, hb⟩
    exact ⟨by rw [hu.wt, hl.wt, hr.wt, hll.wt]; rfl, hb⟩
  · refine (allows3 sb base b o c t root mi _ _ _ _ _ _ _ _ _ w h hu.ok hl.ok hr.ok hll.ok hlr.ok).mono ?_
    rintro e w' ⟨rfl, hb⟩
    exact ⟨by rw [hu.wt, hl.wt, hr.wt, hll.wt, hlr.wt, hlr.inn]; rfl, hb⟩
  · refine (allows4 sb base b o c t root mi _ _ _ _ _ _ _ _ _ w h hl.ok hr.ok hrl.ok hrr.ok).mono ?_
    rintro e w' ⟨rfl, hb⟩
    exact ⟨by rw [hl.wt, hr.wt, hrl.wt, hrr.wt]; rfl, hb⟩
  · refine (allows5 sb base b o c t root mi _ _ _ _ _ _ _ _ _ w h hl.ok hr.ok hrl.ok).mono ?_
    rintro e w' ⟨rfl, hb⟩
    exact ⟨by rw [hl.wt, hr.wt, hrl.wt]; rfl, hb⟩
  · refine (allows6 sb base b o c t root mi _ _ _ _ _ _ _ _ _ w h hl.ok hr.ok hrl.ok hrll.ok hrlr.ok).mono ?_
    rintro e w' ⟨rfl, hb⟩
    exact ⟨by rw [hl.wt, hr.wt, hrl.wt, hrll.wt, hrlr.wt]; rfl, hb⟩
  · refine (allows7 sb base b o c t root mi _ _ _ _ _ _ _ _ _ w h hl.ok hr.ok hrl.ok hrll.ok hrlr.ok).mono ?_
    rintro e w' ⟨rfl, hb⟩
    exact ⟨by rw [hl.wt, hr.wt, hrl.wt, hrll.wt, hrlr.wt, hrll.inn]; rfl, hb⟩
  · refine (allows8 sb base b o c t root mi _ _ _ _ _ _ _ _ _ w h hl.ok hr.ok hrl.ok hrlr.ok).mono ?_
    rintro e w' ⟨rfl, hb⟩
    exact ⟨by rw [hl.wt, hr.wt, hrl.wt, hrlr.wt]; rfl, hb⟩
  · refine (allows9 sb base b o c t root mi _ _ _ _ _ _ _ _ _ w h hl.ok hr.ok hrr.ok).mono ?_
    rintro e w' ⟨rfl, hb⟩
    exact ⟨by rw [hl.wt, hr.wt, hrr.wt]; rfl, hb⟩
  · refine (allows10 sb base b o c t root mi _ _ _ _ _ _ _ _ _ w h hl.ok hr.ok hrl.ok hrr.ok).mono ?_
    rintro e w' ⟨rfl, hb⟩
    exact ⟨by rw [hl.wt, hr.wt, hrl.wt, hrr.wt, hrl.inn]; rfl, hb⟩
  · refine (allows11 sb base b o c t root mi _ _ _ _ _ _ _ _ _ w h hl.ok hr.ok).mono ?_
    rintro e w' ⟨rfl, hb⟩
    exact ⟨by rw [hl.wt, hr.wt]; rfl, hb⟩
  · refine (allows12 sb base b o c t root mi _ _ _ _ _ _ _ _ _ w h hu.ok).mono ?_
    rintro e w' ⟨rfl, hb⟩
    refine ⟨?_, hb⟩
    rw [hu.wt]
    have e : ((x == root) && (bwO u != 1)) = canO 12 (decide (x = root)) u := by
      by_cases h1 : x = root <;> by_cases h2 : bwO u = 1 <;> simp [canO, h1, h2]
    rw [e]
/-- Do the conditions hold at the node? -/
noncomputable def canA (t : NL) (p k : Int) (mi : Bool) : Bool := canO k (decide (p = (rootR t).1)) (some ((theB t p.toNat).mt mi))
noncomputable def todoE (t : NL) (p k : Int) (mi : Bool) : Int := if lookE t p k mi ≠ 0 then lookE t p k mi else if canA t p k mi = false then 6 else 0
/-- Where a move can be looked at. -/
theorem look_ok {t : NL} {p k : Int} {mi : Bool} (h : lookE t p k mi = 0) : (rootR t).2 = 0 ∧ mvB k mi = true ∧ ofK t p = true := by
  unfold lookE at h
  split at h
  · rename_i q; exact absurd h q
  · rename_i q
    split at h
    · simp at h
    · rename_i q2
      split at h
      · simp at h
      · rename_i q3
        exact ⟨by simpa using q, by simpa using q2, by simpa using q3⟩
theorem look_place {t : NL} {p k : Int} {mi : Bool} (h : lookE t p k mi = 0) : ∃ (n : Nat) (b : BT), p = (n : Int) ∧ n < t.length ∧ n ≠ 0 ∧ Abs t n b ∧ formE t = 0 ∧ 1 ≤ k ∧ k ≤ 12 := by
  obtain ⟨h1, h2, h3⟩ := look_ok h
  obtain ⟨x, l, r, s, K, cr⟩ := crn_of h1
  obtain ⟨-, hf⟩ := formE_ok cr.form
  obtain ⟨n, M, rfl, hn, hn0, -, -⟩ := cr.keyplace h3
  obtain ⟨b, hb, -, -⟩ := form_abs_at hf hn
  simp only [mvB, Bool.and_eq_true, decide_eq_true_eq] at h2
  exact ⟨n, b, rfl, hn, hn0, hb, cr.form, h2.1, h2.2.1⟩
/-- allows behind look. -/
theorem allows_at {t : NL} {p k : Int} {mi : Bool} (h : lookE t p k mi = 0) (sb : Nat) (base : Option Addr) (b o c : Nat) (w : World)
    (hb : SBox w sb base b o c t (rootR t).1 mi p (belL t mi p) (belR t mi p) (belL t mi (belL t mi p)) (belR t mi (belL t mi p)) (belL t mi (belR t mi p)) (belR t mi (belR t mi p)) (belL t mi (belL t mi (belR t mi p))) (belR t mi (belL t mi (belR t mi p)))) :
    Calls Tryd.prog 28 #[.pointer (some ⟨sb, 0, none⟩), .int .i64 k] w fun e w' => e = .returned (.bool (canA t p k mi)) ∧ Below w.heap.size w w' := by
  obtain ⟨n, B, rfl, -, -, hB, -, hk⟩ := look_place h
  unfold canA
  rw [Int.toNat_natCast, theB_of hB]
  exact allows_any sb base b o c t _ mi _ k _ w hk (PA.of hB) hb
/-- The move's box, the answer's box and the site's box. -/
structure Lk3 (w z : World) (nb : Nat) (k : Int) (mi : Bool) (T : Value) (rt p v4 v5 v6 v7 v8 v9 v10 v11 : Int) : Prop where
  mv : z.heap[w.heap.size]? = some (.cells #[.int .i64 k, .bool mi] 32 (0, 0))
  st : z.heap[nb]? = some (.cells #[T, .int .i64 rt, .bool mi, .int .i64 p, .int .i64 v4, .int .i64 v5, .int .i64 v6, .int .i64 v7, .int .i64 v8, .int .i64 v9, .int .i64 v10, .int .i64 v11] 59 (0, 0))
  below : Below w.heap.size w z
theorem Lk3.quiet {w z y : World} {nb : Nat} {k : Int} {mi : Bool} {T : Value} {rt p v4 v5 v6 v7 v8 v9 v10 v11 : Int} (h : Lk3 w z nb k mi T rt p v4 v5 v6 v7 v8 v9 v10 v11) (hb : Below z.heap.size z y) : Lk3 w y nb k mi T rt p v4 v5 v6 v7 v8 v9 v10 v11 :=
  ⟨(hb.block _ (Array.getElem?_eq_some_iff.1 h.mv).1).trans h.mv, (hb.block _ (Array.getElem?_eq_some_iff.1 h.st).1).trans h.st, h.below.trans (hb.mono h.below.size)⟩
theorem Lk3.box {w z : World} {nb : Nat} {k : Int} {mi : Bool} {base : Option Addr} {b o c : Nat} {t : NL} {rt p v4 v5 v6 v7 v8 v9 v10 v11 : Int} (h : Lk3 w z nb k mi (.slice base t.length c) rt p v4 v5 v6 v7 v8 v9 v10 v11) (hn : NodesAt w base b o t) : SBox z nb base b o c t rt mi p v4 v5 v6 v7 v8 v9 v10 v11 :=
  ⟨(cell_of h.st 0 _ rfl).1, (cell_of h.st 1 _ rfl).1, (cell_of h.st 2 _ rfl).1, (cell_of h.st 3 _ rfl).1, (cell_of h.st 4 _ rfl).1, (cell_of h.st 5 _ rfl).1, (cell_of h.st 6 _ rfl).1, (cell_of h.st 7 _ rfl).1, (cell_of h.st 8 _ rfl).1, (cell_of h.st 9 _ rfl).1, (cell_of h.st 10 _ rfl).1, (cell_of h.st 11 _ rfl).1, (Array.getElem?_eq_some_iff.1 h.st).1, hn.below h.below⟩
/-- What lookToDo needs of its answer's box. -/
theorem res_cells {z : World} {q : Nat} (h : z.heap[q]? = some (.cells #[.slice none 0 0, .int .i64 0, .bool false, .int .i64 0, .int .i64 0, .int .i64 0, .int .i64 0, .int .i64 0, .int .i64 0, .int .i64 0, .int .i64 0, .int .i64 0] 59 (0, 0))) :
    q < z.heap.size ∧ (z.cell? ⟨q, 0, none⟩ = some (.slice none 0 0) ∧ z.frozen? ⟨q, 0, none⟩ = false) ∧ (z.cell? ⟨q, 1, none⟩ = some (.int .i64 0) ∧ z.frozen? ⟨q, 1, none⟩ = false) ∧ (z.cell? ⟨q, 2, none⟩ = some (.bool false) ∧ z.frozen? ⟨q, 2, none⟩ = false) ∧ (z.cell? ⟨q, 3, none⟩ = some (.int .i64 0) ∧ z.frozen? ⟨q, 3, none⟩ = false) ∧ (z.cell? ⟨q, 4, none⟩ = some (.int .i64 0) ∧ z.frozen? ⟨q, 4, none⟩ = false) ∧ (z.cell? ⟨q, 5, none⟩ = some (.int .i64 0) ∧ z.frozen? ⟨q, 5, none⟩ = false) ∧ (z.cell? ⟨q, 6, none⟩ = some (.int .i64 0) ∧ z.frozen? ⟨q, 6, none⟩ = false) ∧ (z.cell? ⟨q, 7, none⟩ = some (.int .i64 0) ∧ z.frozen? ⟨q, 7, none⟩ = false) ∧ (z.cell? ⟨q, 8, none⟩ = some (.int .i64 0) ∧ z.frozen? ⟨q, 8, none⟩ = false) ∧ (z.cell? ⟨q, 9, none⟩ = some (.int .i64 0) ∧ z.frozen? ⟨q, 9, none⟩ = false) ∧ (z.cell? ⟨q, 10, none⟩ = some (.int .i64 0) ∧ z.frozen? ⟨q, 10, none⟩ = false) ∧ (z.cell? ⟨q, 11, none⟩ = some (.int .i64 0) ∧ z.frozen? ⟨q, 11, none⟩ = false) :=
  ⟨(Array.getElem?_eq_some_iff.1 h).1, cell_of h 0 _ rfl, cell_of h 1 _ rfl, cell_of h 2 _ rfl, cell_of h 3 _ rfl, cell_of h 4 _ rfl, cell_of h 5 _ rfl, cell_of h 6 _ rfl, cell_of h 7 _ rfl, cell_of h 8 _ rfl, cell_of h 9 _ rfl, cell_of h 10 _ rfl, cell_of h 11 _ rfl⟩
set_option maxRecDepth 100000 in
set_option maxHeartbeats 4000000 in
theorem lookToDo_any (base : Option Addr) (b o c : Nat) (t : NL) (p k : Int) (mi : Bool) (w : World) (h : NodesAt w base b o t) :
    Calls Tryd.prog 22 #[.slice base t.length c, .int .i64 p, .agg #[.int .i64 k, .bool mi]] w fun e w' => e = .returned (.tuple #[if todoE t p k mi = 0 then siteF base c t (rootR t).1 mi p else siteN, .int .i64 (todoE t p k mi)]) ∧ Below w.heap.size w w' := by
  have HA : Hid (NodesAt w base b o t) := h
  have L0 : Hid (Lk w _ k mi) := lk_new w k mi
  by_cases h0 : lookE t p k mi = 0
  · have LO : Hid (∀ W, NodesAt W base b o t → Calls Tryd.prog 27 #[.slice base t.length c, .int .i64 p, .agg #[.int .i64 k, .bool mi]] W fun e w' => e = .returned (.tuple #[siteF base c t (rootR t).1 mi p, .int .i64 0]) ∧ Below W.heap.size W w') := fun W hW => by have := look_any base b o c t p k mi W hW; rw [if_pos h0, h0] at this; exact this
    have AL : Hid (∀ sb W, SBox W sb base b o c t (rootR t).1 mi p (belL t mi p) (belR t mi p) (belL t mi (belL t mi p)) (belR t mi (belL t mi p)) (belL t mi (belR t mi p)) (belR t mi (belR t mi p)) (belL t mi (belL t mi (belR t mi p))) (belR t mi (belL t mi (belR t mi p))) → Calls Tryd.prog 28 #[.pointer (some ⟨sb, 0, none⟩), .int .i64 k] W fun e w' => e = .returned (.bool (canA t p k mi)) ∧ Below W.heap.size W w') := fun sb W hW => allows_at h0 sb base b o c W hW
    have F : Hid (todoE t p k mi = if canA t p k mi = false then 6 else 0) := by show _ = _; unfold todoE; rw [if_neg (by simp [h0])]
    generalize todoE t p k mi = TE at *
    generalize canA t p k mi = A at *
    unfold siteF at LO ⊢
    clear h h0
    generalize (rootR t).1 = rt at *
    generalize belL t mi p = v4 at *
    generalize belR t mi p = v5 at *
    generalize belL t mi v4 = v6 at *
    generalize belR t mi v4 = v7 at *
    generalize belL t mi v5 = v8 at *
    generalize belR t mi v5 = v9 at *
    generalize belL t mi v8 = v10 at *
    generalize belR t mi v8 = v11 at *
    cases A
    · obtain rfl : TE = 6 := F.out
      clear F
      go_enter Tryd.func22, Tryd.ntmps22
      go_wp2_with fail
      refine (LO.out _ (HA.out.below L0.out.below)).mono ?_
      rintro e w1 ⟨rfl, hb⟩
      have L1 : Hid (Lk w w1 k mi) := L0.out.quiet hb
      have lt0 : w.heap.size < w1.heap.size := (Array.getElem?_eq_some_iff.1 L1.out.mv).1
      have lt1 : w.heap.size + 1 < w1.heap.size := (Array.getElem?_eq_some_iff.1 L1.out.res).1
      have c0 := (cell_of L1.out.mv 0 _ rfl).1
      have L3 : Hid (Lk3 w (w1.alloc (.cells #[.slice base t.length c, .int .i64 rt, .bool mi, .int .i64 p, .int .i64 v4, .int .i64 v5, .int .i64 v6, .int .i64 v7, .int .i64 v8, .int .i64 v9, .int .i64 v10, .int .i64 v11] 59)) w1.heap.size k mi (.slice base t.length c) rt p v4 v5 v6 v7 v8 v9 v10 v11) := ⟨(heap_alloc_old _ _ lt0).trans L1.out.mv, heap_alloc_at _ _ _ rfl, L1.out.below.alloc L1.out.below.size _⟩
      have R1 : Hid ((w1.alloc (.cells #[.slice base t.length c, .int .i64 rt, .bool mi, .int .i64 p, .int .i64 v4, .int .i64 v5, .int .i64 v6, .int .i64 v7, .int .i64 v8, .int .i64 v9, .int .i64 v10, .int .i64 v11] 59)).heap[w.heap.size + 1]? = _) := (heap_alloc_old _ _ lt1).trans L1.out.res
      clear hb L0 L1
      go_wp2_with fail
      refine (AL.out _ _ (L3.out.box HA.out)).mono ?_
      rintro e w2 ⟨rfl, hb⟩
      have L4 : Hid (Lk3 w w2 w1.heap.size k mi (.slice base t.length c) rt p v4 v5 v6 v7 v8 v9 v10 v11) := L3.out.quiet hb
      have B2 : Hid (Below w.heap.size w w2) := L4.out.below
      have R2 : Hid _ := (hb.block (w.heap.size + 1) (by simp; omega)).trans R1.out
      obtain ⟨lt2, r0, r1, r2, r3, r4, r5, r6, r7, r8, r9, r10, r11⟩ := res_cells R2.out
      have bx := L4.out.box HA.out
      obtain ⟨b0, b1, b2, b3, b4, b5, b6, b7, b8, b9, b10, b11, b12, -⟩ := bx
      have ne1 : w.heap.size + 1 ≠ w1.heap.size := by omega
      have ne2 : w1.heap.size ≠ w.heap.size + 1 := by omega
      clear hb L3 R1 lt0 lt1 c0
      go_wp2_with fail
      (try simp only [Exit.inBlock, Exit.then])
      refine bodyPost_ret (v := .tuple #[siteN, .int .i64 6]) ?_ rfl ⟨by rfl, ?_⟩
      · rw [results_cell_tmp rfl]; go_simp; rfl
      · exact below_set12 B2.out (Nat.le_succ _) _ _ _ _ _ _ _ _ _ _ _ _
    · obtain rfl : TE = 0 := F.out
      clear F
      rw [if_pos rfl]
      go_enter Tryd.func22, Tryd.ntmps22
      go_wp2_with fail
      refine (LO.out _ (HA.out.below L0.out.below)).mono ?_
      rintro e w1 ⟨rfl, hb⟩
      have L1 : Hid (Lk w w1 k mi) := L0.out.quiet hb
      have lt0 : w.heap.size < w1.heap.size := (Array.getElem?_eq_some_iff.1 L1.out.mv).1
      have lt1 : w.heap.size + 1 < w1.heap.size := (Array.getElem?_eq_some_iff.1 L1.out.res).1
      have c0 := (cell_of L1.out.mv 0 _ rfl).1
      have L3 : Hid (Lk3 w (w1.alloc (.cells #[.slice base t.length c, .int .i64 rt, .bool mi, .int .i64 p, .int .i64 v4, .int .i64 v5, .int .i64 v6, .int .i64 v7, .int .i64 v8, .int .i64 v9, .int .i64 v10, .int .i64 v11] 59)) w1.heap.size k mi (.slice base t.length c) rt p v4 v5 v6 v7 v8 v9 v10 v11) := ⟨(heap_alloc_old _ _ lt0).trans L1.out.mv, heap_alloc_at _ _ _ rfl, L1.out.below.alloc L1.out.below.size _⟩
      have R1 : Hid ((w1.alloc (.cells #[.slice base t.length c, .int .i64 rt, .bool mi, .int .i64 p, .int .i64 v4, .int .i64 v5, .int .i64 v6, .int .i64 v7, .int .i64 v8, .int .i64 v9, .int .i64 v10, .int .i64 v11] 59)).heap[w.heap.size + 1]? = _) := (heap_alloc_old _ _ lt1).trans L1.out.res
      clear hb L0 L1
      go_wp2_with fail
      refine (AL.out _ _ (L3.out.box HA.out)).mono ?_
      rintro e w2 ⟨rfl, hb⟩
      have L4 : Hid (Lk3 w w2 w1.heap.size k mi (.slice base t.length c) rt p v4 v5 v6 v7 v8 v9 v10 v11) := L3.out.quiet hb
      have B2 : Hid (Below w.heap.size w w2) := L4.out.below
      have R2 : Hid _ := (hb.block (w.heap.size + 1) (by simp; omega)).trans R1.out
      obtain ⟨lt2, r0, r1, r2, r3, r4, r5, r6, r7, r8, r9, r10, r11⟩ := res_cells R2.out
      have bx := L4.out.box HA.out
      obtain ⟨b0, b1, b2, b3, b4, b5, b6, b7, b8, b9, b10, b11, b12, -⟩ := bx
      have ne1 : w.heap.size + 1 ≠ w1.heap.size := by omega
      have ne2 : w1.heap.size ≠ w.heap.size + 1 := by omega
      clear hb L3 R1 lt0 lt1 c0
      go_wp2_with fail
      (try simp only [Exit.inBlock, Exit.then])
      refine bodyPost_ret (v := .tuple #[.agg #[.slice base t.length c, .int .i64 rt, .bool mi, .int .i64 p, .int .i64 v4, .int .i64 v5, .int .i64 v6, .int .i64 v7, .int .i64 v8, .int .i64 v9, .int .i64 v10, .int .i64 v11], .int .i64 0]) ?_ rfl ⟨rfl, ?_⟩
      · rw [results_cell_tmp rfl]; go_simp
      · exact below_set12 B2.out (Nat.le_succ _) _ _ _ _ _ _ _ _ _ _ _ _
  · have LO : Hid (∀ W, NodesAt W base b o t → Calls Tryd.prog 27 #[.slice base t.length c, .int .i64 p, .agg #[.int .i64 k, .bool mi]] W fun e w' => e = .returned (.tuple #[siteN, .int .i64 (lookE t p k mi)]) ∧ Below W.heap.size W w') := fun W hW => by have := look_any base b o c t p k mi W hW; rw [if_neg h0] at this; exact this
    have d0 : (lookE t p k mi != 0) = true := by simp [h0]
    have F : Hid (todoE t p k mi = lookE t p k mi) := by show _ = _; unfold todoE; rw [if_pos h0]
    rw [F.out, if_neg h0]
    clear h h0 F
    unfold siteN at LO
    generalize lookE t p k mi = E at *
    go_enter Tryd.func22, Tryd.ntmps22
    go_wp2_with fail
    refine (LO.out _ (HA.out.below L0.out.below)).mono ?_
    rintro e w1 ⟨rfl, hb⟩
    have L1 : Hid (Lk w w1 k mi) := L0.out.quiet hb
    have R1 : Hid _ := (heap_alloc_old w1 (.cells #[.slice none 0 0, .int .i64 0, .bool false, .int .i64 0, .int .i64 0, .int .i64 0, .int .i64 0, .int .i64 0, .int .i64 0, .int .i64 0, .int .i64 0, .int .i64 0] 59) (Array.getElem?_eq_some_iff.1 L1.out.res).1).trans L1.out.res
    obtain ⟨lt2, r0, r1, r2, r3, r4, r5, r6, r7, r8, r9, r10, r11⟩ := res_cells R1.out
    have B1 : Hid (Below w.heap.size w w1) := L1.out.below
    clear hb L0
    go_wp2_with fail
    (try simp only [Exit.inBlock, Exit.then])
    refine bodyPost_ret (v := .tuple #[siteN, .int .i64 E]) ?_ rfl ⟨by rfl, ?_⟩
    · rw [results_cell_tmp rfl]; go_simp; rfl
    · exact below_set12 (B1.out.alloc B1.out.size _) (Nat.le_succ _) _ _ _ _ _ _ _ _ _ _ _ _
end Go.Proofs.YthlhbajaogonnaaDoor
