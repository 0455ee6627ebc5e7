
/- Layer 18: look. -/

import Derived.Test.YthlhbajaogonnaaDoorSQ8

import Derived.Laws.ResultCell

namespace Go.Proofs.YthlhbajaogonnaaDoor

open Go.RowKit

attribute [local go_sem ↓] Go.wp_at_zero Go.wp_at_succ

/-- Why a move can't be looked at. -/
noncomputable def lookE (t : NL) (p k : Int) (mi : Bool) : Int := if (rootR t).2 ≠ 0 then (rootR t).2 else if mvB k mi = false then 5 else if ofK t p = false then 1 else 0
def siteN : Value := .agg #[.slice none 0 0, .int .i64 0, .bool false, .int .i64 0, .int .i64 0, .int .i64 0, .int .i64 0, .int .i64 0, .int .i64 0, .int .i64 0, .int .i64 0, .int .i64 0]
def siteF (base : Option Addr) (c : Nat) (t : NL) (root : Int) (mi : Bool) (x : Int) : Value := .agg #[.slice base t.length c, .int .i64 root, .bool mi, .int .i64 x, .int .i64 (belL t mi x), .int .i64 (belR t mi x), .int .i64 (belL t mi (belL t mi x)), .int .i64 (belR t mi (belL t mi x)), .int .i64 (belL t mi (belR t mi x)), .int .i64 (belR t mi (belR t mi x)), .int .i64 (belL t mi (belL t mi (belR t mi x))), .int .i64 (belR t mi (belL t mi (belR t mi x)))]
/-- The move's box, and the box of the answer. -/
structure Lk (w z : World) (k : Int) (mi : Bool) : Prop where
  mv : z.heap[w.heap.size]? = some (.cells #[.int .i64 k, .bool mi] 32 (0, 0))
  res : z.heap[w.heap.size + 1]? = some (.cells #[.slice none 0 0, .int .i64 0, .bool false, .int .i64 0, .int .i64 0, .int .i64 0, .int .i64 0, .int .i64 0, .int .i64 0, .int .i64 0, .int .i64 0, .int .i64 0] 59 (0, 0))
  below : Below w.heap.size w z
theorem Lk.quiet {w z y : World} {k : Int} {mi : Bool} (h : Lk w z k mi) (hb : Below z.heap.size z y) : Lk w y k mi :=
  ⟨(hb.block _ (Array.getElem?_eq_some_iff.1 h.mv).1).trans h.mv, (hb.block _ (Array.getElem?_eq_some_iff.1 h.res).1).trans h.res, h.below.trans (hb.mono h.below.size)⟩
theorem lk_new (w : World) (k : Int) (mi : Bool) : Lk w ((w.alloc (.cells #[.int .i64 k, .bool mi] 32)).alloc (.cells #[.slice none 0 0, .int .i64 0, .bool false, .int .i64 0, .int .i64 0, .int .i64 0, .int .i64 0, .int .i64 0, .int .i64 0, .int .i64 0, .int .i64 0, .int .i64 0] 59)) k mi :=
  ⟨(heap_alloc_old _ _ (by simp)).trans (heap_alloc_at _ _ _ rfl), heap_alloc_at _ _ _ (by simp), (below_alloc _ _).alloc (below_alloc _ _).size _⟩
/-- All cells of the answer's box. -/
structure LkC (w z : World) (k : Int) (mi : Bool) : Prop where
  lt : w.heap.size < z.heap.size ∧ w.heap.size + 1 < z.heap.size
  m : z.cell? ⟨w.heap.size, 0, none⟩ = some (.int .i64 k) ∧ z.cell? ⟨w.heap.size, 1, none⟩ = some (.bool mi)
  r : (z.cell? ⟨w.heap.size + 1, 0, none⟩ = some (.slice none 0 0) ∧ z.frozen? ⟨w.heap.size + 1, 0, none⟩ = false) ∧ (z.cell? ⟨w.heap.size + 1, 1, none⟩ = some (.int .i64 0) ∧ z.frozen? ⟨w.heap.size + 1, 1, none⟩ = false) ∧ (z.cell? ⟨w.heap.size + 1, 2, none⟩ = some (.bool false) ∧ z.frozen? ⟨w.heap.size + 1, 2, none⟩ = false) ∧ (z.cell? ⟨w.heap.size + 1, 3, none⟩ = some (.int .i64 0) ∧ z.frozen? ⟨w.heap.size + 1, 3, none⟩ = false) ∧ (z.cell? ⟨w.heap.size + 1, 4, none⟩ = some (.int .i64 0) ∧ z.frozen? ⟨w.heap.size + 1, 4, none⟩ = false) ∧ (z.cell? ⟨w.heap.size + 1, 5, none⟩ = some (.int .i64 0) ∧ z.frozen? ⟨w.heap.size + 1, 5, none⟩ = false) ∧ (z.cell? ⟨w.heap.size + 1, 6, none⟩ = some (.int .i64 0) ∧ z.frozen? ⟨w.heap.size + 1, 6, none⟩ = false) ∧ (z.cell? ⟨w.heap.size + 1, 7, none⟩ = some (.int .i64 0) ∧ z.frozen? ⟨w.heap.size + 1, 7, none⟩ = false) ∧ (z.cell? ⟨w.heap.size + 1, 8, none⟩ = some (.int .i64 0) ∧ z.frozen? ⟨w.heap.size + 1, 8, none⟩ = false) ∧ (z.cell? ⟨w.heap.size + 1, 9, none⟩ = some (.int .i64 0) ∧ z.frozen? ⟨w.heap.size + 1, 9, none⟩ = false) ∧ (z.cell? ⟨w.heap.size + 1, 10, none⟩ = some (.int .i64 0) ∧ z.frozen? ⟨w.heap.size + 1, 10, none⟩ = false) ∧ (z.cell? ⟨w.heap.size + 1, 11, none⟩ = some (.int .i64 0) ∧ z.frozen? ⟨w.heap.size + 1, 11, none⟩ = false)
theorem Lk.cs {w z : World} {k : Int} {mi : Bool} (h : Lk w z k mi) : LkC w z k mi :=
  ⟨⟨(Array.getElem?_eq_some_iff.1 h.mv).1, (Array.getElem?_eq_some_iff.1 h.res).1⟩, ⟨(cell_of h.mv 0 _ rfl).1, (cell_of h.mv 1 _ rfl).1⟩, cell_of h.res 0 _ rfl, cell_of h.res 1 _ rfl, cell_of h.res 2 _ rfl, cell_of h.res 3 _ rfl, cell_of h.res 4 _ rfl, cell_of h.res 5 _ rfl, cell_of h.res 6 _ rfl, cell_of h.res 7 _ rfl, cell_of h.res 8 _ rfl, cell_of h.res 9 _ rfl, cell_of h.res 10 _ rfl, cell_of h.res 11 _ rfl⟩
theorem below_set12 {B : Nat} {w z : World} (h : Below B w z) {q : Nat} (hq : B ≤ q) (v0 v1 v2 v3 v4 v5 v6 v7 v8 v9 v10 v11 : Value) : Below B w ((((((((((((z.setCell ⟨q, 0, none⟩ v0).setCell ⟨q, 1, none⟩ v1).setCell ⟨q, 2, none⟩ v2).setCell ⟨q, 3, none⟩ v3).setCell ⟨q, 4, none⟩ v4).setCell ⟨q, 5, none⟩ v5).setCell ⟨q, 6, none⟩ v6).setCell ⟨q, 7, none⟩ v7).setCell ⟨q, 8, none⟩ v8).setCell ⟨q, 9, none⟩ v9).setCell ⟨q, 10, none⟩ v10).setCell ⟨q, 11, none⟩ v11) :=
  (((((((((((h.setCell hq _).setCell hq _).setCell hq _).setCell hq _).setCell hq _).setCell hq _).setCell hq _).setCell hq _).setCell hq _).setCell hq _).setCell hq _).setCell hq _
set_option maxRecDepth 100000 in
set_option maxHeartbeats 4000000 in
theorem look_any (base : Option Addr) (b o c : Nat) (t : NL) (p k : Int) (mi : Bool) (w : World) (h : NodesAt w base b o t) :
    Calls Tryd.prog 27 #[.slice base t.length c, .int .i64 p, .agg #[.int .i64 k, .bool mi]] w fun e w' => e = .returned (.tuple #[if lookE t p k mi = 0 then siteF base c t (rootR t).1 mi p else siteN, .int .i64 (lookE t p k mi)]) ∧ Below w.heap.size w w' := by
  have HA : Hid (NodesAt w base b o t) := h
  have L0 : Hid (Lk w _ k mi) := lk_new w k mi
  have HR : Hid (∀ W, NodesAt W base b o t → Calls Tryd.prog 36 #[.slice base t.length c] W fun e w' => e = .returned (.tuple #[.int .i64 (rootR t).1, .int .i64 (rootR t).2]) ∧ Below W.heap.size W w') := fun W hW => Root_any base b o c t W hW
  have HM : Hid (∀ W, Calls Tryd.prog 20 #[.agg #[.int .i64 k, .bool mi]] W fun e w' => e = .returned (.bool (mvB k mi)) ∧ Below W.heap.size W w') := fun W => isMove_any k mi W
  clear h
  by_cases h1 : (rootR t).2 = 0
  · obtain ⟨x0, l0, r0, s0, K0, cr⟩ := crn_of h1
    obtain ⟨-, hf⟩ := formE_ok cr.form
    have HK : Hid (∀ W, NodesAt W base b o t → Calls Tryd.prog 37 #[.slice base t.length c, .int .i64 p] W fun e w' => e = .returned (.bool (ofK t p)) ∧ Below W.heap.size W w') := fun W hW => isOfKeys_any base b o c t p W hW hf.pos ⟨by rw [cr.top.1]; omega, by rw [cr.top.1]; have := cr.lt.2.1; omega⟩
    have HF : Hid (lookE t p k mi = if mvB k mi = false then 5 else if ofK t p = false then 1 else 0) := by show _ = _; unfold lookE; rw [if_neg (by simp [h1])]
    have d1 : ((rootR t).2 != 0) = false := by simp [h1]
    have HFo : Hid (InForm t) := hf
    clear hf cr x0 l0 r0 s0 K0 h1
    cases h2 : mvB k mi
    · have F : Hid (lookE t p k mi = 5) := by show _ = _; rw [HF.out, h2]; rfl
      clear HF HK HFo
      generalize lookE t p k mi = E at *
      obtain rfl := F.out
      generalize (rootR t).1 = rt at *
      generalize (rootR t).2 = re at *
      rw [h2] at HM
      clear h2 F
      go_enter Tryd.func27, Tryd.ntmps27
      go_wp2_with fail
      refine (HR.out _ (HA.out.below L0.out.below)).mono ?_
      rintro e w1 ⟨rfl, hb⟩
      have L1 : Hid (Lk w w1 k mi) := L0.out.quiet hb
      obtain ⟨⟨lt1, lt2⟩, ⟨m0, m1⟩, r0, r1, r2, r3, r4, r5, r6, r7, r8, r9, r10, r11⟩ := L1.out.cs
      clear hb L0
      go_wp2_with fail
      refine (HM.out _).mono ?_
      rintro e w2 ⟨rfl, hb⟩
      have L2 : Hid (Lk w w2 k mi) := L1.out.quiet hb
      clear lt1 lt2 m0 m1 r0 r1 r2 r3 r4 r5 r6 r7 r8 r9 r10 r11
      obtain ⟨⟨lt1, lt2⟩, ⟨m0, m1⟩, r0, r1, r2, r3, r4, r5, r6, r7, r8, r9, r10, r11⟩ := L2.out.cs
      clear hb L1
      go_wp2_with fail
      (try simp only [Exit.inBlock, Exit.then])
      refine bodyPost_ret (v := .tuple #[siteN, .int .i64 5]) ?_ rfl ⟨by rfl, ?_⟩
      · rw [results_cell_tmp rfl]; go_simp; rfl
      · exact below_set12 L2.out.below (Nat.le_succ _) _ _ _ _ _ _ _ _ _ _ _ _
    · cases h3 : ofK t p
      · have F : Hid (lookE t p k mi = 1) := by show _ = _; rw [HF.out, h2, h3]; rfl
        clear HF HFo
        generalize lookE t p k mi = E at *
        obtain rfl := F.out
        generalize (rootR t).1 = rt at *
        generalize (rootR t).2 = re at *
        rw [h2] at HM
        rw [h3] at HK
        clear h2 h3 F
        go_enter Tryd.func27, Tryd.ntmps27
        go_wp2_with fail
        refine (HR.out _ (HA.out.below L0.out.below)).mono ?_
        rintro e w1 ⟨rfl, hb⟩
        have L1 : Hid (Lk w w1 k mi) := L0.out.quiet hb
        obtain ⟨⟨lt1, lt2⟩, ⟨m0, m1⟩, r0, r1, r2, r3, r4, r5, r6, r7, r8, r9, r10, r11⟩ := L1.out.cs
        clear hb L0
        go_wp2_with fail
        refine (HM.out _).mono ?_
        rintro e w2 ⟨rfl, hb⟩
        have L2 : Hid (Lk w w2 k mi) := L1.out.quiet hb
        clear lt1 lt2 m0 m1 r0 r1 r2 r3 r4 r5 r6 r7 r8 r9 r10 r11
        obtain ⟨⟨lt1, lt2⟩, ⟨m0, m1⟩, r0, r1, r2, r3, r4, r5, r6, r7, r8, r9, r10, r11⟩ := L2.out.cs
        clear hb L1
        go_wp2_with fail
        refine (HK.out _ (HA.out.below L2.out.below)).mono ?_
        rintro e w3 ⟨rfl, hb⟩
        have L3 : Hid (Lk w w3 k mi) := L2.out.quiet hb
        clear lt1 lt2 m0 m1 r0 r1 r2 r3 r4 r5 r6 r7 r8 r9 r10 r11
        obtain ⟨⟨lt1, lt2⟩, ⟨m0, m1⟩, r0, r1, r2, r3, r4, r5, r6, r7, r8, r9, r10, r11⟩ := L3.out.cs
        clear hb L2
        go_wp2_with fail
        (try simp only [Exit.inBlock, Exit.then])
        refine bodyPost_ret (v := .tuple #[siteN, .int .i64 1]) ?_ rfl ⟨by rfl, ?_⟩
        · rw [results_cell_tmp rfl]; go_simp; rfl
        · exact below_set12 L3.out.below (Nat.le_succ _) _ _ _ _ _ _ _ _ _ _ _ _
      · have F : Hid (lookE t p k mi = 0) := by show _ = _; rw [HF.out, h2, h3]; rfl
        have hpl : plOk t p := by
          simp only [ofK, Bool.and_eq_true, decide_eq_true_eq] at h3
          exact Or.inr ⟨by omega, by omega⟩
        have HS : Hid (∀ W rt, NodesAt W base b o t → Calls Tryd.prog 38 #[.slice base t.length c, .int .i64 rt, .int .i64 p, .bool mi] W fun e w' => e = .returned (siteF base c t rt mi p) ∧ Below W.heap.size W w') := fun W rt hW => siteAt_any base b o c t rt p mi W hW HFo.out hpl
        clear HF hpl HFo
        generalize lookE t p k mi = E at *
        obtain rfl := F.out
        generalize (rootR t).1 = rt at *
        generalize (rootR t).2 = re at *
        rw [h2] at HM
        rw [h3] at HK
        clear h2 h3 F
        rw [if_pos rfl]
        unfold siteF at HS ⊢
        generalize belL t mi p = v4 at *
        generalize belR t mi p = v5 at *
        generalize belL t mi v4 = v6 at *
        generalize belR t mi v4 = v7 at *
        generalize belL t mi v5 = v8 at *
        generalize belR t mi v5 = v9 at *
        generalize belL t mi v8 = v10 at *
        generalize belR t mi v8 = v11 at *
        go_enter Tryd.func27, Tryd.ntmps27
        go_wp2_with fail
        refine (HR.out _ (HA.out.below L0.out.below)).mono ?_
        rintro e w1 ⟨rfl, hb⟩
        have L1 : Hid (Lk w w1 k mi) := L0.out.quiet hb
        obtain ⟨⟨lt1, lt2⟩, ⟨m0, m1⟩, r0, r1, r2, r3, r4, r5, r6, r7, r8, r9, r10, r11⟩ := L1.out.cs
        clear hb L0
        go_wp2_with fail
        refine (HM.out _).mono ?_
        rintro e w2 ⟨rfl, hb⟩
        have L2 : Hid (Lk w w2 k mi) := L1.out.quiet hb
        clear lt1 lt2 m0 m1 r0 r1 r2 r3 r4 r5 r6 r7 r8 r9 r10 r11
        obtain ⟨⟨lt1, lt2⟩, ⟨m0, m1⟩, r0, r1, r2, r3, r4, r5, r6, r7, r8, r9, r10, r11⟩ := L2.out.cs
        clear hb L1
        go_wp2_with fail
        refine (HK.out _ (HA.out.below L2.out.below)).mono ?_
        rintro e w3 ⟨rfl, hb⟩
        have L3 : Hid (Lk w w3 k mi) := L2.out.quiet hb
        clear lt1 lt2 m0 m1 r0 r1 r2 r3 r4 r5 r6 r7 r8 r9 r10 r11
        obtain ⟨⟨lt1, lt2⟩, ⟨m0, m1⟩, r0, r1, r2, r3, r4, r5, r6, r7, r8, r9, r10, r11⟩ := L3.out.cs
        clear hb L2
        go_wp2_with fail
        refine (HS.out _ _ (HA.out.below L3.out.below)).mono ?_
        rintro e w4 ⟨rfl, hb⟩
        have L4 : Hid (Lk w w4 k mi) := L3.out.quiet hb
        clear lt1 lt2 m0 m1
        obtain ⟨⟨lt1, lt2⟩, ⟨m0, m1⟩, r0, r1, r2, r3, r4, r5, r6, r7, r8, r9, r10, r11⟩ := L4.out.cs
        clear hb L3
        go_wp2_with fail
        (try simp only [Exit.inBlock, Exit.then])
        refine bodyPost_ret (v := .tuple #[.agg #[.slice base t.length c, .int .i64 rt, .bool mi, .int .i64 p, .int .i64 v4, .int .i64 v5, .int .i64 v6, .int .i64 v7, .int .i64 v8, .int .i64 v9, .int .i64 v10, .int .i64 v11], .int .i64 0]) ?_ rfl ⟨?_, ?_⟩
        · rw [results_cell_tmp rfl]; go_simp
        · rfl
        · exact below_set12 L4.out.below (Nat.le_succ _) _ _ _ _ _ _ _ _ _ _ _ _
  · have F : Hid (lookE t p k mi = (rootR t).2) := by show _ = _; unfold lookE; rw [if_pos h1]
    have d1 : ((rootR t).2 != 0) = true := by simp [h1]
    rw [F.out, if_neg h1]
    clear F h1 HM
    generalize (rootR t).1 = rt at *
    generalize (rootR t).2 = re at *
    go_enter Tryd.func27, Tryd.ntmps27
    go_wp2_with fail
    refine (HR.out _ (HA.out.below L0.out.below)).mono ?_
    rintro e w1 ⟨rfl, hb⟩
    have L1 : Hid (Lk w w1 k mi) := L0.out.quiet hb
    obtain ⟨⟨lt1, lt2⟩, ⟨m0, m1⟩, r0, r1, r2, r3, r4, r5, r6, r7, r8, r9, r10, r11⟩ := L1.out.cs
    clear hb L0
    go_wp2_with fail
    (try simp only [Exit.inBlock, Exit.then])
    refine bodyPost_ret (v := .tuple #[siteN, .int .i64 re]) ?_ rfl ⟨by rfl, ?_⟩
    · rw [results_cell_tmp rfl]; go_simp; rfl
    · exact below_set12 L1.out.below (Nat.le_succ _) _ _ _ _ _ _ _ _ _ _ _ _
end Go.Proofs.YthlhbajaogonnaaDoor
