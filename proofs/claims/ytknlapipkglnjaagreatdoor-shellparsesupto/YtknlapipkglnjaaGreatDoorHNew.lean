
/- Layer 28: a record is made. -/

import Derived.Test.YtknlapipkglnjaaGreatDoorHAt

import Derived.Deep.RegionHeld3

import Derived.Deep.RegionWith

import Derived.Deep.RegionLaw

namespace Go.Proofs.YtknlapipkglnjaaGreatDoor

open Go.RowKit

attribute [local go_sem ↓] Go.wp_at_zero Go.wp_at_succ

theorem cells_under : Tryz.prog.underlying 219 = some (.slice 301) := by kernel_rfl
theorem cellR_info : (Tryz.prog.info? 301).map (fun i => (i.zero, i.size, i.bytes)) = some (some (.agg #[.pointer none]), 1, 8) := by kernel_rfl
/-- A record that is being made: its block, its fields' block. -/
structure RecAt (w0 w : World) (rb fb n : Nat) (cs : Array Value) : Prop where
  below : Below w0.heap.size w0 w
  lo : w0.heap.size ≤ rb
  lof : w0.heap.size ≤ fb
  ne : rb ≠ fb
  rcd : w.heap[rb]? = some (.cells cs 232)
  fld : ∃ fs, w.heap[fb]? = some (.cells fs 301) ∧ fs.size = n
theorem RecAt.cell {w0 w : World} {rb fb n : Nat} {cs : Array Value} (h : RecAt w0 w rb fb n cs) (i : Nat) : w.cell? ⟨rb, i, none⟩ = cs[i]? := by
  simp only [World.cell?, h.rcd]
  rfl
theorem RecAt.field {w0 w : World} {rb fb n : Nat} {cs : Array Value} (h : RecAt w0 w rb fb n cs) (j : Nat) (hj : j < n) : (∃ u, w.cell? ⟨fb, j, none⟩ = some u) ∧ w.frozen? ⟨fb, j, none⟩ = false := by
  obtain ⟨fs, h1, h2⟩ := h.fld
  refine ⟨⟨fs[j], ?_⟩, ?_⟩
  · simp only [World.cell?, h1]
    exact Array.getElem?_eq_getElem (by omega)
  · simp [World.frozen?, h1]
theorem RecAt.set {w0 w : World} {rb fb n : Nat} {cs : Array Value} (h : RecAt w0 w rb fb n cs) (j : Nat) (v : Value) : RecAt w0 (w.setCell ⟨fb, j, none⟩ v) rb fb n cs := by
  obtain ⟨fs, h1, h2⟩ := h.fld
  refine ⟨h.below.setCell h.lof _, h.lo, h.lof, h.ne, ?_, ⟨fs.setIfInBounds j v, ?_, by simpa using h2⟩⟩
  · rw [Below.heap_setCell _ _ _ _ (fun z => h.ne (by simpa using z))]
    exact h.rcd
  · rw [Go.Joins.block_setCell h1]
theorem new_end {w0 w : World} {rb fb n : Nat} {cs : Array Value} {o : Obj} (h : RecAt w0 w rb fb n cs) (x : Value) {v : Value} (h0 : cs[0]? = some v) : ((w.setCell ⟨rb, 6, none⟩ x).alloc o).cell? ⟨rb, 0, none⟩ = some v ∧ Below w0.heap.size w0 ((w.setCell ⟨rb, 6, none⟩ x).alloc o) := by
  have h3 := Go.Joins.block_setCell (i := 6) h.rcd x
  have hlt : rb < (w.setCell ⟨rb, 6, none⟩ x).heap.size := (Array.getElem?_eq_some_iff.1 h3).1
  have hB := h.below.setCell (p := ⟨rb, 6, none⟩) h.lo x
  have h4 : ((w.setCell ⟨rb, 6, none⟩ x).alloc o).heap[rb]? = some (.cells (cs.setIfInBounds 6 x) 232) := by rw [heap_alloc_old _ _ hlt]; exact h3
  refine ⟨?_, hB.alloc hB.size _⟩
  simp only [World.cell?, h4]
  simpa using h0
theorem RecAt.old {w0 w : World} {rb fb n : Nat} {cs : Array Value} (h : RecAt w0 w rb fb n cs) (o : Obj) (i : Nat) : (w.alloc o).cell? ⟨rb, i, none⟩ = cs[i]? ∧ (w.alloc o).frozen? ⟨rb, i, none⟩ = false := by
  have hlt : rb < w.heap.size := (Array.getElem?_eq_some_iff.1 h.rcd).1
  have h1 : (w.alloc o).heap[rb]? = some (.cells cs 232) := by rw [heap_alloc_old _ _ hlt]; exact h.rcd
  constructor
  · simp only [World.cell?, h1]
    rfl
  · simp [World.frozen?, h1]
theorem lies_new (w : World) (v : Value) (vs : List Value) (t : TypeId) : LiesP (w.alloc (.cells (v :: vs).toArray t)) (some ⟨w.heap.size, 0, none⟩) := by
  have hb : (w.alloc (.cells (v :: vs).toArray t)).heap[w.heap.size]? = some (.cells (v :: vs).toArray t) := heap_alloc_at _ _ _ rfl
  refine Or.inr ⟨w.heap.size, v, rfl, ?_⟩
  simp only [World.cell?, hb]
  simp
set_option maxRecDepth 100000 in
set_option maxHeartbeats 4000000 in
theorem new_any (a b c d : Int) (lf : Bool) (base : Option Addr) (g0 n : Nat) (w : World) (hn : n ≤ 2) (hfl : ∀ j, j < n → base = some ⟨g0, 0, none⟩ ∧ g0 < w.heap.size ∧ ∃ q v, q < w.heap.size ∧ w.cell? ⟨g0, j, none⟩ = some (.pointer (some ⟨q, 0, none⟩)) ∧ w.cell? ⟨q, 0, none⟩ = some v) :
    Calls Tryz.prog 163 #[.agg #[.int .i64 a, .int .i64 b, .int .i64 c, .int .i64 d, .bool lf], .slice base n n] w fun e w' => ∃ g v, e = .returned (.pointer (some ⟨g, 0, none⟩)) ∧ w.heap.size ≤ g ∧ w'.cell? ⟨g, 0, none⟩ = some v ∧ Below w.heap.size w w' := by
  have hmk := run_make_known (P := Tryz.prog) _ _ (.agg #[.pointer none]) 1 8 cells_under cellR_info n (by omega) (by omega)
  have HFL : Hid (∀ j, j < n → base = some ⟨g0, 0, none⟩ ∧ g0 < w.heap.size ∧ ∃ q v, q < w.heap.size ∧ w.cell? ⟨g0, j, none⟩ = some (.pointer (some ⟨q, 0, none⟩)) ∧ w.cell? ⟨q, 0, none⟩ = some v) := hfl
  clear hfl
  go_enter Tryz.func163, Tryz.ntmps163
  go_wp2_with fail
  go_region
  clear hmk
  go_wp2_with fail
  go_loopw [17] (fun vi wr => ∃ j : Nat, j ≤ n ∧ vi = .int .i64 j ∧ RecAt w wr (w.heap.size + 1 + 1) (w.heap.size + 1) n #[.int .i64 a, .int .i64 b, .int .i64 c, .int .i64 d, .bool lf, .slice (some ⟨w.heap.size + 1, 0, none⟩) n n, .pointer none, .int .u32 0]) (fun vi _ => n - (intOf vi).toNat)
  case atStart =>
    refine ⟨0, Nat.zero_le _, rfl, ⟨((((Below.refl _ _).alloc (Nat.le_refl _) _).alloc (by simp) _).alloc (by simp; omega) _).drew, by omega, by omega, by omega, ?_, ⟨madeCells #[.pointer none] n, ?_, ?_⟩⟩⟩
    · exact heap_alloc_at _ _ _ (by simp)
    · refine (heap_alloc_old _ _ (by simp)).trans ?_
      exact heap_alloc_at _ _ _ (by simp)
    · exact size_madeCells _ _
  case round =>
    obtain ⟨j, hj, rfl, hra⟩ := hrel
    rename World => wr
    have RA : Hid (RecAt w wr (w.heap.size + 1 + 1) (w.heap.size + 1) n #[.int .i64 a, .int .i64 b, .int .i64 c, .int .i64 d, .bool lf, .slice (some ⟨w.heap.size + 1, 0, none⟩) n n, .pointer none, .int .u32 0]) := hra
    have hsz := hra.below.size
    have s5 : wr.cell? ⟨w.heap.size + 1 + 1, 5, none⟩ = some (.slice (some ⟨w.heap.size + 1, 0, none⟩) n n) := hra.cell 5
    have s6 : wr.cell? ⟨w.heap.size + 1 + 1, 6, none⟩ = some (.pointer none) := hra.cell 6
    clear hra
    by_cases hjn : j < n
    · obtain ⟨rfl, hg0, q, v, hq, hc1, hc2⟩ := HFL.out j hjn
      have d1 := (RA.out.below.cell (p := ⟨g0, j, none⟩) hg0).trans hc1
      have HLp : Hid (LiesP wr (some ⟨q, 0, none⟩)) := Or.inr ⟨q, v, rfl, (RA.out.below.cell (p := ⟨q, 0, none⟩) hq).trans hc2⟩
      obtain ⟨⟨u, hu⟩, hfz⟩ := RA.out.field j hjn
      have HU : Hid (wr.cell? ⟨w.heap.size + 1, j, none⟩ = some u) := hu
      have HZ : Hid (wr.frozen? ⟨w.heap.size + 1, j, none⟩ = false) := hfz
      have j0 : (0 : Int) ≤ (j : Int) := Int.natCast_nonneg _
      have j1 : (j : Int) < (n : Int) := by omega
      have RB : Hid (RecAt w (wr.setCell ⟨w.heap.size + 1, j, none⟩ (.pointer (some ⟨q, 0, none⟩))) (w.heap.size + 1 + 1) (w.heap.size + 1) n #[.int .i64 a, .int .i64 b, .int .i64 c, .int .i64 d, .bool lf, .slice (some ⟨w.heap.size + 1, 0, none⟩) n n, .pointer none, .int .u32 0]) := RA.out.set j _
      clear hjn hc1 hc2 hu hfz
      go_wp2_with (first | (go_at_call 179; refine (storeRec _ _ _ _ _ HU.out HZ.out HLp.out).mono ?_; rintro e w' ⟨rfl, rfl⟩))
      refine ⟨⟨j + 1, by omega, by go_num, RB.out⟩, by simp [intOf]; omega⟩
    · obtain rfl : j = n := by omega
      clear hjn
      have hrlt : w.heap.size + 1 + 1 < wr.heap.size := (Array.getElem?_eq_some_iff.1 RA.out.rcd).1
      go_wp2_with (first | (go_at_call 180; refine (abort_any _ 0 _ (by simp) (by simp)).mono ?_; rintro e w' ⟨rfl, rfl⟩) | (go_at_call 181; refine (storeScx _ _ _ (.pointer none) _ (RA.out.old _ 6).1 (RA.out.old _ 6).2 (lies_new _ _ _ _)).mono ?_; rintro e w' ⟨rfl, rfl⟩))
      go_ret
      obtain ⟨h8, h9⟩ := new_end (o := .cells #[.slice none 0 0, .slice none 0 0, .slice none 0 0, .int .i64 0, .int .i64 0, .pointer none, .pointer none, .int .i64 2, .int .u32 0] 309) RA.out (.pointer (some ⟨wr.heap.size, 0, none⟩)) (v := .int .i64 a) rfl
      exact ⟨_, _, rfl, by omega, h8, h9⟩
end Go.Proofs.YtknlapipkglnjaaGreatDoor
