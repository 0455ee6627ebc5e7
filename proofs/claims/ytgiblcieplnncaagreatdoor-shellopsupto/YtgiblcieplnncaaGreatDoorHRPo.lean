
/- Layer 28: the document's ParseOp. -/

import Derived.Test.YtgiblcieplnncaaGreatDoorHROp

import Derived.Test.YtgiblcieplnncaaGreatDoorHNl

namespace Go.Proofs.YtgiblcieplnncaaGreatDoor

open Go.RowKit

attribute [local go_sem ↓] Go.wp_at_zero Go.wp_at_succ

theorem hkept {W z : World} {g : Nat} {cs : Array Value} {t : TypeId} (hg : W.heap[g]? = some (.cells cs t)) (h : Below W.heap.size W z) (i : Nat) (v : Value) (hv : cs[i]? = some v) : z.cell? ⟨g, i, none⟩ = some v ∧ z.frozen? ⟨g, i, none⟩ = false := by
  have hb := h.block g (Array.getElem?_eq_some_iff.1 hg).1
  rw [hg] at hb
  refine ⟨?_, ?_⟩
  · simp only [World.cell?, hb]
    exact hv
  · simp [World.frozen?, hb]
theorem opsRun {l : List UInt8} {B : Nat} {w : World} {v : Value} (hl : l.length ≤ 2000000) (h : w.ownsRow B 9 1 v (wordsL l).length (strC (wordsL l))) :
    Calls Tryz.prog 21 #[v] w fun e w' => OpOut (wordsL l) e ∧ Below w.heap.size w w' := by
  obtain ⟨base, cap, g, rfl, hb, hc⟩ := row_cells h
  exact rOpOf_any (wordsL l) base cap g w hb hc (fun j => by
    rw [List.getD_eq_getElem?_getD]
    cases hj : (wordsL l)[j]? with
    | none => exact Nat.zero_le _
    | some x => exact Nat.le_trans (words_le (List.mem_of_getElem? hj)) hl) (by have := words_len l; omega)
set_option maxRecDepth 100000 in
set_option maxHeartbeats 8000000 in
theorem rParseOp_any (l : List UInt8) (hl : l.length ≤ 2000000) (w : World) :
    Calls Tryz.prog 10 #[.string ⟨l.toArray⟩] w fun e w' => OpOut (wordsL l) e ∧ Below w.heap.size w w' := by
  have hsz : (⟨l.toArray⟩ : ByteArray).size = l.length := by simp [ByteArray.size]
  have b0 : (l.length : Int) ≤ 2000000 := by omega
  have HL : Hid (l.length ≤ 2000000) := hl
  clear hl
  go_enter Tryz.func10, Tryz.ntmps10
  go_wp2_with fail
  go_loopw [4] (fun vi wr => ∃ i : Nat, i ≤ l.length ∧ vi = .int .i64 i ∧ wr = (w.alloc (.cells #[.int .i64 0, .int .i64 0, .int .i64 0, .int .i64 0] 23))) (fun vi _ => l.length - (intOf vi).toNat)
  case atStart => exact ⟨0, Nat.zero_le _, rfl, rfl⟩
  case round =>
    obtain ⟨i, hil, rfl, rfl⟩ := hrel
    by_cases hi : i < l.length
    · have j0 : (0 : Int) ≤ (i : Int) := Int.natCast_nonneg _
      have j1 : (i : Int) < (l.length : Int) := by omega
      by_cases hc : l.getD i 0 = 10
      · have c0 : (⟨l.toArray⟩ : ByteArray)[i].toNat = 10 := hb_eq hi (c := 10) hc
        have HN : Hid (∀ k V, ¬ OpIs (wordsL l) k V) := no_nl ⟨i, hi, hc⟩
        clear hc
        go_wp2_with fail
        refine bodyPost_ret (v := .tuple #[opV ⟨0, 0, 0, 0⟩, .bool false]) ?_ rfl ⟨Or.inr ⟨HN.out, rfl⟩, below_alloc _ _⟩
        rw [results_cell_tmp rfl]
        go_simp
        rfl
      · have c0 : (((⟨l.toArray⟩ : ByteArray)[i].toNat : Int) == 10) = false := hb_nei hi (c := 10) hc
        clear hc
        go_wp2_with fail
        exact ⟨⟨i + 1, by omega, by go_num, trivial⟩, by simp [intOf]; omega⟩
    · obtain rfl : i = l.length := by omega
      clear hi hil
      have BL : Hid ((w.alloc (.cells #[.int .i64 0, .int .i64 0, .int .i64 0, .int .i64 0] 23)).heap[w.heap.size]? = some (.cells #[.int .i64 0, .int .i64 0, .int .i64 0, .int .i64 0] 23)) := heap_alloc_at _ _ _ rfl
      go_wp2_with (first | (go_at_call 22; refine (rWords_any l HL.out _).mono ?_; rintro e w1 ⟨v, rfl, ho, hb1⟩; have B1 : Hid (Below _ _ w1) := hb1; have OW : Hid _ := ho; clear hb1 ho) | (go_at_call 21; refine (opsRun HL.out OW.out).mono ?_; rintro e w2 ⟨h2, hb2⟩; have hb3 := B1.out.trans (hb2.mono B1.out.size); have r0 := hkept BL.out hb3 0 _ rfl; have r1 := hkept BL.out hb3 1 _ rfl; have r2 := hkept BL.out hb3 2 _ rfl; have r3 := hkept BL.out hb3 3 _ rfl; have B2 : Hid (Below w.heap.size w w2) := (below_alloc w _).trans (hb3.mono (by simp)); clear hb3; obtain ⟨a, b, c, d, t, rfl⟩ := h2.form; have HO : Hid (OpOut _ _) := h2; clear hb2 h2))
      refine bodyPost_ret (v := .tuple #[.agg #[.int .i64 a, .int .i64 b, .int .i64 c, .int .i64 d], .bool t]) ?_ rfl ⟨HO.out, (((B2.out.setCell (p := ⟨w.heap.size, 0, none⟩) (Nat.le_refl _) _).setCell (p := ⟨w.heap.size, 1, none⟩) (Nat.le_refl _) _).setCell (p := ⟨w.heap.size, 2, none⟩) (Nat.le_refl _) _).setCell (p := ⟨w.heap.size, 3, none⟩) (Nat.le_refl _) _⟩
      rw [results_cell_tmp rfl]
      go_simp
end Go.Proofs.YtgiblcieplnncaaGreatDoor
