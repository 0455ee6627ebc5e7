
/- Layer 28: slices.Repeat of one number. -/

import Derived.Test.YtknlapipkglnjaaGreatDoorHRa

import Derived.Laws.CopyOwn

import Derived.Laws.MakeOwn

import Derived.Deep.RegionLaw

namespace Go.Proofs.YtknlapipkglnjaaGreatDoor

open Go.RowKit

attribute [local go_sem ↓] Go.wp_at_zero Go.wp_at_succ

theorem rin_under : Tryz.prog.underlying 24 = some (.slice 3) := by kernel_rfl
theorem rin_info : (Tryz.prog.info? 3).map (fun i => (i.zero, i.size, i.bytes)) = some (some (.int .i64 0), 1, 8) := by kernel_rfl
theorem rin_size : (Tryz.prog.info? 3).map (·.size) = some 1 := by kernel_rfl
def repL (n j : Nat) (p : Int) : List Value := inC (List.replicate j p) ++ List.replicate (n - j) (.int .i64 0)
theorem repL_len (n j : Nat) (p : Int) (h : j ≤ n) : (repL n j p).length = n := by simp [repL, inC]; omega
theorem made_rep (n : Nat) (p : Int) : (madeCells #[Value.int .i64 0] n).toList = repL n 0 p := by
  apply List.ext_getElem
  · simp [madeCells, repL, inC]
  · intro i h1 h2
    simp only [madeCells, repL, inC, Array.toList_map, List.getElem_map, Array.toList_range, List.getElem_range, List.replicate_zero, List.map_nil, List.nil_append, List.getElem_replicate, Nat.sub_zero]
    simp [Nat.mod_one]
theorem rep_splice (n j m : Nat) (p : Int) (h : j + m ≤ n) : splice (repL n j p) j (inC (List.replicate m p)) = repL n (j + m) p := by
  unfold splice repL
  have l1 : (inC (List.replicate j p)).length = j := by simp [inC]
  have l2 : (inC (List.replicate m p)).length = m := by simp [inC]
  rw [List.take_append_of_le_length (by omega), List.take_of_length_le (by omega), l2, List.drop_append, l1, List.drop_of_length_le (by omega), List.nil_append]
  have e : inC (List.replicate (j + m) p) = inC (List.replicate j p) ++ inC (List.replicate m p) := by simp [inC, ← List.replicate_append_replicate]
  rw [e, List.append_assoc]
  congr 2
  rw [List.drop_replicate]
  congr 1
  omega
theorem rep_cell {w : World} {g n j : Nat} {p : Int} (h : w.heap[g]? = some (.cells (repL n j p).toArray 3 (0, 0))) (i : Nat) (hi : i < j) : w.cell? ⟨g, i, none⟩ = some (.int .i64 p) := by
  simp only [World.cell?, h]
  simp [repL, inC, List.getElem?_append_left, hi]
theorem rep_one (m : Nat) (p : Int) : ∀ v ∈ inC (List.replicate m p), v.oneCell' = true := by
  intro v hv
  obtain ⟨x, -, rfl⟩ := List.mem_map.1 hv
  rfl
theorem copied_cell {w : World} {g n j m i : Nat} {p : Int} {v : Value} (h : w.heap[g]? = some (.cells (repL n j p).toArray 3 (0, 0))) (hm : m = min j (n - j)) (hv : (inC (List.replicate m p))[i]? = some v) : w.cell? ((⟨g, 0, none⟩ : Addr).add i) = some v := by
  have hi : i < m := by
    rcases Nat.lt_or_ge i m with q | q
    · exact q
    · rw [List.getElem?_eq_none (by simpa [inC] using q)] at hv; cases hv
  have e : v = .int .i64 p := by simpa [inC, hi] using hv.symm
  rw [addr_add', Nat.zero_add, e]
  exact rep_cell h i (by omega)
theorem wrap_in {x : Int} (h0 : 0 ≤ x) (h1 : x ≤ 2000000) : IntKind.i64.wrap x = x := by
  simp [IntKind.wrap, IntKind.signed, IntKind.bits]
  omega
theorem rep_own {w : World} {B g n : Nat} {p : Int} (hB : B ≤ g) (hn : n ≤ 1000000) (h : w.heap[g]? = some (.cells (repL n n p).toArray 3 (0, 0))) : w.ownsRow B 3 1 (.slice (some ⟨g, 0, none⟩) n n) n (inC (List.replicate n p)) := by
  have e : repL n n p = inC (List.replicate n p) := by simp [repL]
  rw [e] at h
  refine ⟨by simp [inC], Or.inr ⟨g, n, _, rfl, hB, h, Nat.le_refl _, by unfold maxLen; omega, by simp [inC], ?_⟩⟩
  rw [List.take_of_length_le (by simp [inC])]
set_option maxRecDepth 100000 in
set_option maxHeartbeats 8000000 in
theorem repeat_any (p : Int) (n g0 : Nat) (hn : n ≤ 1000000) (w : World) (hc : w.cell? ⟨g0, 0, none⟩ = some (.int .i64 p)) :
    Calls Tryz.prog 70 #[.slice (some ⟨g0, 0, none⟩) 1 1, .int .i64 (n : Int)] w fun e w' => e = .returned (.slice (some ⟨w.heap.size, 0, none⟩) n n) ∧ w'.ownsRow w.heap.size 3 1 (.slice (some ⟨w.heap.size, 0, none⟩) n n) n (inC (List.replicate n p)) ∧ Below w.heap.size w w' := by
  have MU : Hid (∀ W, Calls Tryz.prog 89 #[.int .u64 1, .int .u64 (n : Int)] W fun e w' => e = .returned (.tuple #[.int .u64 0, .int .u64 (n : Int)]) ∧ w' = W) := fun W => (bits_Mul 1 n (by omega) (by omega) W).mono (by
    rintro e w' ⟨rfl, rfl⟩
    refine ⟨?_, rfl⟩
    rw [Nat.one_mul, Nat.div_eq_of_lt (by omega), Nat.mod_eq_of_lt (by omega)]
    rfl)
  have hmi := run_make_known (P := Tryz.prog) 24 3 (.int .i64 0) 1 8 rin_under rin_info n (by omega) (by omega)
  have n0 : (0 : Int) ≤ (n : Int) := Int.natCast_nonneg _
  have n1 : (n : Int) ≤ 1000000 := by omega
  have hg0 : g0 < w.heap.size := World.block_lt_of_cell? w _ hc
  have HR0 : Hid ((w.alloc (.cells (madeCells #[Value.int .i64 0] n) 3)).heap[w.heap.size]? = some (.cells (repL n 0 p).toArray 3 (0, 0))) := by
    show (w.alloc (.cells (madeCells #[Value.int .i64 0] n) 3)).heap[w.heap.size]? = _
    rw [heap_alloc_at _ _ _ rfl, ← made_rep n p]
  have HC : Hid ((w.alloc (.cells (madeCells #[Value.int .i64 0] n) 3)).cell? ⟨g0, 0, none⟩ = some (.int .i64 p)) := ((below_alloc w _).cell (p := ⟨g0, 0, none⟩) hg0).trans hc
  have HN : Hid (n ≤ 1000000) := hn
  obtain ⟨j0, W1, hcp, hr1, hb1, hj0, hj1⟩ : ∃ (j0 : Nat) (W1 : World), (Builtin.copy_ #[24, 24] 3 #[.slice (some ⟨w.heap.size, 0, none⟩) n n, .slice (some ⟨g0, 0, none⟩) 1 1]).run Tryz.prog (w.alloc (.cells (madeCells #[Value.int .i64 0] n) 3)) = .ok (.int .i64 (j0 : Int)) W1 ∧ W1.heap[w.heap.size]? = some (.cells (repL n j0 p).toArray 3 (0, 0)) ∧ Below w.heap.size w W1 ∧ j0 ≤ n ∧ (0 < n → 1 ≤ j0) := by
    by_cases h0 : n = 0
    · subst h0
      exact ⟨0, _, run_copy_none (P := Tryz.prog) _ _ _ _ 3 _ _ 0 0 1 1 rin_under rin_size rfl, HR0.out, below_alloc _ _, Nat.le_refl _, fun q => by omega⟩
    · have hs := rep_splice n 0 1 p (by omega)
      refine ⟨1, _, run_copy_row (P := Tryz.prog) _ _ _ _ 3 w.heap.size 0 n n ⟨g0, 0, none⟩ 1 1 _ _ (inC (List.replicate 1 p)) rin_under rin_size HR0.out (by rw [show Nat.min 1 n = 1 from Nat.min_eq_left (by omega)]; simp [inC]) (fun j v hv => ?_) (by simp [repL_len, inC]; omega) (rep_one 1 p), ?_, below_setRow (below_alloc w _) (Nat.le_refl _) _, by omega, fun _ => Nat.le_refl _⟩
      · match j, hv with
        | 0, hv =>
          obtain rfl : Value.int .i64 p = v := by simpa [inC] using hv
          exact HC.out
        | j + 1, hv => simp [inC] at hv
      · have := setRow_heap _ w.heap.size _ (splice (repL n 0 p) 0 (inC (List.replicate 1 p))).toArray _ _ HR0.out
        rw [hs] at this
        simpa [splice, ← hs] using this
  have HR1 : Hid (W1.heap[w.heap.size]? = some (.cells (repL n j0 p).toArray 3 (0, 0))) := hr1
  have HB1 : Hid (Below w.heap.size w W1) := hb1
  clear hc hn hr1 hb1
  go_enter Tryz.func70, Tryz.ntmps70
  go_wp2_with (first | (go_at_call 89; refine (MU.out _).mono ?_; rintro e w1 ⟨rfl, rfl⟩))
  rename World => w
  go_loopw [8] (fun vi wr => ∃ j : Nat, j ≤ n ∧ (0 < n → 1 ≤ j) ∧ vi = .int .i64 j ∧ wr.heap[w.heap.size]? = some (.cells (repL n j p).toArray 3 (0, 0)) ∧ Below w.heap.size w wr) (fun vi _ => n - (intOf vi).toNat)
  case atStart => exact ⟨j0, hj0, hj1, rfl, HR1.out, HB1.out⟩
  case round =>
    obtain ⟨j, hjn, hj1', rfl, hrw, hbw⟩ := hrel
    rename World => wr
    have HW : Hid (wr.heap[w.heap.size]? = some (.cells (repL n j p).toArray 3 (0, 0))) := hrw
    have HB : Hid (Below w.heap.size w wr) := hbw
    clear hrw hbw
    by_cases hjl : j < n
    · have k0 : (0 : Int) ≤ (j : Int) := Int.natCast_nonneg _
      have k1 : (j : Int) < (n : Int) := by omega
      have k2 : 1 ≤ j := hj1' (by omega)
      obtain ⟨m, hm⟩ : ∃ m, m = min j (n - j) := ⟨_, rfl⟩
      obtain ⟨X, hX⟩ : ∃ X, X = inC (List.replicate m p) := ⟨_, rfl⟩
      have HX : Hid (X = inC (List.replicate m p)) := hX
      have hm1 : 1 ≤ m := by omega
      have hm2 : j + m ≤ n := by omega
      have HMm : Hid (m = min j (n - j)) := hm
      have hXl : Hid (X.length = m) := by show X.length = m; rw [hX]; simp [inC]
      have m0 : (m : Int) ≤ 1000000 := by have := HN.out; omega
      have hwr : IntKind.i64.wrap ((j : Int) + (m : Int)) = (j : Int) + (m : Int) := wrap_in (by omega) (by have := HN.out; omega)
      clear hm hX
      go_wp2_with fail
      go_region_law (refine step_copy_splice rfl _ _ _ _ rfl 3 rin_under rin_size _ _ _ _ _ _ (by rfl) (by rfl) w.heap.size j (repL n j p) 3 HW.out X (by rw [hXl.out, HMm.out]) (fun _ => ⟨if_neg (by omega), ⟨w.heap.size, 0, none⟩, by rfl, fun i v hv => (by rw [HX.out] at hv; exact copied_cell HW.out HMm.out hv)⟩) (by rw [hXl.out, repL_len n j p (by omega)]; omega) (by rw [HX.out]; exact rep_one m p) w.heap.size w HB.out.drew (Nat.le_refl _) ?_; intro w4 hg4 hb4; rw [hXl.out]; have G4 : Hid (w4.heap[w.heap.size]? = some (.cells (repL n (j + m) p).toArray 3 (0, 0))) := (by have q := hg4.out; rw [HX.out, rep_splice n j m p hm2] at q; exact q); have B4 : Hid (Below w.heap.size w w4) := hb4; clear hg4 hb4)
      all_goals
        go_wp2_with fail
        exact ⟨⟨j + m, hm2, (fun _ => by omega), by go_num, G4.out, B4.out⟩, by simp [intOf]; omega⟩
    · obtain rfl : j = n := by omega
      clear hjl
      go_wp2_with fail
      go_ret
      exact ⟨rfl, rep_own (Nat.le_refl _) HN.out HW.out, HB.out⟩
end Go.Proofs.YtknlapipkglnjaaGreatDoor
