/- What word's Do and Steps answer for a word of the kind Bool, where no access is refused. -/
import Derived.Test.YtffnoaafmaeihaaGreatEBool
import Derived.Test.YtffnoaafmaeihaaGreatInv
namespace Go.Proofs.YtffnoaafmaeihaaGreat
open Go.RowKit

set_option maxRecDepth 100000 in
set_option maxHeartbeats 2000000 in
theorem Do_5 (start : Int) (hs : U64 start) (ab ao n cap : Nat) (dk da db : Nat → Int) (w : World) (base : Option Addr) (hbase : n ≠ 0 → base = some ⟨ab, ao, none⟩) (hab : n ≠ 0 → ab < w.heap.size)
    (hcells : ∀ i, i < n → w.cell? ⟨ab, ao + i * 3, none⟩ = some (.int .i64 (dk i)) ∧ w.cell? ⟨ab, ao + i * 3 + 1, none⟩ = some (.int .u64 (da i)) ∧ w.cell? ⟨ab, ao + i * 3 + 2, none⟩ = some (.int .u64 (db i)))
    (hU : ∀ i, i < n → U64 (da i) ∧ U64 (db i)) (hn : n ≤ 10000) (hall : allCan 5 dk n = true) :
    Calls Tryz.prog 7 #[.int .i64 5, .int .u64 start, .slice base n cap] w fun e w' => ∃ bo, e = .returned (.tuple #[.slice (some ⟨bo, 0, none⟩) n n, .int .u64 (st 5 start dk da db n), .int .i64 0]) ∧ w.heap.size ≤ bo ∧ bo < w'.heap.size ∧ Below w.heap.size w w' ∧ OutsTo w' bo n n (fun j => ov 5 (st 5 start dk da db j) (dk j) (da j)) (fun j => ok 5 (st 5 start dk da db j) (dk j) (da j)) := by
  have hml : n ≤ maxLen := by unfold maxLen; omega
  have he : Hid (rowErr 5 n dk = 0) := rowErr_none (by decide) (by omega) hall
  have hm := mdo_5
  have hmk := run_make_known (P := Tryz.prog) 29 44 (.agg #[.int .u64 0, .bool false]) 2 16 (by kernel_rfl) (by kernel_rfl) n (by omega) (by omega)
  go_enter Tryz.func7, Tryz.ntmps7
  go_wp2_with (first | (go_at_call 16; refine (rowError_any _ ab ao n cap dk da db _ base hbase hab hcells hml).mono ?_; rw [he.out]; rintro e w1 ⟨rfl, hb1⟩) | (go_at_call 17; refine (newWord_5 start hs _).mono ?_; rintro e w2 ⟨rfl, hb2, hs2, hc2, hz2⟩))
  have hw1 : w.heap.size ≤ w1.heap.size := hb1.size
  have hB2 : Below w.heap.size w w2 := hb1.trans (hb2.mono hw1)
  go_loopw [28] (fun i wr => ∃ k : Nat, k ≤ n ∧ i = .int .i64 k ∧ RowInv 5 w wr w1.heap.size w2.heap.size n k (st 5 start dk da db k) (fun j => ov 5 (st 5 start dk da db j) (dk j) (da j)) (fun j => ok 5 (st 5 start dk da db j) (dk j) (da j))) (fun i _ => n - (intOf i).toNat)
  case atStart =>
    refine ⟨0, Nat.zero_le _, rfl, hB2.alloc hB2.size _, ?_, ?_, OutsTo.made w2 n _ _ _, by simp⟩
    · rw [World.cell?_alloc_past _ _ _ hs2]; exact hc2
    · rw [World.frozen?_alloc_past _ _ _ hs2]; exact hz2
  case round =>
    clear hc2 hz2 hb1 hb2 hB2 hmk he
    obtain ⟨k, hk, rfl, hI⟩ := hrel
    by_cases hlt : k < n
    · have hlt' : (k : Int) < (n : Int) := by omega
      obtain rfl : base = some ⟨ab, ao, none⟩ := hbase (by omega)
      obtain ⟨c0, c1, c2⟩ := hcells k hlt
      obtain ⟨hUa, hUb⟩ := hU k hlt
      have hA : ab < w.heap.size := hab (by omega)
      have d0 : wr.cell? ⟨ab, ao + k * 3, none⟩ = some (.int .i64 (dk k)) := (hI.below.cell (p := ⟨ab, ao + k * 3, none⟩) hA).trans c0
      have d1 : wr.cell? ⟨ab, ao + k * 3 + 1, none⟩ = some (.int .u64 (da k)) := (hI.below.cell (p := ⟨ab, ao + k * 3 + 1, none⟩) hA).trans c1
      have d2 : wr.cell? ⟨ab, ao + k * 3 + 1 + 1, none⟩ = some (.int .u64 (db k)) := (hI.below.cell (p := ⟨ab, ao + k * 3 + 2, none⟩) hA).trans c2
      have hcn := Cn_st (start := start) (da := da) (db := db) hall k (by omega)
      have hcan := allCan_of hall k hlt
      clear hcells c0 c1 c2 hbase hab hU
      go_wp2_with fail
      obtain ⟨g0, g1, g2⟩ := hI.held hs2 (.cells #[.int .i64 (dk k), .int .u64 (da k), .int .u64 (db k)] 42)
      refine (doAny_5 w1.heap.size (st 5 start dk da db k) (dk k) (da k) (db k) _ hcn hcan g0 g1 g2).mono ?_
      rintro e w3 ⟨rfl, hh⟩
      obtain ⟨q0, q1, q2, q3⟩ := hI.room hs2 hlt _ hh
      have hN := hI.next hw1 hs2 hlt _ hh
      clear g0 g1 g2 hcn hcan d0 d1 d2
      have HN : Hid _ := hN
      clear hN hI hh
      go_wp2
      exact ⟨⟨k + 1, by omega, by go_num, HN.out⟩, by simp [intOf]; omega⟩
    · obtain rfl : k = n := by omega
      clear hcells hU hbase hab
      go_wp2_with (first | (go_at_call 18; refine (load_5 w1.heap.size (st 5 start dk da db k) _ (Cn_st hall k (Nat.le_refl _)) hI.cell hI.fro (hI.lt hs2)).mono ?_; rintro e w4 ⟨rfl, hh⟩))
      go_ret3
      refine ⟨w2.heap.size, rfl, by omega, Nat.lt_of_lt_of_le hI.sz hh.off.size, hI.below.trans (hh.off.below hw1 hI.below.size), ?_⟩
      exact hI.outs.same (hh.off.block _ hI.sz (by omega))

set_option maxRecDepth 100000 in
set_option maxHeartbeats 2000000 in
theorem Steps_5 (start : Int) (hs : U64 start) (ab ao n cap : Nat) (dk da db : Nat → Int) (w : World) (base : Option Addr) (hbase : n ≠ 0 → base = some ⟨ab, ao, none⟩) (hab : n ≠ 0 → ab < w.heap.size)
    (hcells : ∀ i, i < n → w.cell? ⟨ab, ao + i * 3, none⟩ = some (.int .i64 (dk i)) ∧ w.cell? ⟨ab, ao + i * 3 + 1, none⟩ = some (.int .u64 (da i)) ∧ w.cell? ⟨ab, ao + i * 3 + 2, none⟩ = some (.int .u64 (db i)))
    (hU : ∀ i, i < n → U64 (da i) ∧ U64 (db i)) (hn : n ≤ 10000) (hall : allCan 5 dk n = true) :
    Calls Tryz.prog 11 #[.int .i64 5, .int .u64 start, .slice base n cap] w fun e w' => ∃ bo, e = .returned (.tuple #[.slice (some ⟨bo, 0, none⟩) n n, .int .i64 0]) ∧ w.heap.size ≤ bo ∧ bo < w'.heap.size ∧ Below w.heap.size w w' ∧ NumsTo w' bo n n (fun j => (st 5 start dk da db (j + 1))) := by
  have hml : n ≤ maxLen := by unfold maxLen; omega
  have he : Hid (rowErr 5 n dk = 0) := rowErr_none (by decide) (by omega) hall
  have hm := mdo_5
  have hmk := run_make_known (P := Tryz.prog) 35 22 (.int .u64 0) 1 8 (by kernel_rfl) (by kernel_rfl) n (by omega) (by omega)
  go_enter Tryz.func11, Tryz.ntmps11
  go_wp2_with (first | (go_at_call 16; refine (rowError_any _ ab ao n cap dk da db _ base hbase hab hcells hml).mono ?_; rw [he.out]; rintro e w1 ⟨rfl, hb1⟩) | (go_at_call 17; refine (newWord_5 start hs _).mono ?_; rintro e w2 ⟨rfl, hb2, hs2, hc2, hz2⟩))
  have hw1 : w.heap.size ≤ w1.heap.size := hb1.size
  have hB2 : Below w.heap.size w w2 := hb1.trans (hb2.mono hw1)
  go_loopw [27] (fun i wr => ∃ k : Nat, k ≤ n ∧ i = .int .i64 k ∧ StepInv 5 w wr w1.heap.size w2.heap.size n k (st 5 start dk da db k) (fun j => (st 5 start dk da db (j + 1)))) (fun i _ => n - (intOf i).toNat)
  case atStart =>
    refine ⟨0, Nat.zero_le _, rfl, hB2.alloc hB2.size _, ?_, ?_, NumsTo.made w2 n _ _, by simp⟩
    · rw [World.cell?_alloc_past _ _ _ hs2]; exact hc2
    · rw [World.frozen?_alloc_past _ _ _ hs2]; exact hz2
  case round =>
    clear hc2 hz2 hb1 hb2 hB2 hmk he
    obtain ⟨k, hk, rfl, hI⟩ := hrel
    by_cases hlt : k < n
    · have hlt' : (k : Int) < (n : Int) := by omega
      obtain rfl : base = some ⟨ab, ao, none⟩ := hbase (by omega)
      obtain ⟨c0, c1, c2⟩ := hcells k hlt
      obtain ⟨hUa, hUb⟩ := hU k hlt
      have hA : ab < w.heap.size := hab (by omega)
      have d0 : wr.cell? ⟨ab, ao + k * 3, none⟩ = some (.int .i64 (dk k)) := (hI.below.cell (p := ⟨ab, ao + k * 3, none⟩) hA).trans c0
      have d1 : wr.cell? ⟨ab, ao + k * 3 + 1, none⟩ = some (.int .u64 (da k)) := (hI.below.cell (p := ⟨ab, ao + k * 3 + 1, none⟩) hA).trans c1
      have d2 : wr.cell? ⟨ab, ao + k * 3 + 1 + 1, none⟩ = some (.int .u64 (db k)) := (hI.below.cell (p := ⟨ab, ao + k * 3 + 2, none⟩) hA).trans c2
      have hcn := Cn_st (start := start) (da := da) (db := db) hall k (by omega)
      have hcan := allCan_of hall k hlt
      clear hcells c0 c1 c2 hbase hab hU
      go_wp2_with fail
      obtain ⟨g0, g1, g2⟩ := hI.held hs2 (.cells #[.int .i64 (dk k), .int .u64 (da k), .int .u64 (db k)] 42)
      refine (doAny_5 w1.heap.size (st 5 start dk da db k) (dk k) (da k) (db k) _ hcn hcan g0 g1 g2).mono ?_
      rintro e w3 ⟨rfl, hh3⟩
      have hcn' : Cn 5 (st 5 start dk da db (k + 1)) := Cn_st hall (k + 1) (by omega)
      have g3 : w1.heap.size < w3.heap.size := hh3.lt g2
      have hc3 := hh3.cell
      have hz3 := hh3.fro
      clear g0 g1 g2 hcn hcan d0 d1 d2
      go_wp2_with fail
      refine (load_5 w1.heap.size (st 5 start dk da db (k + 1)) _ hcn' hc3 hz3 g3).mono ?_
      rintro e w4 ⟨rfl, hh4⟩
      have hh := hh3.trans hh4
      obtain ⟨q0, q1⟩ := hI.room hs2 hlt _ hh
      have hN := hI.next hw1 hs2 hlt _ hh
      have HN : Hid _ := hN
      clear hN hI hh hh3 hh4 hc3 hz3 hcn'
      go_wp2
      exact ⟨⟨k + 1, by omega, by go_num, HN.out⟩, by simp [intOf]; omega⟩
    · obtain rfl : k = n := by omega
      clear hcells hU hbase hab
      go_wp2
      go_ret2
      exact ⟨w2.heap.size, rfl, by omega, hI.sz, hI.below, hI.outs⟩

end Go.Proofs.YtffnoaafmaeihaaGreat
