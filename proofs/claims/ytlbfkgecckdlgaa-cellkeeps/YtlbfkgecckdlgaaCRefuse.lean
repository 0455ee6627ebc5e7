/- Layer 2: firstRefused with Nums' own test. -/
import Derived.Test.YtlbfkgecckdlgaaCRow
namespace Go.Proofs.Ytlbfkgecckdlgaa
open Go.RowKit

set_option maxRecDepth 100000 in
set_option maxHeartbeats 400000 in
theorem nums1_any (d i a c : Int) (vb : Nat) (bs : Option Addr) (m cp : Nat) (w : World) (hv : w.cell? ⟨vb, 0, none⟩ = some (.slice bs m cp)) (hvb : vb < w.heap.size) :
    Calls Try.prog 53 #[.agg #[.int .i64 d, .int .i64 i, .int .i64 a, .int .i64 c], .pointer (some ⟨vb, 0, none⟩)] w fun e w' => e = .returned (.int .i64 (nmErr d i m)) ∧ Below w.heap.size w w' := by
  have hB : Below w.heap.size w (w.alloc (.cells #[.int .i64 d, .int .i64 i, .int .i64 a, .int .i64 c] 36)) := (Below.refl _ _).alloc (Nat.le_refl _) _
  have HB : Hid _ := hB
  have n1 : ¬ vb = w.heap.size := by omega
  clear hB
  go_enter Try.func53, Try.ntmps53
  go_wp2_with (first | (go_at_call 54; refine (numError_any _ _ _ _ _ _).mono ?_; rintro e w1 ⟨rfl, hb1⟩))
  go_ret
  exact ⟨rfl, HB.out.trans (hb1.mono HB.out.size)⟩

set_option maxRecDepth 100000 in
set_option maxHeartbeats 1000000 in
theorem refused_nums (vb : Nat) (bs : Option Addr) (m cp : Nat) (ab ao n cap : Nat) (dk di da db : Nat → Int) (w : World) (base : Option Addr) (h : CActs w base ab ao n dk di da db) (hv : w.cell? ⟨vb, 0, none⟩ = some (.slice bs m cp)) (hvb : vb < w.heap.size) :
    Calls Try.prog 52 #[.slice base n cap, .func (.func 53) #[] #[.pointer (some ⟨vb, 0, none⟩)]] w fun e w' => e = .returned (.int .i64 (frst (fun j => nmErr (dk j) (di j) m) n)) ∧ Below w.heap.size w w' := by
  have hn := h.len
  unfold maxLen at hn
  go_enter Try.func52, Try.ntmps52
  go_wp2_with fail
  go_loopw [10] (fun i wr => ∃ j : Nat, j ≤ n ∧ i = .int .i64 j ∧ Below w.heap.size w wr ∧ frst (fun j => nmErr (dk j) (di j) m) j = 0) (fun i _ => n - (intOf i).toNat)
  case atStart => exact ⟨0, Nat.zero_le _, rfl, Below.refl _ _, rfl⟩
  case round =>
    obtain ⟨j, hj, rfl, hnx, hall⟩ := hrel
    by_cases hlt : j < n
    · obtain rfl : base = some ⟨ab, ao, none⟩ := h.base (by omega)
      obtain ⟨c0, c1, c2, c3⟩ := h.cells j hlt
      have hA : ab < w.heap.size := h.lt (by omega)
      have d0 : wr.cell? ⟨ab, ao + j * 4, none⟩ = some (.int .i64 (dk j)) := (hnx.cell (p := ⟨ab, ao + j * 4, none⟩) hA).trans c0
      have d1 : wr.cell? ⟨ab, ao + j * 4 + 1, none⟩ = some (.int .i64 (di j)) := (hnx.cell (p := ⟨ab, ao + j * 4 + 1, none⟩) hA).trans c1
      have d2 : wr.cell? ⟨ab, ao + j * 4 + 1 + 1, none⟩ = some (.int .i64 (da j)) := (hnx.cell (p := ⟨ab, ao + j * 4 + 2, none⟩) hA).trans c2
      have d3 : wr.cell? ⟨ab, ao + j * 4 + 1 + 1 + 1, none⟩ = some (.int .i64 (db j)) := (hnx.cell (p := ⟨ab, ao + j * 4 + 3, none⟩) hA).trans c3
      have hv1 := ((hnx.alloc hnx.size (.cells #[.int .i64 (dk j), .int .i64 (di j), .int .i64 (da j), .int .i64 (db j)] 36)).cell (p := ⟨vb, 0, none⟩) hvb).trans hv
      have hvr : vb < wr.heap.size := Nat.lt_of_lt_of_le hvb hnx.size
      have HC : Hid _ := nums1_any (dk j) (di j) (da j) (db j) vb bs m cp (wr.alloc (.cells #[.int .i64 (dk j), .int .i64 (di j), .int .i64 (da j), .int .i64 (db j)] 36)) hv1 (by simp; omega)
      have HF : Hid _ := fun (hne : nmErr (dk j) (di j) m ≠ 0) => frst_at (f := fun j => nmErr (dk j) (di j) m) hall hne hlt
      clear c0 c1 c2 c3 hv1 h
      go_wp2_with (first | (go_at_call 53; refine Calls.mono HC.out ?_; rintro e w1 ⟨rfl, hb1⟩; have hB1 : Below w.heap.size w w1 := (hnx.alloc hnx.size _).trans (hb1.mono (hnx.alloc hnx.size _).size)))
      · have hne : nmErr (dk j) (di j) m ≠ 0 := by simpa using ‹(nmErr (dk j) (di j) m != 0) = true›
        have e := HF.out hne
        go_ret
        exact ⟨by rw [e]; rfl, hB1⟩
      · have hz : nmErr (dk j) (di j) m = 0 := by simpa using ‹(nmErr (dk j) (di j) m != 0) = false›
        exact ⟨⟨j + 1, by omega, by go_num, hB1, by simp [frst, hall, hz]⟩, by simp [intOf]; omega⟩
    · have hjn : j = n := by omega
      subst hjn
      have he : Hid _ := hall
      clear hall
      go_wp2
      go_ret
      exact ⟨by rw [he.out]; rfl, hnx⟩
end Go.Proofs.Ytlbfkgecckdlgaa
