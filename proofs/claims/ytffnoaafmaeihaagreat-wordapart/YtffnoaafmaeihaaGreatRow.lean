/- What word's Do and Steps answer, whatever the kind and the accesses. -/
import Derived.Test.YtffnoaafmaeihaaGreatFint32
import Derived.Test.YtffnoaafmaeihaaGreatFint64
import Derived.Test.YtffnoaafmaeihaaGreatFuint32
import Derived.Test.YtffnoaafmaeihaaGreatFuint64
import Derived.Test.YtffnoaafmaeihaaGreatFuintptr
import Derived.Test.YtffnoaafmaeihaaGreatFBool
namespace Go.Proofs.YtffnoaafmaeihaaGreat
open Go.RowKit

/-- A slice of n accesses lies in memory. -/
structure Acts (w : World) (base : Option Addr) (ab ao n : Nat) (dk da db : Nat → Int) : Prop where
  base : n ≠ 0 → base = some ⟨ab, ao, none⟩
  lt : n ≠ 0 → ab < w.heap.size
  cells : ∀ i, i < n → w.cell? ⟨ab, ao + i * 3, none⟩ = some (.int .i64 (dk i)) ∧ w.cell? ⟨ab, ao + i * 3 + 1, none⟩ = some (.int .u64 (da i)) ∧ w.cell? ⟨ab, ao + i * 3 + 2, none⟩ = some (.int .u64 (db i))
  u64 : ∀ i, i < n → U64 (da i) ∧ U64 (db i)
  len : n ≤ maxLen

theorem Acts.below {w w' : World} {base : Option Addr} {ab ao n : Nat} {dk da db : Nat → Int} (h : Acts w base ab ao n dk da db) (hb : Below w.heap.size w w') : Acts w' base ab ao n dk da db := by
  refine ⟨h.base, fun hn => Nat.lt_of_lt_of_le (h.lt hn) hb.size, fun i hi => ?_, h.u64, h.len⟩
  obtain ⟨a, b, c⟩ := h.cells i hi
  have hl := h.lt (by omega)
  exact ⟨(hb.cell (p := ⟨ab, ao + i * 3, none⟩) hl).trans a, (hb.cell (p := ⟨ab, ao + i * 3 + 1, none⟩) hl).trans b, (hb.cell (p := ⟨ab, ao + i * 3 + 2, none⟩) hl).trans c⟩

theorem rowErr_zero {k : Int} {n : Nat} {dk : Nat → Int} (h : rowErr k n dk = 0) : isK k = true ∧ n ≤ 10000 ∧ allCan k dk n = true := by
  unfold rowErr at h
  split at h
  · rename_i h1
    split at h
    · cases h
    · rename_i h2
      split at h
      · rename_i h3; exact ⟨h1, by omega, h3⟩
      · cases h
  · cases h

theorem Do_ok (k start : Int) (hs : U64 start) (ab ao n cap : Nat) (dk da db : Nat → Int) (w : World) (base : Option Addr) (h : Acts w base ab ao n dk da db) (he : rowErr k n dk = 0) :
    Calls Tryz.prog 7 #[.int .i64 k, .int .u64 start, .slice base n cap] w fun e w' => ∃ bo, e = .returned (.tuple #[.slice (some ⟨bo, 0, none⟩) n n, .int .u64 (st k start dk da db n), .int .i64 0]) ∧ w.heap.size ≤ bo ∧ bo < w'.heap.size ∧ Below w.heap.size w w' ∧ OutsTo w' bo n n (fun j => ov k (st k start dk da db j) (dk j) (da j)) (fun j => ok k (st k start dk da db j) (dk j) (da j)) := by
  obtain ⟨h1, h2, h3⟩ := rowErr_zero he
  rcases isK_cases h1 with rfl | rfl | rfl | rfl | rfl | rfl
  · exact Do_1 start hs ab ao n cap dk da db w base h.base h.lt h.cells h.u64 h2 h3
  · exact Do_2 start hs ab ao n cap dk da db w base h.base h.lt h.cells h.u64 h2 h3
  · exact Do_3 start hs ab ao n cap dk da db w base h.base h.lt h.cells h.u64 h2 h3
  · exact Do_4 start hs ab ao n cap dk da db w base h.base h.lt h.cells h.u64 h2 h3
  · exact Do_5 start hs ab ao n cap dk da db w base h.base h.lt h.cells h.u64 h2 h3
  · exact Do_6 start hs ab ao n cap dk da db w base h.base h.lt h.cells h.u64 h2 h3

theorem Steps_ok (k start : Int) (hs : U64 start) (ab ao n cap : Nat) (dk da db : Nat → Int) (w : World) (base : Option Addr) (h : Acts w base ab ao n dk da db) (he : rowErr k n dk = 0) :
    Calls Tryz.prog 11 #[.int .i64 k, .int .u64 start, .slice base n cap] w fun e w' => ∃ bo, e = .returned (.tuple #[.slice (some ⟨bo, 0, none⟩) n n, .int .i64 0]) ∧ w.heap.size ≤ bo ∧ bo < w'.heap.size ∧ Below w.heap.size w w' ∧ NumsTo w' bo n n (fun j => st k start dk da db (j + 1)) := by
  obtain ⟨h1, h2, h3⟩ := rowErr_zero he
  rcases isK_cases h1 with rfl | rfl | rfl | rfl | rfl | rfl
  · exact Steps_1 start hs ab ao n cap dk da db w base h.base h.lt h.cells h.u64 h2 h3
  · exact Steps_2 start hs ab ao n cap dk da db w base h.base h.lt h.cells h.u64 h2 h3
  · exact Steps_3 start hs ab ao n cap dk da db w base h.base h.lt h.cells h.u64 h2 h3
  · exact Steps_4 start hs ab ao n cap dk da db w base h.base h.lt h.cells h.u64 h2 h3
  · exact Steps_5 start hs ab ao n cap dk da db w base h.base h.lt h.cells h.u64 h2 h3
  · exact Steps_6 start hs ab ao n cap dk da db w base h.base h.lt h.cells h.u64 h2 h3

theorem Do_err (k start : Int) (ab ao n cap : Nat) (dk da db : Nat → Int) (w : World) (base : Option Addr) (h : Acts w base ab ao n dk da db) (he : ¬ rowErr k n dk = 0) :
    Calls Tryz.prog 7 #[.int .i64 k, .int .u64 start, .slice base n cap] w fun e w' => e = .returned (.tuple #[.slice none 0 0, .int .u64 0, .int .i64 (rowErr k n dk)]) ∧ Below w.heap.size w w' := by
  have hc := rowError_any k ab ao n cap dk da db w base h.base h.lt h.cells h.len
  generalize rowErr k n dk = E at hc he ⊢
  have he' : (E != 0) = true := by simp [he]
  have HC : Hid _ := hc
  clear hc h he
  go_enter Tryz.func7, Tryz.ntmps7
  go_wp2_with (first | (go_at_call 16; refine Calls.mono (Hid.out HC) ?_; rintro e w1 ⟨rfl, hb1⟩))
  go_ret3
  exact ⟨rfl, hb1⟩

theorem Steps_err (k start : Int) (ab ao n cap : Nat) (dk da db : Nat → Int) (w : World) (base : Option Addr) (h : Acts w base ab ao n dk da db) (he : ¬ rowErr k n dk = 0) :
    Calls Tryz.prog 11 #[.int .i64 k, .int .u64 start, .slice base n cap] w fun e w' => e = .returned (.tuple #[.slice none 0 0, .int .i64 (rowErr k n dk)]) ∧ Below w.heap.size w w' := by
  have hc := rowError_any k ab ao n cap dk da db w base h.base h.lt h.cells h.len
  generalize rowErr k n dk = E at hc he ⊢
  have he' : (E != 0) = true := by simp [he]
  have HC : Hid _ := hc
  clear hc h he
  go_enter Tryz.func11, Tryz.ntmps11
  go_wp2_with (first | (go_at_call 16; refine Calls.mono (Hid.out HC) ?_; rintro e w1 ⟨rfl, hb1⟩))
  go_ret2
  exact ⟨rfl, hb1⟩

/-- A slice of one access that was just laid. -/
theorem Acts.one (w : World) (d a b : Int) (ha : U64 a) (hb : U64 b) (t : TypeId) : Acts (w.alloc (.cells #[.int .i64 d, .int .u64 a, .int .u64 b] t)) (some ⟨w.heap.size, 0, none⟩) w.heap.size 0 1 (fun _ => d) (fun _ => a) (fun _ => b) := by
  refine ⟨fun _ => rfl, fun _ => by simp, fun i hi => ?_, fun _ _ => ⟨ha, hb⟩, by unfold maxLen; omega⟩
  obtain rfl : i = 0 := by omega
  simp
theorem Acts.none (w : World) : Acts w none 0 0 0 (fun _ => 0) (fun _ => 0) (fun _ => 0) :=
  ⟨fun h => absurd rfl h, fun h => absurd rfl h, fun i hi => by omega, fun i hi => by omega, by unfold maxLen; omega⟩

end Go.Proofs.YtffnoaafmaeihaaGreat
