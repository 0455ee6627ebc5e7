/- Layer 2: rows of numbers in memory; play; Ints. -/
import Derived.Test.YtlbfkgecckdlgaaCKinds
import Derived.Deep.QuietTactic
import Derived.BigQuiet
namespace Go.Proofs.Ytlbfkgecckdlgaa
open Go.RowKit

/-- Block bo has room for n numbers; the first m are O's, the others are 0; none is frozen. -/
def IntsTo (w : World) (bo n m : Nat) (O : Nat → Int) : Prop :=
  ∀ j, j < n → w.cell? ⟨bo, j, none⟩ = some (.int .i64 (if j < m then O j else 0)) ∧ w.frozen? ⟨bo, j, none⟩ = false

theorem IntsTo.same {w w' : World} {bo n m : Nat} {O : Nat → Int} (h : IntsTo w bo n m O) (hb : w'.heap[bo]? = w.heap[bo]?) : IntsTo w' bo n m O := by
  intro j hj
  obtain ⟨a, b⟩ := h j hj
  refine ⟨?_, ?_⟩
  · rw [World.cell?_of_block (w := w) (w' := w') (a := ⟨bo, j, none⟩) hb]; exact a
  · rw [World.frozen?_of_block (w := w) (w' := w') (a := ⟨bo, j, none⟩) hb]; exact b
theorem IntsTo.step {w : World} {bo n m : Nat} {O : Nat → Int} (h : IntsTo w bo n m O) (hm : m < n) : IntsTo (w.setCell ⟨bo, m, none⟩ (.int .i64 (O m))) bo n (m + 1) O := by
  intro j hj
  obtain ⟨a, b⟩ := h j hj
  refine ⟨?_, by simpa using b⟩
  by_cases e : j = m
  · subst e
    rw [World.cell?_setCell_same _ _ _ a]
    simp
  · rw [World.cell?_setCell_other _ _ _ _ (fun q => e (congrArg Addr.off q).symm), a]
    by_cases l : j < m
    · rw [if_pos l, if_pos (by omega)]
    · rw [if_neg l, if_neg (by omega)]
theorem IntsTo.made (w : World) (n : Nat) (e : TypeId) (O : Nat → Int) : IntsTo (w.alloc (.cells (madeCells #[.int .i64 0] n) e)) w.heap.size n 0 O := by
  intro j hj
  have c0 : (madeCells #[.int .i64 0] n)[j]? = some (.int .i64 0) := by simp [madeCells, hj, Nat.mod_one]
  refine ⟨?_, by simp⟩
  simp [c0]
theorem IntsTo.done {w : World} {bo n : Nat} {O : Nat → Int} (h : IntsTo w bo n n O) : ∀ j, j < n → w.cell? ⟨bo, j, none⟩ = some (.int .i64 (O j)) := by
  intro j hj
  obtain ⟨a, _⟩ := h j hj
  rw [a, if_pos hj]

/-- A 'make' of n elements whose zero is known by the program's table. -/
theorem run_make_known {P : Program} (t e : TypeId) (z : Value) (sz bytes : Nat) (ht : P.underlying t = some (.slice e)) (hinfo : (P.info? e).map (fun i => (i.zero, i.size, i.bytes)) = some (some z, sz, bytes)) (n : Nat) (hn : bytes * n ≤ 281474976710656) (h63 : n ≤ 9223372036854775807) (w : World) :
    (Instr.makeSlice t (.int .i64 (n : Int)) (.int .i64 (n : Int))).run P w = .ok (.slice (some ⟨w.heap.size, 0, none⟩) n n) (w.alloc (.cells (madeCells z.cells (n * sz)) e)) := by
  obtain ⟨i, hi, he⟩ := Option.map_eq_some_iff.1 hinfo
  simp only [Prod.mk.injEq] at he
  obtain ⟨h1, h2, h3⟩ := he
  subst h2 h3
  have hb : (i.bytes : Int) * (n : Int) ≤ 281474976710656 := by
    have h : ((i.bytes * n : Nat) : Int) ≤ 281474976710656 := by omega
    rwa [Int.natCast_mul] at h
  have h := run_make (P := P) w t e i z ht hi h1 .i64 .i64 (n : Int) (n : Int) (by omega) (Int.le_refl _) hb (by omega)
  simpa using h

/-- n numbers lie in memory. -/
structure NumsAt (w : World) (base : Option Addr) (b o n : Nat) (f : Nat → Int) : Prop where
  base : n ≠ 0 → base = some ⟨b, o, none⟩
  lt : n ≠ 0 → b < w.heap.size
  cells : ∀ i, i < n → w.cell? ⟨b, o + i, none⟩ = some (.int .i64 (f i))
  len : n ≤ maxLen
theorem NumsAt.kp {X : Nat → Prop} {w w' : World} {base : Option Addr} {b o n : Nat} {f : Nat → Int} (h : NumsAt w base b o n f) (hk : Kp X w w') (hX : n ≠ 0 → ¬ X b) : NumsAt w' base b o n f :=
  ⟨h.base, fun hn => Nat.lt_of_lt_of_le (h.lt hn) hk.size, fun i hi => (hk.cell (p := ⟨b, o + i, none⟩) (h.lt (by omega)) (hX (by omega))).trans (h.cells i hi), h.len⟩
theorem NumsAt.below {w w' : World} {base : Option Addr} {b o n : Nat} {f : Nat → Int} (h : NumsAt w base b o n f) (hb : Below w.heap.size w w') : NumsAt w' base b o n f := h.kp (Kp.of_below (X := fun _ => False) hb) (fun _ h => h)

theorem below_drewN {b : Nat} {w w' : World} (h : Below b w w') (n : Nat) : Below b w (w'.drewN n) := ⟨h.os, h.tape, h.output, h.size, h.block⟩

set_option maxRecDepth 100000 in
set_option maxHeartbeats 1000000 in
theorem ints_same (ab ao bb bo n ca cb : Nat) (x y : Option Addr) (f : Nat → Int) (w : World) (h : NumsAt w x ab ao n f) (k : NumsAt w y bb bo n f) :
    Calls Try.prog 16 #[.slice x n ca, .slice y n cb] w fun e w' => e = .returned (.bool true) ∧ Below w.heap.size w w' := by
  have hn := h.len
  unfold maxLen at hn
  have H1 : Hid _ := h
  have H2 : Hid _ := k
  clear h k
  go_enter Try.func16, Try.ntmps16
  go_wp2_with fail
  go_loopw [5] (fun i wr => ∃ j : Nat, j ≤ n ∧ i = .int .i64 j ∧ Below w.heap.size w wr) (fun i _ => n - (intOf i).toNat)
  case atStart => exact ⟨0, Nat.zero_le _, rfl, Below.refl _ _⟩
  case round =>
    obtain ⟨j, hj, rfl, hnx⟩ := hrel
    by_cases hlt : j < n
    · obtain rfl : x = some ⟨ab, ao, none⟩ := H1.out.base (by omega)
      obtain rfl : y = some ⟨bb, bo, none⟩ := H2.out.base (by omega)
      have x0 := (H1.out.below hnx).cells j hlt
      have y0 := (H2.out.below hnx).cells j hlt
      have j0 : (0 : Int) ≤ (j : Int) := Int.natCast_nonneg _
      have j1 : (j : Int) < (n : Int) := by omega
      have HX : Hid _ := hnx
      clear hnx
      go_wp2_with fail
      go_quiet (fail)
      go_wp2
      exact ⟨⟨j + 1, by omega, by go_num, below_drewN HX.out _⟩, by simp [intOf]; omega⟩
    · obtain rfl : j = n := by omega
      go_wp2
      go_ret
      exact ⟨rfl, hnx⟩
end Go.Proofs.Ytlbfkgecckdlgaa
