/- Layer 2: rows of bools in memory, Bools over equal lists. -/
import Derived.Test.YtlbfkgecckdlgaaCInts
namespace Go.Proofs.Ytlbfkgecckdlgaa
open Go.RowKit

theorem bool_info : (Try.prog.info? 4).map (fun i => (i.zero, i.size, i.bytes)) = some (some (.bool false), 1, 1) := by kernel_rfl
theorem bools_under : Try.prog.underlying 92 = some (.slice 4) := by kernel_rfl

/-- Block bo has room for n bools; the first m are O's, the others false; none is frozen. -/
def BoolsTo (w : World) (bo n m : Nat) (O : Nat → Bool) : Prop :=
  ∀ j, j < n → w.cell? ⟨bo, j, none⟩ = some (.bool (if j < m then O j else false)) ∧ w.frozen? ⟨bo, j, none⟩ = false
theorem BoolsTo.same {w w' : World} {bo n m : Nat} {O : Nat → Bool} (h : BoolsTo w bo n m O) (hb : w'.heap[bo]? = w.heap[bo]?) : BoolsTo w' bo n m O := by
  intro j hj
  obtain ⟨a, b⟩ := h j hj
  refine ⟨?_, ?_⟩
  · rw [World.cell?_of_block (w := w) (w' := w') (a := ⟨bo, j, none⟩) hb]; exact a
  · rw [World.frozen?_of_block (w := w) (w' := w') (a := ⟨bo, j, none⟩) hb]; exact b
theorem BoolsTo.step {w : World} {bo n m : Nat} {O : Nat → Bool} (h : BoolsTo w bo n m O) (hm : m < n) : BoolsTo (w.setCell ⟨bo, m, none⟩ (.bool (O m))) bo n (m + 1) O := by
  intro j hj
  obtain ⟨a, b⟩ := h j hj
  refine ⟨?_, by simpa using b⟩
  by_cases e : j = m
  · subst e
    rw [World.cell?_setCell_same _ _ _ a]
    simp
  · rw [World.cell?_setCell_other _ _ _ _ (fun q => e (congrArg Addr.off q).symm), a]
    by_cases l : j < m
    · rw [if_pos l, if_pos (by omega)]
    · rw [if_neg l, if_neg (by omega)]
theorem BoolsTo.made (w : World) (n : Nat) (e : TypeId) (O : Nat → Bool) : BoolsTo (w.alloc (.cells (madeCells #[.bool false] n) e)) w.heap.size n 0 O := by
  intro j hj
  have c0 : (madeCells #[.bool false] n)[j]? = some (.bool false) := by simp [madeCells, hj, Nat.mod_one]
  refine ⟨?_, by simp⟩
  simp [c0]
theorem BoolsTo.done {w : World} {bo n : Nat} {O : Nat → Bool} (h : BoolsTo w bo n n O) : ∀ j, j < n → w.cell? ⟨bo, j, none⟩ = some (.bool (O j)) := by
  intro j hj
  obtain ⟨a, _⟩ := h j hj
  rw [a, if_pos hj]

/-- n bools lie in memory. -/
structure BoolsAt (w : World) (base : Option Addr) (b o n : Nat) (f : Nat → Bool) : Prop where
  base : n ≠ 0 → base = some ⟨b, o, none⟩
  lt : n ≠ 0 → b < w.heap.size
  cells : ∀ i, i < n → w.cell? ⟨b, o + i, none⟩ = some (.bool (f i))
  len : n ≤ maxLen
theorem BoolsAt.kp {X : Nat → Prop} {w w' : World} {base : Option Addr} {b o n : Nat} {f : Nat → Bool} (h : BoolsAt w base b o n f) (hk : Kp X w w') (hX : n ≠ 0 → ¬ X b) : BoolsAt w' base b o n f :=
  ⟨h.base, fun hn => Nat.lt_of_lt_of_le (h.lt hn) hk.size, fun i hi => (hk.cell (p := ⟨b, o + i, none⟩) (h.lt (by omega)) (hX (by omega))).trans (h.cells i hi), h.len⟩
theorem BoolsAt.below {w w' : World} {base : Option Addr} {b o n : Nat} {f : Nat → Bool} (h : BoolsAt w base b o n f) (hb : Below w.heap.size w w') : BoolsAt w' base b o n f := h.kp (Kp.of_below (X := fun _ => False) hb) (fun _ h => h)
theorem BoolsTo.bools {w : World} {b n : Nat} {f : Nat → Bool} (h : BoolsTo w b n n f) (hb : b < w.heap.size) (hn : n ≤ maxLen) : BoolsAt w (some ⟨b, 0, none⟩) b 0 n f :=
  ⟨fun _ => rfl, fun _ => hb, fun i hi => by rw [Nat.zero_add]; exact h.done i hi, hn⟩
theorem owns_bools {w : World} {B n : Nat} {v : Value} {f : Nat → Bool} (h : w.ownsRow B 4 1 v n ((List.range n).map fun j => .bool (f j))) (hn : n ≤ maxLen) : ∃ a c b, v = .slice a n c ∧ BoolsAt w a b 0 n f := by
  obtain ⟨hl, h⟩ := h
  rcases h with ⟨rfl, rfl⟩ | ⟨g, cap, cur, rfl, hg, hh, h1, h2, h3, h4⟩
  · exact ⟨none, 0, 0, rfl, fun h => absurd rfl h, fun h => absurd rfl h, fun i hi => by omega, hn⟩
  · refine ⟨_, _, g, rfl, fun _ => rfl, fun _ => (Array.getElem?_eq_some_iff.1 hh).1, fun i hi => ?_, hn⟩
    have e : (cur.toList.take (n * 1))[i]? = some (.bool (f i)) := by rw [h4]; simp [hi]
    rw [List.getElem?_take, if_pos (by omega)] at e
    rw [Nat.zero_add, ← e]
    simp [World.cell?, hh]

set_option maxRecDepth 100000 in
set_option maxHeartbeats 1000000 in
theorem bools_same (ab ao bb bo n ca cb : Nat) (x y : Option Addr) (f : Nat → Bool) (w : World) (h : BoolsAt w x ab ao n f) (k : BoolsAt w y bb bo n f) :
    Calls Try.prog 45 #[.slice x n ca, .slice y n cb] w fun e w' => e = .returned (.bool true) ∧ Below w.heap.size w w' := by
  have hn := h.len
  unfold maxLen at hn
  have H1 : Hid _ := h
  have H2 : Hid _ := k
  clear h k
  go_enter Try.func45, Try.ntmps45
  go_wp2_with fail
  go_loopw [5] (fun i wr => ∃ j : Nat, j ≤ n ∧ i = .int .i64 j ∧ Below w.heap.size w wr) (fun i _ => n - (intOf i).toNat)
  case atStart => exact ⟨0, Nat.zero_le _, rfl, Below.refl _ _⟩
  case round =>
    obtain ⟨j, hj, rfl, hnx⟩ := hrel
    by_cases hlt : j < n
    · obtain rfl : x = some ⟨ab, ao, none⟩ := H1.out.base (by omega)
      obtain rfl : y = some ⟨bb, bo, none⟩ := H2.out.base (by omega)
      have x0 := (H1.out.below hnx).cells j hlt
      have y0 := (H2.out.below hnx).cells j hlt
      have j0 : (0 : Int) ≤ (j : Int) := Int.natCast_nonneg _
      have j1 : (j : Int) < (n : Int) := by omega
      have HX : Hid _ := hnx
      clear hnx
      go_wp2_with fail
      go_quiet (fail)
      go_wp2
      exact ⟨⟨j + 1, by omega, by go_num, below_drewN HX.out _⟩, by simp [intOf]; omega⟩
    · obtain rfl : j = n := by omega
      go_wp2
      go_ret
      exact ⟨rfl, hnx⟩
end Go.Proofs.Ytlbfkgecckdlgaa
