/- cmp.Compare at numbers. Rows of cells, for the sorting of pairs in the model's seat: what ERow, ECallsP, ESpans and EDel hold in layer 5's. -/
import Derived.Test.YtljidfaeljpnpaaMG4
import Derived.Test.YtljidfaeljpnpaaMT3
import Derived.Deep.AppendLies
import Derived.Deep.QuietTactic
import Derived.BigQuiet
import Derived.Laws.MakeOwn
import Derived.Laws.StructEq
import Derived.Laws.OwnMore
import Derived.Deep.DrawnRows
import Derived.Lib.SliceRun
import Derived.Laws.IdiomCopy
import Derived.Test.YtljidfaeljpnpaaSPure











namespace Go.Proofs.Ytljidfaeljpnpaa

open Go.RowKit

/-- A row of n cells in block g, which may be written. -/
def ValsM (w : World) (g n : Nat) (f : Nat → Value) : Prop := ∀ j, j < n → w.cell? ⟨g, j, none⟩ = some (f j) ∧ w.frozen? ⟨g, j, none⟩ = false
theorem ValsM.below {w w' : World} {g n : Nat} {f : Nat → Value} (h : ValsM w g n f) (hg : g < w.heap.size) (hb : Below w.heap.size w w') : ValsM w' g n f :=
  fun j hj => ⟨(hb.cell (p := ⟨g, j, none⟩) hg).trans (h j hj).1, (hb.frozen (p := ⟨g, j, none⟩) hg).trans (h j hj).2⟩
def putVM (f : Nat → Value) (k : Nat) (v : Value) : Nat → Value := fun x => if x = k then v else f x
theorem putV_sameM (f : Nat → Value) (k : Nat) (v : Value) : putVM f k v k = v := by simp [putVM]
theorem putV_otherM (f : Nat → Value) (k x : Nat) (v : Value) (h : x ≠ k) : putVM f k v x = f x := by simp [putVM, h]
theorem ValsM.set {w : World} {g n : Nat} {f : Nat → Value} (h : ValsM w g n f) (k : Nat) (v : Value) : ValsM (w.setCell ⟨g, k, none⟩ v) g n (putVM f k v) := by
  intro j hj
  obtain ⟨a, b⟩ := h j hj
  refine ⟨?_, by simpa using b⟩
  by_cases e : j = k
  · subst e
    rw [putV_sameM]
    exact World.cell?_setCell_same _ _ _ (by rw [a])
  · rw [putV_otherM _ _ _ _ e, World.cell?_setCell_other _ _ _ _ (fun q => e (congrArg Addr.off q).symm), a]
def setManyM (g : Nat) : World → Nat → List Value → World
  | W, _, [] => W
  | W, b, v :: t => setManyM g (W.setCell ⟨g, b, none⟩ v) (b + 1) t
theorem setMany_belowM {g B : Nat} {w : World} (hg : B ≤ g) : ∀ (vs : List Value) {W : World} {b : Nat}, Below B w W → Below B w (setManyM g W b vs)
  | [], _, _, h => h
  | v :: t, _, _, h => setMany_belowM hg t (h.setCell (by simpa using hg) v)
theorem setMany_sizeM {g : Nat} : ∀ (vs : List Value) (W : World) (b : Nat), (setManyM g W b vs).heap.size = W.heap.size
  | [], _, _ => rfl
  | v :: t, W, b => by show (setManyM g (W.setCell ⟨g, b, none⟩ v) (b + 1) t).heap.size = _; rw [setMany_sizeM t]; simp
def putManyM : (Nat → Value) → Nat → List Value → (Nat → Value)
  | F, _, [] => F
  | F, b, v :: t => putManyM (putVM F b v) (b + 1) t
theorem setMany_valsM {g n : Nat} : ∀ (vs : List Value) {W : World} {b : Nat} {F : Nat → Value}, ValsM W g n F → ValsM (setManyM g W b vs) g n (putManyM F b vs)
  | [], _, _, _, h => h
  | v :: t, _, _, _, h => setMany_valsM t (h.set _ v)
theorem putMany_outM : ∀ (vs : List Value) {b x : Nat} {F : Nat → Value}, (x < b ∨ b + vs.length ≤ x) → putManyM F b vs x = F x
  | [], _, _, _, _ => rfl
  | v :: t, b, x, F, h => by
    simp only [List.length_cons] at h
    show putManyM (putVM F b v) (b + 1) t x = _
    rw [putMany_outM t (by omega), putV_otherM _ _ _ _ (by omega)]
theorem putMany_inM : ∀ (vs : List Value) {b i : Nat} {F : Nat → Value}, i < vs.length → some (putManyM F b vs (b + i)) = vs[i]?
  | [], _, _, _, h => by simp at h
  | v :: t, b, 0, F, _ => by
    show some (putManyM (putVM F b v) (b + 1) t (b + 0)) = _
    rw [putMany_outM t (by omega), Nat.add_zero, putV_sameM]; rfl
  | v :: t, b, i + 1, F, h => by
    have ih := putMany_inM t (b := b + 1) (i := i) (F := putVM F b v) (by simpa using h)
    show some (putManyM (putVM F b v) (b + 1) t (b + (i + 1))) = _
    rw [show b + (i + 1) = b + 1 + i by omega, ih]; rfl
theorem below_drewNM {B : Nat} {w w' : World} (h : Below B w w') (n : Nat) : Below B w (w'.drewN n) := ⟨h.os, h.tape, h.output, h.size, h.block⟩
theorem run_clear_twoM {P : Program} (w : World) (t e ty : TypeId) (ht : P.underlying t = some (.slice e)) (hv : ∀ w, (zeroValue e).run P w = .ok (.agg #[.int .i64 0, .int .i64 0]) w) (b o n c : Nat) (hn : 0 < n)
    (hc : ∀ j, j < n * 2 → (w.cell? ⟨b, o + j, none⟩).isSome = true) (hf : ∀ j, j < n * 2 → w.frozen? ⟨b, o + j, none⟩ = false) :
    (Builtin.clear_ #[t] ty #[.slice (some ⟨b, o, none⟩) n c]).run P w = .ok (.tuple #[]) (w.setCells b o (List.replicate (n * 2) (.int .i64 0))) := by
  have hzc : (Builtin.zeroCells (Value.agg #[.int .i64 0, .int .i64 0]).cells n).toList = List.replicate (n * 2) (.int .i64 0) := by
    have hcs : (Value.agg #[.int .i64 0, .int .i64 0]).cells = #[.int .i64 0, .int .i64 0] := rfl
    rw [hcs]
    simp [Builtin.zeroCells]
    apply List.ext_getElem
    · simp
    · intro i h1 h2
      have hm : i % 2 = 0 ∨ i % 2 = 1 := by omega
      rcases hm with q | q <;> simp [q]
  have hst := run_storeCells_cells (P := P) b o (List.replicate (n * 2) (.int .i64 0)) 0 w (by simpa using hc) (by simpa using hf) (by intro v hv'; rw [List.eq_of_mem_replicate hv']; rfl)
  simp only [Nat.add_zero] at hst
  obtain ⟨m, rfl⟩ : ∃ m, n = m + 1 := ⟨n - 1, by omega⟩
  simp [Builtin.clear_, run_underlying ht, hv, hzc, hst]
theorem below_setCellsM {B : Nat} {w0 : World} (g : Nat) (hg : B ≤ g) : ∀ (vs : List Value) (o : Nat) (w : World), Below B w0 w → Below B w0 (w.setCells g o vs)
  | [], _, _, h => h
  | v :: vs, o, w, h => below_setCellsM g hg vs (o + 1) _ (h.setCell (by simpa using hg) v)
end Go.Proofs.Ytljidfaeljpnpaa

namespace Go.Proofs.Ytljidfaeljpnpaa

open Go.RowKit

theorem nanS_any (a : Int) (w : World) : Calls Try.prog 84 #[.int .i64 a] w fun e w' => e = .returned (.bool false) ∧ w = w' := by
  go_enter Try.func84, Try.ntmps84
  go_wp2_with fail
  go_ret
  exact ⟨by simp, rfl⟩
def cmpS (a b : Int) : Int := if a < b then -1 else if b < a then 1 else 0
theorem cmpS_any (a b : Int) (w : World) : Calls Try.prog 71 #[.int .i64 a, .int .i64 b] w fun e w' => e = .returned (.int .i64 (cmpS a b)) ∧ w = w' := by
  unfold cmpS
  by_cases h1 : a < b
  · rw [if_pos h1]
    go_enter Try.func71, Try.ntmps71
    go_wp2_with fail
    refine (nanS_any a _).mono ?_
    rintro e w1 ⟨rfl, rfl⟩
    go_wp2_with fail
    refine (nanS_any b _).mono ?_
    rintro e w1 ⟨rfl, rfl⟩
    go_wp2_with fail
    go_ret
    exact ⟨rfl, rfl⟩
  · rw [if_neg h1]
    by_cases h2 : b < a
    · rw [if_pos h2]
      go_enter Try.func71, Try.ntmps71
      go_wp2_with fail
      refine (nanS_any a _).mono ?_
      rintro e w1 ⟨rfl, rfl⟩
      go_wp2_with fail
      refine (nanS_any b _).mono ?_
      rintro e w1 ⟨rfl, rfl⟩
      go_wp2_with fail
      go_ret
      exact ⟨rfl, rfl⟩
    · rw [if_neg h2]
      go_enter Try.func71, Try.ntmps71
      go_wp2_with fail
      refine (nanS_any a _).mono ?_
      rintro e w1 ⟨rfl, rfl⟩
      go_wp2_with fail
      refine (nanS_any b _).mono ?_
      rintro e w1 ⟨rfl, rfl⟩
      go_wp2_with fail
      go_ret
      exact ⟨rfl, rfl⟩
theorem cmpS_neg {a b : Int} : cmpS a b < 0 ↔ a < b := by unfold cmpS; split <;> (try split) <;> omega
end Go.Proofs.Ytljidfaeljpnpaa
