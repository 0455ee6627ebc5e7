/- Layer 16, pure: a table in form as a tree; its mirror. Layer 17: a Case that is read as data. -/
import Derived.Test.YthdfpddijocfkaaWCopy
import Derived.ProofKit
import Derived.OpenShut
import Derived.Deep.Slices
import Derived.Deep.Strs
import Derived.Lib.SmallJoins
import Derived.Test.YthdfpddijocfkaaTBt2
import Derived.Test.YthdfpddijocfkaaTMir






namespace Go.Proofs.Ythdfpddijocfkaa

open Go.ChangeShapes Go.WideShapes Go.ChangeAt Go.RowKit Go.Deep

theorem own : ownKnob Try.prog.godebug = none := by kernel_rfl
theorem laidOut : laidOutB Try.prog = true := by kernel_rfl
theorem struct6 {P : Program} {H : Type} {enc : TypeId × Value → H} {w : World} {base : Nat} {spare : Nat → Bool} {held : Bool} {t : TypeId} {f0 f1 f2 f3 f4 f5 : Field} {fuel : Nat} {cs : List Value} {x : DataW H × List MemPlace} (ht : P.underlying t = some (.struct #[f0, f1, f2, f3, f4, f5])) (h : DataW.trod enc P w base spare held fuel t cs = some x) :
    ∃ y0 y1 y2 y3 y4 y5 n, cs.length = P.cellsOf t ∧ DataW.trod enc P w base spare held n f0.type ((cs.drop f0.offset).take (P.cellsOf f0.type)) = some y0 ∧
      DataW.trod enc P w base spare held n f1.type ((cs.drop f1.offset).take (P.cellsOf f1.type)) = some y1 ∧ DataW.trod enc P w base spare held n f2.type ((cs.drop f2.offset).take (P.cellsOf f2.type)) = some y2 ∧
      DataW.trod enc P w base spare held n f3.type ((cs.drop f3.offset).take (P.cellsOf f3.type)) = some y3 ∧ DataW.trod enc P w base spare held n f4.type ((cs.drop f4.offset).take (P.cellsOf f4.type)) = some y4 ∧ DataW.trod enc P w base spare held n f5.type ((cs.drop f5.offset).take (P.cellsOf f5.type)) = some y5 := by
  obtain ⟨xs, n, _, rfl, hl, hlen, hf⟩ := DataW.trod_struct ht h
  match xs, hlen with
  | [y0, y1, y2, y3, y4, y5], _ => exact ⟨y0, y1, y2, y3, y4, y5, n, hl, by simpa using hf 0 f0 rfl, by simpa using hf 1 f1 rfl, by simpa using hf 2 f2 rfl, by simpa using hf 3 f3 rfl, by simpa using hf 4 f4 rfl, by simpa using hf 5 f5 rfl⟩
theorem cnd : Try.prog.cellsOf 81 = 6 := by kernel_rfl
theorem ci : Try.prog.cellsOf 3 = 1 := by kernel_rfl
theorem cns : Try.prog.cellsOf 22 = 1 := by kernel_rfl
theorem cis : Try.prog.cellsOf 23 = 1 := by kernel_rfl
theorem bnd : Try.prog.bytesOf 81 = 48 := by kernel_rfl
theorem bin : Try.prog.bytesOf 3 = 8 := by kernel_rfl
section

variable {H : Type} {enc : TypeId × Value → H} {w : World}

theorem open_nd {n : Nat} {cs : List Value} {x : DataW H × List MemPlace} (h : DataW.trod enc Try.prog w 0 (fun _ => true) true n 81 cs = some x) :
    ∃ d : NdD, cs = [.int .i64 d.key, .int .i64 d.inf, .int .i64 d.wt, .int .i64 d.val, .int .i64 d.l, .int .i64 d.r] := by
  obtain ⟨y0, y1, y2, y3, y4, y5, m, hl, g0, g1, g2, g3, g4, g5⟩ := struct6 Try.underlying81 h
  rw [cnd] at hl
  simp only [ci] at g0 g1 g2 g3 g4 g5
  match cs, hl with
  | [v0, v1, v2, v3, v4, v5], _ =>
    simp at g0 g1 g2 g3 g4 g5
    obtain ⟨a0, e0, _, _⟩ := DataW.trod_int Try.underlying3 g0
    obtain ⟨a1, e1, _, _⟩ := DataW.trod_int Try.underlying3 g1
    obtain ⟨a2, e2, _, _⟩ := DataW.trod_int Try.underlying3 g2
    obtain ⟨a3, e3, _, _⟩ := DataW.trod_int Try.underlying3 g3
    obtain ⟨a4, e4, _, _⟩ := DataW.trod_int Try.underlying3 g4
    obtain ⟨a5, e5, _, _⟩ := DataW.trod_int Try.underlying3 g5
    simp at e0 e1 e2 e3 e4 e5
    exact ⟨⟨a0, a1, a2, a3, a4, a5⟩, by rw [e0, e1, e2, e3, e4, e5]⟩
instance : Inhabited NdD := ⟨nd0⟩
theorem ndAt_map (f : Nat → NdD) (n i : Nat) (h : i < n) : ndAt ((List.range n).map f) i = f i := by
  simp [ndAt, List.getD_eq_getElem?_getD, List.getElem?_range h]
theorem open_nodes {n : Nat} {cs : List Value} {x : DataW H × List MemPlace} (h : DataW.trod enc Try.prog w 0 (fun _ => true) true n 22 cs = some x) :
    ∃ (a0 : Option Addr) (cap b o : Nat) (t : NL), cs = [.slice a0 t.length cap] ∧ NodesAt w a0 b o t ∧ (a0 = none → t.length = 0 ∧ cap = 0) ∧ ((x.1.weights Try.prog 22).all (· ≤ reachBytes) = true → t.length * 48 ≤ 140737488351232) := by
  rcases open_slice Try.underlying22 h with ⟨hcs, _⟩ | ⟨a, len, cap, m, n, D, Pl, hcs, _, hl, hm, hme, hx, hel⟩
  · exact ⟨none, 0, 0, 0, [], by simpa using hcs, ⟨fun h => absurd rfl h, fun h => absurd rfl h, fun i hi => by simp at hi, by simp⟩, fun _ => ⟨rfl, rfl⟩, fun _ => by simp⟩
  · simp at hme
    subst hme
    have hw : ∀ k, k ≤ len → (x.1.weights Try.prog 22).all (· ≤ reachBytes) = true → k * 48 ≤ 140737488351232 := by
      intro k hk hwt
      rw [hx] at hwt
      simp only [DataW.weights, Try.underlying22, bnd, List.all_cons, Bool.and_eq_true, decide_eq_true_eq] at hwt
      have := hwt.1
      simp [reachBytes] at this
      omega
    by_cases hlen : len = 0
    · subst hlen
      exact ⟨some a, m, 0, 0, [], hcs, ⟨fun h => absurd rfl h, fun h => absurd rfl h, fun i hi => by simp at hi, by simp⟩, (fun h => by cases h), fun _ => by simp⟩
    · have key : ∀ i, i < m → ∃ d : NdD, w.cell? (a.add (i * 6)) = some (.int .i64 d.key) ∧ w.cell? (a.add (i * 6 + 1)) = some (.int .i64 d.inf) ∧ w.cell? (a.add (i * 6 + 2)) = some (.int .i64 d.wt) ∧ w.cell? (a.add (i * 6 + 3)) = some (.int .i64 d.val) ∧ w.cell? (a.add (i * 6 + 4)) = some (.int .i64 d.l) ∧ w.cell? (a.add (i * 6 + 5)) = some (.int .i64 d.r) := by
        intro i hi
        obtain ⟨cs, h1, h2⟩ := hel i hi
        obtain ⟨d, rfl⟩ := open_nd h2
        rw [cnd] at h1
        obtain ⟨_, _, hcell⟩ := World.cells?_some h1
        have e0 := hcell 0 (by omega)
        have e1 := hcell 1 (by omega)
        have e2 := hcell 2 (by omega)
        have e3 := hcell 3 (by omega)
        have e4 := hcell 4 (by omega)
        have e5 := hcell 5 (by omega)
        rw [Deep.add_add] at e0 e1 e2 e3 e4 e5
        exact ⟨d, by simpa using e0, by simpa using e1, by simpa using e2, by simpa using e3, by simpa using e4, by simpa using e5⟩
      obtain ⟨f, hf⟩ := choose_lt key
      obtain ⟨b, o, s⟩ := a
      have hs : s = none := by
        have := (hf 0 (by omega)).1
        simpa [Addr.add] using World.cell?_spot this
      subst hs
      simp only [addr_add'] at hf
      have e : ((List.range len).map f).length = len := by simp
      refine ⟨_, m, b, o, (List.range len).map f, by rw [e]; exact hcs, ⟨fun _ => rfl, fun _ => ?_, fun i hi => ?_, by simp; omega⟩, (fun h => by cases h), fun hwt => by rw [e]; exact hw len (Nat.le_refl _) hwt⟩
      · exact World.block_lt_of_cell? w _ (hf 0 (by omega)).1
      · simp at hi
        rw [ndAt_map f len i hi]
        have := hf i (by omega)
        simpa [Nat.add_assoc] using this
theorem open_ws {n : Nat} {cs : List Value} {x : DataW H × List MemPlace} (h : DataW.trod enc Try.prog w 0 (fun _ => true) true n 23 cs = some x) :
    ∃ (a0 : Option Addr) (cap g o : Nat) (L : List Int), cs = [.slice a0 L.length cap] ∧ WsAt w a0 g o L ∧ (a0 = none → L.length = 0 ∧ cap = 0) ∧ ((x.1.weights Try.prog 23).all (· ≤ reachBytes) = true → L.length * 8 ≤ 140737488351232) := by
  rcases open_slice Try.underlying23 h with ⟨hcs, _⟩ | ⟨a, len, cap, m, n, D, Pl, hcs, _, hl, hm, hme, hx, hel⟩
  · exact ⟨none, 0, 0, 0, [], by simpa using hcs, ⟨fun h => absurd rfl h, fun h => absurd rfl h, fun i hi => by simp at hi, by simp⟩, fun _ => ⟨rfl, rfl⟩, fun _ => by simp⟩
  · simp at hme
    subst hme
    have hw : ∀ k, k ≤ len → (x.1.weights Try.prog 23).all (· ≤ reachBytes) = true → k * 8 ≤ 140737488351232 := by
      intro k hk hwt
      rw [hx] at hwt
      simp only [DataW.weights, Try.underlying23, bin, List.all_cons, Bool.and_eq_true, decide_eq_true_eq] at hwt
      have := hwt.1
      simp [reachBytes] at this
      omega
    by_cases hlen : len = 0
    · subst hlen
      exact ⟨some a, m, 0, 0, [], hcs, ⟨fun h => absurd rfl h, fun h => absurd rfl h, fun i hi => by simp at hi, by simp⟩, (fun h => by cases h), fun _ => by simp⟩
    · have key : ∀ i, i < m → ∃ d : Int, w.cell? (a.add i) = some (.int .i64 d) := by
        intro i hi
        obtain ⟨cs, h1, h2⟩ := hel i hi
        rw [ci] at h1
        obtain ⟨a0, e0, _, _⟩ := DataW.trod_int Try.underlying3 h2
        subst e0
        obtain ⟨_, _, hcell⟩ := World.cells?_some h1
        have e0 := hcell 0 (by omega)
        rw [Deep.add_add] at e0
        exact ⟨a0, by simpa using e0⟩
      obtain ⟨f, hf⟩ := choose_lt key
      obtain ⟨b, o, s⟩ := a
      have hs : s = none := by
        have := hf 0 (by omega)
        simpa [Addr.add] using World.cell?_spot this
      subst hs
      simp only [addr_add'] at hf
      have e : ((List.range len).map f).length = len := by simp
      refine ⟨_, m, b, o, (List.range len).map f, by rw [e]; exact hcs, ⟨fun _ => rfl, fun _ => ?_, fun i hi => ?_, by simp; omega⟩, (fun h => by cases h), fun hwt => by rw [e]; exact hw len (Nat.le_refl _) hwt⟩
      · exact World.block_lt_of_cell? w _ (hf 0 (by omega))
      · simp at hi
        rw [hf i (by omega)]
        simp [List.getD_eq_getElem?_getD, List.getElem?_range hi]
end

end Go.Proofs.Ythdfpddijocfkaa


namespace Go.Proofs.Ythdfpddijocfkaa

theorem form_abs {t : NL} (hf : InForm t) : ∃ b, Abs t 0 b ∧ b.size = t.length ∧ b.ok := by
  obtain ⟨L, h1, -, h3⟩ := hf.tree
  obtain ⟨b, hb, hs⟩ := h1.abs
  exact ⟨b, hb, by omega, abs_ok hf hb⟩
theorem form_abs_at {t : NL} (hf : InForm t) {x : Nat} (hx : x < t.length) : ∃ b, Abs t x b ∧ b.size ≤ t.length ∧ b.ok := by
  obtain ⟨M, h1, -, h3, -⟩ := form_at hf x hx
  obtain ⟨b, hb, hs⟩ := h1.abs
  exact ⟨b, hb, by omega, abs_ok hf hb⟩
theorem mir_abs {t : NL} {p : Nat} {b : BT} (h : Abs t p b) : Abs (mirL t) p b.mir := by
  induction h with
  | @leaf p hp hl hr =>
    have e := mirL_at t p hp
    have := Abs.leaf (t := mirL t) (p := p) (by rw [mirL_length]; exact hp) (by rw [e]; exact hr) (by rw [e]; exact hl)
    rw [e] at this
    exact this
  | @node p l r a b hp hl hr _ _ ih1 ih2 =>
    have e := mirL_at t p hp
    have := Abs.node (t := mirL t) (p := p) (by rw [mirL_length]; exact hp) (by rw [e]; exact hr) (by rw [e]; exact hl) ih2 ih1
    rw [e] at this
    exact this
end Go.Proofs.Ythdfpddijocfkaa
