
/- A slice of nodes that is read as data; the library's variables, as a row lists them. -/

import Derived.Test.YtegajbfefhljmaaDoorTKnow

import Derived.Test.YtegajbfefhljmaaDoorTie

import Derived.Test.YtegajbfefhljmaaDoorCards

import Derived.ProofKit

import Derived.OpenShut

import Derived.Deep.Slices

import Derived.Deep.Strs

import Derived.LaidMore

import Derived.Lay

import Derived.SevenTiedAt

import Derived.Stop.Joined

import Derived.Stop.LaidErr

import Derived.Lib.LaidTab

namespace Go.Proofs.YtegajbfefhljmaaDoor

open Go.ChangeShapes Go.WideShapes Go.ChangeAt Go.RowKit Go.Deep

theorem own : ownKnob Tryd.prog.godebug = none := by kernel_rfl
theorem laidOut : laidOutB Tryd.prog = true := by kernel_rfl
theorem i64_wf {a : Int} (h : (Lit.int .i64 a).wf = true) : In64 a := by
  simp [Lit.wf, IntKind.min, IntKind.max, IntKind.bits, IntKind.signed] at h
  unfold In64
  omega
theorem struct6 {P : Program} {H : Type} {enc : TypeId × Value → H} {w : World} {base : Nat} {spare : Nat → Bool} {held : Bool} {t : TypeId} {f0 f1 f2 f3 f4 f5 : Field} {fuel : Nat} {cs : List Value} {x : DataW H × List MemPlace} (ht : P.underlying t = some (.struct #[f0, f1, f2, f3, f4, f5])) (h : DataW.trod enc P w base spare held fuel t cs = some x) :
    ∃ y0 y1 y2 y3 y4 y5 n, cs.length = P.cellsOf t ∧ DataW.trod enc P w base spare held n f0.type ((cs.drop f0.offset).take (P.cellsOf f0.type)) = some y0 ∧
      DataW.trod enc P w base spare held n f1.type ((cs.drop f1.offset).take (P.cellsOf f1.type)) = some y1 ∧ DataW.trod enc P w base spare held n f2.type ((cs.drop f2.offset).take (P.cellsOf f2.type)) = some y2 ∧
      DataW.trod enc P w base spare held n f3.type ((cs.drop f3.offset).take (P.cellsOf f3.type)) = some y3 ∧ DataW.trod enc P w base spare held n f4.type ((cs.drop f4.offset).take (P.cellsOf f4.type)) = some y4 ∧ DataW.trod enc P w base spare held n f5.type ((cs.drop f5.offset).take (P.cellsOf f5.type)) = some y5 := by
  obtain ⟨xs, n, _, rfl, hl, hlen, hf⟩ := DataW.trod_struct ht h
  match xs, hlen with
  | [y0, y1, y2, y3, y4, y5], _ => exact ⟨y0, y1, y2, y3, y4, y5, n, hl, by simpa using hf 0 f0 rfl, by simpa using hf 1 f1 rfl, by simpa using hf 2 f2 rfl, by simpa using hf 3 f3 rfl, by simpa using hf 4 f4 rfl, by simpa using hf 5 f5 rfl⟩
theorem cnd : Tryd.prog.cellsOf 33 = 6 := by kernel_rfl
theorem ci : Tryd.prog.cellsOf 3 = 1 := by kernel_rfl
section
variable {H : Type} {enc : TypeId × Value → H} {w : World}
theorem open_nd {n : Nat} {cs : List Value} {x : DataW H × List MemPlace} (h : DataW.trod enc Tryd.prog w 0 (fun _ => true) true n 33 cs = some x) :
    ∃ d : NdD, cs = [.int .i64 d.key, .int .i64 d.inf, .int .i64 d.wt, .int .i64 d.val, .int .i64 d.l, .int .i64 d.r] ∧ In64 d.key ∧ In64 d.val := by
  obtain ⟨y0, y1, y2, y3, y4, y5, m, hl, g0, g1, g2, g3, g4, g5⟩ := struct6 Tryd.underlying33 h
  rw [cnd] at hl
  simp only [ci] at g0 g1 g2 g3 g4 g5
  match cs, hl with
  | [v0, v1, v2, v3, v4, v5], _ =>
    simp at g0 g1 g2 g3 g4 g5
    obtain ⟨a0, e0, _, w0⟩ := DataW.trod_int Tryd.underlying3 g0
    obtain ⟨a1, e1, _, _⟩ := DataW.trod_int Tryd.underlying3 g1
    obtain ⟨a2, e2, _, _⟩ := DataW.trod_int Tryd.underlying3 g2
    obtain ⟨a3, e3, _, w3⟩ := DataW.trod_int Tryd.underlying3 g3
    obtain ⟨a4, e4, _, _⟩ := DataW.trod_int Tryd.underlying3 g4
    obtain ⟨a5, e5, _, _⟩ := DataW.trod_int Tryd.underlying3 g5
    simp at e0 e1 e2 e3 e4 e5
    exact ⟨⟨a0, a1, a2, a3, a4, a5⟩, by rw [e0, e1, e2, e3, e4, e5], i64_wf w0, i64_wf w3⟩
instance : Inhabited NdD := ⟨nd0⟩
theorem ndAt_map (f : Nat → NdD) (n i : Nat) (h : i < n) : ndAt ((List.range n).map f) i = f i := by
  simp [ndAt, List.getD_eq_getElem?_getD, List.getElem?_range h]
theorem open_nodes {n : Nat} {a0 : Option Addr} {len cap : Nat} {x : DataW H × List MemPlace} (h : DataW.trod enc Tryd.prog w 0 (fun _ => true) true n 22 [.slice a0 len cap] = some x) :
    ∃ (b o : Nat) (t : NL), len = t.length ∧ NodesAt w a0 b o t ∧ NodesIn t ∧ len ≤ cap ∧ (a0 = none → len = 0 ∧ cap = 0) := by
  rcases open_slice Tryd.underlying22 h with ⟨hcs, _⟩ | ⟨a, l, c, m, n, D, Pl, hcs, _, hl, hm, hme, hx, hel⟩
  · simp at hcs
    obtain ⟨rfl, rfl, rfl⟩ := hcs
    exact ⟨0, 0, [], rfl, ⟨fun h => absurd rfl h, fun h => absurd rfl h, fun i hi => by simp at hi, by simp⟩, fun i hi => by simp at hi, Nat.le_refl _, fun _ => ⟨rfl, rfl⟩⟩
  · simp at hcs
    obtain ⟨rfl, rfl, rfl⟩ := hcs
    simp at hme
    subst hme
    by_cases hlen : len = 0
    · subst hlen
      exact ⟨0, 0, [], rfl, ⟨fun h => absurd rfl h, fun h => absurd rfl h, fun i hi => by simp at hi, by simp⟩, fun i hi => by simp at hi, hl, (fun h => by cases h)⟩
    · have key : ∀ i, i < m → ∃ d : NdD, (w.cell? (a.add (i * 6)) = some (.int .i64 d.key) ∧ w.cell? (a.add (i * 6 + 1)) = some (.int .i64 d.inf) ∧ w.cell? (a.add (i * 6 + 2)) = some (.int .i64 d.wt) ∧ w.cell? (a.add (i * 6 + 3)) = some (.int .i64 d.val) ∧ w.cell? (a.add (i * 6 + 4)) = some (.int .i64 d.l) ∧ w.cell? (a.add (i * 6 + 5)) = some (.int .i64 d.r)) ∧ In64 d.key ∧ In64 d.val := by
        intro i hi
        obtain ⟨cs, h1, h2⟩ := hel i hi
        obtain ⟨d, rfl, u0, u3⟩ := open_nd h2
        rw [cnd] at h1
        obtain ⟨_, _, hcell⟩ := World.cells?_some h1
        have e0 := hcell 0 (by omega)
        have e1 := hcell 1 (by omega)
        have e2 := hcell 2 (by omega)
        have e3 := hcell 3 (by omega)
        have e4 := hcell 4 (by omega)
        have e5 := hcell 5 (by omega)
        rw [Deep.add_add] at e0 e1 e2 e3 e4 e5
        exact ⟨d, ⟨by simpa using e0, by simpa using e1, by simpa using e2, by simpa using e3, by simpa using e4, by simpa using e5⟩, u0, u3⟩
      obtain ⟨f, hf⟩ := choose_lt key
      obtain ⟨b, o, s⟩ := a
      have hs : s = none := by
        have := (hf 0 (by omega)).1.1
        simpa [Addr.add] using World.cell?_spot this
      subst hs
      simp only [addr_add'] at hf
      refine ⟨b, o, (List.range len).map f, by simp, ⟨fun _ => rfl, fun _ => ?_, fun i hi => ?_, by simp; omega⟩, fun i hi => ?_, hl, (fun h => by cases h)⟩
      · exact World.block_lt_of_cell? w _ (hf 0 (by omega)).1.1
      · simp at hi
        rw [ndAt_map f len i hi]
        have := (hf i (by omega)).1
        simpa [Nat.add_assoc] using this
      · simp at hi
        rw [ndAt_map f len i hi]
        exact (hf i (by omega)).2
end

theorem g_pow : Tryd.prog.globalNamed "internal/strconv.uint64pow10" = some 0 := by kernel_rfl
theorem g_powT : (Tryd.prog.globals[0]?).map (·.type) = some 77 := by kernel_rfl
theorem g_syn : Tryd.prog.globalNamed "strconv.ErrSyntax" = some 3 := by kernel_rfl
theorem g_synT : (Tryd.prog.globals[3]?).map (·.type) = some 72 := by kernel_rfl
theorem g_rng : Tryd.prog.globalNamed "strconv.ErrRange" = some 4 := by kernel_rfl
theorem g_rngT : (Tryd.prog.globals[4]?).map (·.type) = some 72 := by kernel_rfl
theorem star_es : "*" ++ "errors.errorString" = "*errors.errorString" := by decide
theorem row_es (u : TypeId) (h : Tryd.prog.typeName? 3 u = some "*errors.errorString") : u = 103 :=
  typeName_ptr_named (nm := "errors.errorString") (by rw [star_es]; kernel_rfl) (by kernel_rfl) (by decide) u (by rw [star_es]; exact h)
theorem laid_now {W : World} (h : laidMetH Tryd.prog Rows.tableTextsRow.laid W) : Laid W := by
  rw [MakeChecks.laidMetH_plain _ _ _ (by kernel_rfl)] at h
  have h2 := h.tail.tail
  have h3 := h2.tail
  have h4 := h3.tail
  refine ⟨Lib.tabIs_of_head g_pow g_powT Tryd.underlying77 Tryd.underlying59 (by kernel_rfl) (by kernel_rfl) h2, ?_, ?_⟩
  · obtain ⟨a, s, hv, -, -, -⟩ := laid_sentinel h4 g_syn g_synT Tryd.underlying72 row_es Tryd.underlying103 Tryd.underlying105 rfl rfl Tryd.underlying9 (by kernel_rfl) (by kernel_rfl)
    exact ⟨_, _, hv⟩
  · obtain ⟨a, s, hv, -, -, -⟩ := laid_sentinel h3 g_rng g_rngT Tryd.underlying72 row_es Tryd.underlying103 Tryd.underlying105 rfl rfl Tryd.underlying9 (by kernel_rfl) (by kernel_rfl)
    exact ⟨_, _, hv⟩
theorem laidB_now {W : World} (h : laidMetH Tryd.prog Rows.tableTextsRow.laid W) : LaidB W.heap.size W := by
  intro w' hb
  obtain ⟨h1, ⟨tp, p, h2⟩, ⟨tp', p', h3⟩⟩ := laid_now h
  exact ⟨Go.Joins.tab_stays g_pow h1 hb (Nat.le_refl _), ⟨tp, p, Go.Joins.var_stays g_syn h2 hb (Nat.le_refl _)⟩, ⟨tp', p', Go.Joins.var_stays g_rng h3 hb (Nat.le_refl _)⟩⟩
end Go.Proofs.YtegajbfefhljmaaDoor
