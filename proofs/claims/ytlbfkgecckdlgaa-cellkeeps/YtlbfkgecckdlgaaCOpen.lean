/- Layer 2: slices of acts, of numbers and of bools that are read as data. -/
import Derived.Test.YtlbfkgecckdlgaaCInts
import Derived.Test.YtlbfkgecckdlgaaCLift
import Derived.Deep.Slices
import Derived.Deep.Strs
import Derived.Lib.SmallJoins
namespace Go.Proofs.Ytlbfkgecckdlgaa
open Go.ChangeShapes Go.WideShapes Go.ChangeAt Go.RowKit Go.Deep

theorem addr_add (b o i : Nat) : (⟨b, o, none⟩ : Addr).add i = ⟨b, o + i, none⟩ := by
  unfold Addr.add
  by_cases h : i = 0 <;> simp [h]

section
variable {H : Type} {enc : TypeId × Value → H} {w : World}

theorem open_cact {E : TypeId} {f0 f1 f2 f3 : Field} (hE : Try.prog.underlying E = some (.struct #[f0, f1, f2, f3])) (hc : Try.prog.cellsOf E = 4) (t0 : f0.type = 3) (t1 : f1.type = 3) (t2 : f2.type = 3) (t3 : f3.type = 3) (o0 : f0.offset = 0) (o1 : f1.offset = 1) (o2 : f2.offset = 2) (o3 : f3.offset = 3)
    {base : Nat} {sp : Nat → Bool} {held : Bool} {n : Nat} {cs : List Value} {x : DataW H × List MemPlace} (h : DataW.trod enc Try.prog w base sp held n E cs = some x) :
    ∃ d i a b : Int, cs = [.int .i64 d, .int .i64 i, .int .i64 a, .int .i64 b] ∧ I64 d ∧ I64 i ∧ I64 a ∧ I64 b := by
  obtain ⟨y0, y1, y2, y3, m, _, hl, g0, g1, g2, g3⟩ := Go.Joins.trod_struct4 hE h
  rw [hc] at hl
  have c3 : Try.prog.cellsOf 3 = 1 := by kernel_rfl
  rw [t0, o0, c3] at g0
  rw [t1, o1, c3] at g1
  rw [t2, o2, c3] at g2
  rw [t3, o3, c3] at g3
  match cs, hl with
  | [v0, v1, v2, v3], _ =>
    simp at g0 g1 g2 g3
    obtain ⟨d, e0, _, wd⟩ := DataW.trod_int Try.underlying3 g0
    obtain ⟨i, e1, _, wi⟩ := DataW.trod_int Try.underlying3 g1
    obtain ⟨a, e2, _, wa⟩ := DataW.trod_int Try.underlying3 g2
    obtain ⟨b, e3, _, wb⟩ := DataW.trod_int Try.underlying3 g3
    simp at e0 e1 e2 e3
    exact ⟨d, i, a, b, by rw [e0, e1, e2, e3], i64_wf wd, i64_wf wi, i64_wf wa, i64_wf wb⟩

theorem open_cacts {T E : TypeId} (hT : Try.prog.underlying T = some (.slice E)) {f0 f1 f2 f3 : Field} (hE : Try.prog.underlying E = some (.struct #[f0, f1, f2, f3])) (hc : Try.prog.cellsOf E = 4) (t0 : f0.type = 3) (t1 : f1.type = 3) (t2 : f2.type = 3) (t3 : f3.type = 3) (o0 : f0.offset = 0) (o1 : f1.offset = 1) (o2 : f2.offset = 2) (o3 : f3.offset = 3)
    {a0 : Option Addr} {len cap : Nat} {fuel : Nat} {x : DataW H × List MemPlace} (h : DataW.trod enc Try.prog w 0 (fun _ => true) true fuel T [.slice a0 len cap] = some x) :
    ∃ (ab ao : Nat) (dk di da db : Nat → Int), CActs w a0 ab ao len dk di da db ∧ (∀ i, i < len → I64 (dk i) ∧ I64 (di i) ∧ I64 (da i) ∧ I64 (db i)) ∧ len ≤ cap ∧ (a0 = none → len = 0 ∧ cap = 0) ∧ (len = 0 ∨ ∃ el sp, x.1 = .slice el sp ∧ el.length = len) := by
  rcases open_slice hT h with ⟨hcs, _⟩ | ⟨a, l, c, m, n, D, Pl, hcs, _, hl, hm, hme, hx, hel⟩
  · simp at hcs
    obtain ⟨rfl, rfl, rfl⟩ := hcs
    exact ⟨0, 0, fun _ => 0, fun _ => 0, fun _ => 0, fun _ => 0, ⟨fun h => absurd rfl h, fun h => absurd rfl h, fun i hi => by omega, by unfold maxLen; omega⟩, fun i hi => by omega, Nat.le_refl _, fun _ => ⟨rfl, rfl⟩, Or.inl rfl⟩
  · simp at hcs
    obtain ⟨rfl, rfl, rfl⟩ := hcs
    simp at hme
    subst hme
    by_cases hlen : len = 0
    · subst hlen
      exact ⟨0, 0, fun _ => 0, fun _ => 0, fun _ => 0, fun _ => 0, ⟨fun h => absurd rfl h, fun h => absurd rfl h, fun i hi => by omega, by unfold maxLen; omega⟩, fun i hi => by omega, hl, (fun h => by cases h), Or.inl rfl⟩
    · have key : ∀ i, i < m → ∃ y : Int × Int × Int × Int, (w.cell? (a.add (i * 4)) = some (.int .i64 y.1) ∧ w.cell? (a.add (i * 4 + 1)) = some (.int .i64 y.2.1) ∧ w.cell? (a.add (i * 4 + 2)) = some (.int .i64 y.2.2.1) ∧ w.cell? (a.add (i * 4 + 3)) = some (.int .i64 y.2.2.2)) ∧ I64 y.1 ∧ I64 y.2.1 ∧ I64 y.2.2.1 ∧ I64 y.2.2.2 := by
        intro i hi
        obtain ⟨cs, h1, h2⟩ := hel i hi
        obtain ⟨d, p, q, r, rfl, u0, u1, u2, u3⟩ := open_cact hE hc t0 t1 t2 t3 o0 o1 o2 o3 h2
        rw [hc] at h1
        obtain ⟨_, _, hcell⟩ := World.cells?_some h1
        have e0 := hcell 0 (by omega)
        have e1 := hcell 1 (by omega)
        have e2 := hcell 2 (by omega)
        have e3 := hcell 3 (by omega)
        rw [Deep.add_add] at e0 e1 e2 e3
        exact ⟨(d, p, q, r), ⟨by simpa using e0, by simpa using e1, by simpa using e2, by simpa using e3⟩, u0, u1, u2, u3⟩
      obtain ⟨f, hf⟩ := choose_lt key
      obtain ⟨b, o, s⟩ := a
      have hs : s = none := by
        have := (hf 0 (by omega)).1.1
        simpa [Addr.add] using World.cell?_spot this
      subst hs
      simp only [addr_add] at hf
      refine ⟨b, o, fun i => (f i).1, fun i => (f i).2.1, fun i => (f i).2.2.1, fun i => (f i).2.2.2, ⟨fun _ => rfl, fun _ => ?_, fun i hi => ?_, by omega⟩, fun i hi => (hf i (by omega)).2, hl, (fun h => by cases h), Or.inr ⟨_, _, congrArg Prod.fst hx, by simp⟩⟩
      · exact World.block_lt_of_cell? w _ (hf 0 (by omega)).1.1
      · have := (hf i (by omega)).1
        simpa [Nat.add_assoc] using this

theorem open_nums {a0 : Option Addr} {len cap : Nat} {fuel : Nat} {x : DataW H × List MemPlace} (h : DataW.trod enc Try.prog w 0 (fun _ => true) true fuel 22 [.slice a0 len cap] = some x) :
    ∃ (b o : Nat) (f : Nat → Int), NumsAt w a0 b o len f ∧ (∀ i, i < len → I64 (f i)) ∧ len ≤ cap ∧ (a0 = none → len = 0 ∧ cap = 0) ∧ (len = 0 ∨ ∃ el sp, x.1 = .slice el sp ∧ el.length = len) := by
  rcases open_ints (k := .i64) Try.underlying22 Try.underlying3 (by kernel_rfl) h with ⟨hcs, _⟩ | ⟨a, l, c, zs, hcs, _, hl, hm, hz, hx, hcell, hwf⟩
  · simp at hcs
    obtain ⟨rfl, rfl, rfl⟩ := hcs
    exact ⟨0, 0, fun _ => 0, ⟨fun h => absurd rfl h, fun h => absurd rfl h, fun i hi => by omega, by unfold maxLen; omega⟩, fun i hi => by omega, Nat.le_refl _, fun _ => ⟨rfl, rfl⟩, Or.inl rfl⟩
  · simp at hcs
    obtain ⟨rfl, rfl, rfl⟩ := hcs
    simp at hz
    by_cases hlen : len = 0
    · subst hlen
      exact ⟨0, 0, fun _ => 0, ⟨fun h => absurd rfl h, fun h => absurd rfl h, fun i hi => by omega, by unfold maxLen; omega⟩, fun i hi => by omega, hl, (fun h => by cases h), Or.inl rfl⟩
    · obtain ⟨b, o, s⟩ := a
      have h0 := hcell 0 (by omega)
      have hs : s = none := by simpa [Addr.add] using World.cell?_spot h0
      subst hs
      simp only [addr_add] at hcell
      refine ⟨b, o, fun i => zs.getD i 0, ⟨fun _ => rfl, fun _ => World.block_lt_of_cell? w _ (hcell 0 (by omega)), fun i hi => hcell i (by omega), by omega⟩, fun i hi => ?_, hl, (fun h => by cases h), Or.inr ⟨_, _, congrArg Prod.fst hx, ?_⟩⟩
      · refine i64_wf (hwf _ ?_)
        show zs.getD i 0 ∈ zs
        rw [List.getD_eq_getElem?_getD, List.getElem?_eq_getElem (by omega)]
        simp
      · simp [lits]
        omega
end
end Go.Proofs.Ytlbfkgecckdlgaa
