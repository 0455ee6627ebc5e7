/- A slice of structs of an int and two uint64 that is read as data is a slice of accesses. -/
import Derived.Test.YtffnoaafmaeihaaGreatRow
import Derived.ProofKit
import Derived.OpenShut
import Derived.Deep.Slices
import Derived.Deep.Strs
namespace Go.Proofs.YtffnoaafmaeihaaGreat
open Go.ChangeShapes Go.WideShapes Go.ChangeAt Go.RowKit Go.Deep

theorem u64_wf {a : Int} (h : (Lit.int .u64 a).wf = true) : U64 a := by
  simp [Lit.wf, IntKind.min, IntKind.max, IntKind.bits, IntKind.signed] at h
  unfold U64
  omega

theorem addr_add (b o i : Nat) : (⟨b, o, none⟩ : Addr).add i = ⟨b, o + i, none⟩ := by
  unfold Addr.add
  by_cases h : i = 0 <;> simp [h]

section
variable {H : Type} {enc : TypeId × Value → H} {w : World}

theorem open_act {E : TypeId} {f0 f1 f2 : Field} (hE : Tryz.prog.underlying E = some (.struct #[f0, f1, f2])) (hc : Tryz.prog.cellsOf E = 3) (t0 : f0.type = 3) (t1 : f1.type = 22) (t2 : f2.type = 22) (o0 : f0.offset = 0) (o1 : f1.offset = 1) (o2 : f2.offset = 2)
    {base : Nat} {sp : Nat → Bool} {held : Bool} {n : Nat} {cs : List Value} {x : DataW H × List MemPlace} (h : DataW.trod enc Tryz.prog w base sp held n E cs = some x) :
    ∃ d a b : Int, cs = [.int .i64 d, .int .u64 a, .int .u64 b] ∧ U64 a ∧ U64 b := by
  obtain ⟨y0, y1, y2, m, _, hl, g0, g1, g2⟩ := trod_struct3 hE h
  rw [hc] at hl
  have c3 : Tryz.prog.cellsOf 3 = 1 := by kernel_rfl
  have c22 : Tryz.prog.cellsOf 22 = 1 := by kernel_rfl
  rw [t0, o0, c3] at g0
  rw [t1, o1, c22] at g1
  rw [t2, o2, c22] at g2
  match cs, hl with
  | [v0, v1, v2], _ =>
    simp at g0 g1 g2
    obtain ⟨d, e0, _, _⟩ := DataW.trod_int Tryz.underlying3 g0
    obtain ⟨a, e1, _, wa⟩ := DataW.trod_int Tryz.underlying22 g1
    obtain ⟨b, e2, _, wb⟩ := DataW.trod_int Tryz.underlying22 g2
    simp at e0 e1 e2
    exact ⟨d, a, b, by rw [e0, e1, e2], u64_wf wa, u64_wf wb⟩

theorem open_acts {T E : TypeId} (hT : Tryz.prog.underlying T = some (.slice E)) {f0 f1 f2 : Field} (hE : Tryz.prog.underlying E = some (.struct #[f0, f1, f2])) (hc : Tryz.prog.cellsOf E = 3) (t0 : f0.type = 3) (t1 : f1.type = 22) (t2 : f2.type = 22) (o0 : f0.offset = 0) (o1 : f1.offset = 1) (o2 : f2.offset = 2)
    {a0 : Option Addr} {len cap : Nat} {fuel : Nat} {x : DataW H × List MemPlace} (h : DataW.trod enc Tryz.prog w 0 (fun _ => true) true fuel T [.slice a0 len cap] = some x) :
    ∃ (ab ao : Nat) (dk da db : Nat → Int), Acts w a0 ab ao len dk da db ∧ len ≤ cap ∧ (a0 = none → len = 0 ∧ cap = 0) ∧ (∀ a, a0 = some a → len ≠ 0 → a = ⟨ab, ao, none⟩) ∧ (len = 0 ∨ ∃ el sp, x.1 = .slice el sp ∧ el.length = len) := by
  rcases open_slice hT h with ⟨hcs, _⟩ | ⟨a, l, c, m, n, D, Pl, hcs, _, hl, hm, hme, hx, hel⟩
  · simp at hcs
    obtain ⟨rfl, rfl, rfl⟩ := hcs
    exact ⟨0, 0, fun _ => 0, fun _ => 0, fun _ => 0, ⟨fun h => absurd rfl h, fun h => absurd rfl h, fun i hi => by omega, fun i hi => by omega, by unfold maxLen; omega⟩, Nat.le_refl _, fun _ => ⟨rfl, rfl⟩, (fun _ h => by cases h), Or.inl rfl⟩
  · simp at hcs
    obtain ⟨rfl, rfl, rfl⟩ := hcs
    simp at hme
    subst hme
    by_cases hlen : len = 0
    · subst hlen
      exact ⟨0, 0, fun _ => 0, fun _ => 0, fun _ => 0, ⟨fun h => absurd rfl h, fun h => absurd rfl h, fun i hi => by omega, fun i hi => by omega, by unfold maxLen; omega⟩, hl, (fun h => by cases h), fun _ _ h => absurd rfl h, Or.inl rfl⟩
    · have key : ∀ i, i < m → ∃ y : Int × Int × Int, (w.cell? (a.add (i * 3)) = some (.int .i64 y.1) ∧ w.cell? (a.add (i * 3 + 1)) = some (.int .u64 y.2.1) ∧ w.cell? (a.add (i * 3 + 2)) = some (.int .u64 y.2.2)) ∧ U64 y.2.1 ∧ U64 y.2.2 := by
        intro i hi
        obtain ⟨cs, h1, h2⟩ := hel i hi
        obtain ⟨d, p, q, rfl, up, uq⟩ := open_act hE hc t0 t1 t2 o0 o1 o2 h2
        rw [hc] at h1
        obtain ⟨_, _, hcell⟩ := World.cells?_some h1
        have e0 := hcell 0 (by omega)
        have e1 := hcell 1 (by omega)
        have e2 := hcell 2 (by omega)
        rw [Deep.add_add] at e0 e1 e2
        exact ⟨(d, p, q), ⟨by simpa using e0, by simpa using e1, by simpa using e2⟩, up, uq⟩
      obtain ⟨f, hf⟩ := choose_lt key
      obtain ⟨b, o, s⟩ := a
      have hs : s = none := by
        have := (hf 0 (by omega)).1.1
        simpa [Addr.add] using World.cell?_spot this
      subst hs
      simp only [addr_add] at hf
      refine ⟨b, o, fun i => (f i).1, fun i => (f i).2.1, fun i => (f i).2.2, ⟨fun _ => rfl, fun _ => ?_, fun i hi => ?_, fun i hi => (hf i (by omega)).2, by omega⟩, hl, (fun h => by cases h), (fun x hx _ => by cases hx; rfl), Or.inr ⟨_, _, congrArg Prod.fst hx, by simp⟩⟩
      · exact World.block_lt_of_cell? w _ (hf 0 (by omega)).1.1
      · have := (hf i (by omega)).1
        simpa [Nat.add_assoc] using this
end

end Go.Proofs.YtffnoaafmaeihaaGreat
