/- Layer 5: operations that are handed in, read as data. No walk. -/
import Derived.Test.YtniognoapcaliaaECdsOf
namespace Go.Proofs.Ytniognoapcaliaa
open Go.ChangeShapes Go.WideShapes Go.ChangeAt Go.RowKit Go.Deep

theorem struct5 {P : Program} {H : Type} {enc : TypeId × Value → H} {w : World} {base : Nat} {spare : Nat → Bool} {held : Bool} {t : TypeId} {f0 f1 f2 f3 f4 : Field} {fuel : Nat} {cs : List Value} {x : DataW H × List MemPlace} (ht : P.underlying t = some (.struct #[f0, f1, f2, f3, f4])) (h : DataW.trod enc P w base spare held fuel t cs = some x) :
    ∃ y0 y1 y2 y3 y4 n, x.1 = .agg [y0.1, y1.1, y2.1, y3.1, y4.1] ∧ cs.length = P.cellsOf t ∧ DataW.trod enc P w base spare held n f0.type ((cs.drop f0.offset).take (P.cellsOf f0.type)) = some y0 ∧
      DataW.trod enc P w base spare held n f1.type ((cs.drop f1.offset).take (P.cellsOf f1.type)) = some y1 ∧ DataW.trod enc P w base spare held n f2.type ((cs.drop f2.offset).take (P.cellsOf f2.type)) = some y2 ∧
      DataW.trod enc P w base spare held n f3.type ((cs.drop f3.offset).take (P.cellsOf f3.type)) = some y3 ∧ DataW.trod enc P w base spare held n f4.type ((cs.drop f4.offset).take (P.cellsOf f4.type)) = some y4 := by
  obtain ⟨xs, n, _, rfl, hl, hlen, hf⟩ := DataW.trod_struct ht h
  match xs, hlen with
  | [y0, y1, y2, y3, y4], _ => exact ⟨y0, y1, y2, y3, y4, n, by simp, hl, by simpa using hf 0 f0 rfl, by simpa using hf 1 f1 rfl, by simpa using hf 2 f2 rfl, by simpa using hf 3 f3 rfl, by simpa using hf 4 f4 rfl⟩
theorem ccd : Try.prog.cellsOf 88 = 11 := by kernel_rfl
section
variable {H : Type} {enc : TypeId × Value → H} {w : World}
/-- An operation with its list of pairs. -/
structure CdP where
  e : CD
  pb : Option Addr
  pc : Nat
  pg : Nat
  po : Nat
instance : Inhabited CdP := ⟨⟨cd0, none, 0, 0, 0⟩⟩
def CdOk (w : World) (y : CdP) : Prop := PairsAt w y.pb y.pg y.po y.e.rt.pairs ∧ (y.pb = none → y.e.rt.pairs.length = 0 ∧ y.pc = 0)
theorem open_cd {n : Nat} {cs : List Value} {x : DataW H × List MemPlace} (h : DataW.trod enc Try.prog w 0 (fun _ => true) true n 88 cs = some x) :
    ∃ y : CdP, cs = [.int .i64 y.e.th, .int .i64 y.e.op.kind, .int .i64 y.e.op.key, .int .i64 y.e.op.val, .int .i64 y.e.op.hi, .bool y.e.rt.ok, .int .i64 y.e.rt.key, .int .i64 y.e.rt.val, .slice y.pb y.e.rt.pairs.length y.pc, .int .i64 y.e.fr, .int .i64 y.e.to] ∧ CdOk w y ∧ ((x.1.weights Try.prog 88).all (· ≤ reachBytes) = true → y.e.rt.pairs.length * 16 ≤ 140737488351232) := by
  obtain ⟨y0, y1, y2, y3, y4, m, hx, hl, g0, g1, g2, g3, g4⟩ := struct5 Try.underlying88 h
  rw [ccd] at hl
  simp only [ci, cop, crt] at g0 g1 g2 g3 g4
  match cs, hl with
  | [v0, v1, v2, v3, v4, v5, v6, v7, v8, v9, v10], _ =>
    simp at g0 g1 g2 g3 g4
    obtain ⟨a, e0, _, _⟩ := DataW.trod_int Try.underlying3 g0
    obtain ⟨c, e2⟩ := open_op g1
    obtain ⟨r, base, cap, g, o, e3, hp, hn, hw⟩ := open_ret g2
    obtain ⟨p, e5, _, _⟩ := DataW.trod_int Try.underlying3 g3
    obtain ⟨q, e6, _, _⟩ := DataW.trod_int Try.underlying3 g4
    simp at e0 e2 e3 e5 e6
    obtain ⟨f4, f5, f6, f7⟩ := e2
    obtain ⟨f8, f9, f10, f11⟩ := e3
    refine ⟨⟨⟨a, c, r, p, q⟩, base, cap, g, o⟩, by rw [e0, f4, f5, f6, f7, f8, f9, f10, f11, e5, e6], ⟨hp, hn⟩, fun hwt => hw ?_⟩
    rw [hx] at hwt
    simp [DataW.weights, Try.underlying88, DataW.weightsEach, List.all_append] at hwt ⊢
    exact hwt.2.2.1

theorem open_calls {n : Nat} {a0 : Option Addr} {len cap : Nat} {x : DataW H × List MemPlace} (h : DataW.trod enc Try.prog w 0 (fun _ => true) true n 23 [.slice a0 len cap] = some x) (hwt : (x.1.weights Try.prog 23).all (· ≤ reachBytes) = true) :
    ∃ (b o : Nat) (hs : List CD) (pb : Nat → Option Addr) (pc pg po : Nat → Nat), len = hs.length ∧ CdsAt w a0 b o hs pb pc pg po ∧ (a0 = none → len = 0 ∧ cap = 0) ∧ hs.length * 104 ≤ 140737488351232 := by
  rcases open_slice Try.underlying23 h with ⟨hcs, _⟩ | ⟨a, l, c, m, n, D, Pl, hcs, _, hl, hm, hme, hx, hel⟩
  · simp at hcs
    obtain ⟨rfl, rfl, rfl⟩ := hcs
    exact ⟨0, 0, [], fun _ => none, fun _ => 0, fun _ => 0, fun _ => 0, rfl, ⟨fun h => absurd rfl h, fun h => absurd rfl h, by simp, fun i hi => by simp at hi, fun i hi => by simp at hi, fun i hi => by simp at hi, fun i hi => by simp at hi⟩, fun _ => ⟨rfl, rfl⟩, by simp⟩
  · simp at hcs
    obtain ⟨rfl, rfl, rfl⟩ := hcs
    simp at hme
    subst hme
    rw [hx] at hwt
    have be : Try.prog.bytesOf 88 = 104 := by kernel_rfl
    simp only [DataW.weights, Try.underlying23, be, List.all_cons, Bool.and_eq_true, decide_eq_true_eq, List.all_append] at hwt
    obtain ⟨hw1, hw2, _⟩ := hwt
    have hlb : len * 104 ≤ 140737488351232 := by simp [reachBytes] at hw1; omega
    by_cases hlen : len = 0
    · subst hlen
      exact ⟨0, 0, [], fun _ => none, fun _ => 0, fun _ => 0, fun _ => 0, rfl, ⟨fun h => absurd rfl h, fun h => absurd rfl h, by simp, fun i hi => by simp at hi, fun i hi => by simp at hi, fun i hi => by simp at hi, fun i hi => by simp at hi⟩, (fun h => by cases h), by simp⟩
    · have key : ∀ i, i < len → ∃ y : CdP, (w.cell? (a.add (i * 11)) = some (.int .i64 y.e.th) ∧ w.cell? (a.add (i * 11 + 1)) = some (.int .i64 y.e.op.kind) ∧ w.cell? (a.add (i * 11 + 2)) = some (.int .i64 y.e.op.key) ∧ w.cell? (a.add (i * 11 + 3)) = some (.int .i64 y.e.op.val) ∧ w.cell? (a.add (i * 11 + 4)) = some (.int .i64 y.e.op.hi) ∧ w.cell? (a.add (i * 11 + 5)) = some (.bool y.e.rt.ok) ∧ w.cell? (a.add (i * 11 + 6)) = some (.int .i64 y.e.rt.key) ∧ w.cell? (a.add (i * 11 + 7)) = some (.int .i64 y.e.rt.val) ∧ w.cell? (a.add (i * 11 + 8)) = some (.slice y.pb y.e.rt.pairs.length y.pc) ∧ w.cell? (a.add (i * 11 + 9)) = some (.int .i64 y.e.fr) ∧ w.cell? (a.add (i * 11 + 10)) = some (.int .i64 y.e.to)) ∧ CdOk w y ∧ y.e.rt.pairs.length * 16 ≤ 140737488351232 := by
        intro i hi
        obtain ⟨cs, h1, h2⟩ := hel i (by omega)
        obtain ⟨y, rfl, hy, hyw⟩ := open_cd h2
        rw [ccd] at h1
        obtain ⟨_, _, hcell⟩ := World.cells?_some h1
        have e0 := hcell 0 (by omega)
        have e1 := hcell 1 (by omega)
        have e2 := hcell 2 (by omega)
        have e3 := hcell 3 (by omega)
        have e4 := hcell 4 (by omega)
        have e5 := hcell 5 (by omega)
        have e6 := hcell 6 (by omega)
        have e7 := hcell 7 (by omega)
        have e8 := hcell 8 (by omega)
        have e9 := hcell 9 (by omega)
        have e10 := hcell 10 (by omega)
        rw [Deep.add_add] at e0 e1 e2 e3 e4 e5 e6 e7 e8 e9 e10
        refine ⟨y, ⟨by simpa using e0, by simpa using e1, by simpa using e2, by simpa using e3, by simpa using e4, by simpa using e5, by simpa using e6, by simpa using e7, by simpa using e8, by simpa using e9, by simpa using e10⟩, hy, hyw ?_⟩
        exact all_range (α := Unit) hw2 i (by simpa using hi)
      obtain ⟨f, hf⟩ := choose_lt key
      obtain ⟨b, o, s⟩ := a
      have hs : s = none := by
        have := (hf 0 (by omega)).1.1
        simpa [Addr.add] using World.cell?_spot this
      subst hs
      simp only [addr_add'] at hf
      have hll : ((List.range len).map (fun i => (f i).e)).length = len := by simp
      have hev : ∀ i, i < len → cdAt ((List.range len).map (fun i => (f i).e)) i = (f i).e := by
        intro i hi
        unfold cdAt
        rw [List.getD_eq_getElem?_getD, List.getElem?_map, List.getElem?_range hi]
        rfl
      refine ⟨b, o, (List.range len).map (fun i => (f i).e), fun i => (f i).pb, fun i => (f i).pc, fun i => (f i).pg, fun i => (f i).po, hll.symm, ⟨fun _ => rfl, fun _ => World.block_lt_of_cell? w _ (hf 0 (by omega)).1.1, by rw [hll]; omega, fun i hi => ?_, fun i hi => ?_, fun i hi => ?_, fun i hi => ?_⟩, (fun h => by cases h), by rw [hll]; exact hlb⟩
      · rw [hll] at hi
        rw [hev i hi]
        have q := (hf i hi).1
        simp only [← Nat.add_assoc] at q
        exact ⟨q.1, q.2.1, q.2.2.1, q.2.2.2.1, q.2.2.2.2.1⟩
      · rw [hll] at hi
        rw [hev i hi]
        have q := (hf i hi).1
        simp only [← Nat.add_assoc] at q
        exact ⟨q.2.2.2.2.2.1, q.2.2.2.2.2.2.1, q.2.2.2.2.2.2.2.1, q.2.2.2.2.2.2.2.2.1⟩
      · rw [hll] at hi
        rw [hev i hi]
        have q := (hf i hi).1
        simp only [← Nat.add_assoc] at q
        exact ⟨q.2.2.2.2.2.2.2.2.2.1, q.2.2.2.2.2.2.2.2.2.2⟩
      · rw [hll] at hi
        rw [hev i hi]
        obtain ⟨_, q, r⟩ := hf i hi
        exact ⟨q.1, q.2, by omega⟩
end
end Go.Proofs.Ytniognoapcaliaa
