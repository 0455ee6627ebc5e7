
/- Layer 5: events that are read as data. -/

import Derived.Test.YtgbfippcnmpgfaaEKnown

import Derived.ProofKit

import Derived.OpenShut

import Derived.Deep.Slices

import Derived.Deep.Strs

import Derived.Lib.SmallJoins

namespace Go.Proofs.Ytgbfippcnmpgfaa

open Go.ChangeShapes Go.WideShapes Go.ChangeAt Go.RowKit Go.Deep

theorem own : ownKnob Try.prog.godebug = none := by kernel_rfl
theorem laidOut : laidOutB Try.prog = true := by kernel_rfl
theorem ci : Try.prog.cellsOf 3 = 1 := by kernel_rfl
theorem cb : Try.prog.cellsOf 4 = 1 := by kernel_rfl
theorem cps : Try.prog.cellsOf 40 = 1 := by kernel_rfl
theorem cp : Try.prog.cellsOf 46 = 2 := by kernel_rfl
theorem cop : Try.prog.cellsOf 39 = 4 := by kernel_rfl
theorem crt : Try.prog.cellsOf 42 = 4 := by kernel_rfl
theorem cev : Try.prog.cellsOf 55 = 10 := by kernel_rfl
theorem bp : Try.prog.bytesOf 46 = 16 := by kernel_rfl

section

variable {H : Type} {enc : TypeId × Value → H} {w : World}

theorem open_pair {n : Nat} {cs : List Value} {x : DataW H × List MemPlace} (h : DataW.trod enc Try.prog w 0 (fun _ => true) true n 46 cs = some x) :
    ∃ p : Int × Int, cs = [.int .i64 p.1, .int .i64 p.2] := by
  obtain ⟨y0, y1, m, _, hl, g0, g1⟩ := trod_struct2 Try.underlying46 h
  rw [cp] at hl
  simp only [ci] at g0 g1
  match cs, hl with
  | [v0, v1], _ =>
    simp at g0 g1
    obtain ⟨a, e0, _, _⟩ := DataW.trod_int Try.underlying3 g0
    obtain ⟨b, e1, _, _⟩ := DataW.trod_int Try.underlying3 g1
    simp at e0 e1
    exact ⟨(a, b), by rw [e0, e1]⟩

theorem open_pairs {n : Nat} {cs : List Value} {x : DataW H × List MemPlace} (h : DataW.trod enc Try.prog w 0 (fun _ => true) true n 40 cs = some x) (hfz : w.noneFrozen x.2) :
    ∃ (base : Option Addr) (cap g o : Nat) (ps : PL), cs = [.slice base ps.length cap] ∧ PairsAt w base g o ps ∧ (base = none → ps.length = 0 ∧ cap = 0) ∧ ps.length ≤ cap ∧ ((x.1.weights Try.prog 40).all (· ≤ reachBytes) = true → ps.length * 16 ≤ 140737488351232) := by
  rcases open_slice Try.underlying40 h with ⟨hcs, _⟩ | ⟨a, len, cap, m, n, D, Pl, hcs, _, hl, hm, hme, hx, hel⟩
  · exact ⟨none, 0, 0, 0, [], by simpa using hcs, ⟨fun h => absurd rfl h, fun h => absurd rfl h, fun i hi => by simp at hi, by simp, fun i hi => by simp at hi⟩, fun _ => ⟨rfl, rfl⟩, Nat.le_refl _, fun _ => by simp⟩
  · simp at hme
    subst hme
    have hw : ∀ k, k ≤ len → (x.1.weights Try.prog 40).all (· ≤ reachBytes) = true → k * 16 ≤ 140737488351232 := by
      intro k hk hwt
      rw [hx] at hwt
      simp only [DataW.weights, Try.underlying40, bp, List.all_cons, Bool.and_eq_true, decide_eq_true_eq] at hwt
      have := hwt.1
      simp [reachBytes] at this
      omega
    by_cases hlen : len = 0
    · subst hlen
      exact ⟨some a, m, 0, 0, [], hcs, ⟨fun h => absurd rfl h, fun h => absurd rfl h, fun i hi => by simp at hi, by simp, fun i hi => by simp at hi⟩, (fun h => by cases h), hl, fun _ => by simp⟩
    · have key : ∀ i, i < m → ∃ y : Int × Int, w.cell? (a.add (i * 2)) = some (.int .i64 y.1) ∧ w.cell? (a.add (i * 2 + 1)) = some (.int .i64 y.2) := by
        intro i hi
        obtain ⟨cs, h1, h2⟩ := hel i hi
        obtain ⟨p, rfl⟩ := open_pair h2
        rw [cp] at h1
        obtain ⟨_, _, hcell⟩ := World.cells?_some h1
        have e0 := hcell 0 (by omega)
        have e1 := hcell 1 (by omega)
        rw [Deep.add_add] at e0 e1
        exact ⟨p, by simpa using e0, by simpa using e1⟩
      obtain ⟨f, hf⟩ := choose_lt key
      obtain ⟨b, o, s⟩ := a
      have hs : s = none := by
        have := (hf 0 (by omega)).1
        simpa [Addr.add] using World.cell?_spot this
      subst hs
      simp only [addr_add'] at hf
      have hll : ((List.range len).map f).length = len := by simp
      refine ⟨some ⟨b, o, none⟩, m, b, o, (List.range len).map f, by rw [hll]; exact hcs, ⟨fun _ => rfl, fun _ => World.block_lt_of_cell? w _ (hf 0 (by omega)).1, fun i hi => ?_, by rw [hll]; omega, fun i hi => hfz b (o + i) (by rw [hx]; exact List.mem_append_left _ (MemPlace.mem_row.2 ⟨i, by rw [hll] at hi; rw [cp]; omega, rfl⟩))⟩, (fun h => by cases h), by rw [hll]; exact hl, fun hwt => by rw [hll]; exact hw len (Nat.le_refl _) hwt⟩
      rw [hll] at hi
      have q := hf i (by omega)
      have e : ((List.range len).map f).getD i (0, 0) = f i := by rw [List.getD_eq_getElem?_getD, List.getElem?_map, List.getElem?_range hi]; rfl
      unfold keyAt valAt
      rw [e]
      exact ⟨q.1, by simpa [Nat.add_assoc] using q.2⟩

theorem open_op {n : Nat} {cs : List Value} {x : DataW H × List MemPlace} (h : DataW.trod enc Try.prog w 0 (fun _ => true) true n 39 cs = some x) :
    ∃ o : OpD, cs = [.int .i64 o.kind, .int .i64 o.key, .int .i64 o.val, .int .i64 o.hi] := by
  obtain ⟨y0, y1, y2, y3, m, _, hl, g0, g1, g2, g3⟩ := Go.Joins.trod_struct4 Try.underlying39 h
  rw [cop] at hl
  simp only [ci] at g0 g1 g2 g3
  match cs, hl with
  | [v0, v1, v2, v3], _ =>
    simp at g0 g1 g2 g3
    obtain ⟨a, e0, _, _⟩ := DataW.trod_int Try.underlying3 g0
    obtain ⟨b, e1, _, _⟩ := DataW.trod_int Try.underlying3 g1
    obtain ⟨c, e2, _, _⟩ := DataW.trod_int Try.underlying3 g2
    obtain ⟨d, e3, _, _⟩ := DataW.trod_int Try.underlying3 g3
    simp at e0 e1 e2 e3
    exact ⟨⟨a, b, c, d⟩, by rw [e0, e1, e2, e3]⟩

theorem open_ret {n : Nat} {cs : List Value} {x : DataW H × List MemPlace} (h : DataW.trod enc Try.prog w 0 (fun _ => true) true n 42 cs = some x) (hfz : w.noneFrozen x.2) :
    ∃ (r : RetD) (base : Option Addr) (cap g o : Nat), cs = [.bool r.ok, .int .i64 r.key, .int .i64 r.val, .slice base r.pairs.length cap] ∧ PairsAt w base g o r.pairs ∧ (base = none → r.pairs.length = 0 ∧ cap = 0) ∧ ((x.1.weights Try.prog 42).all (· ≤ reachBytes) = true → r.pairs.length * 16 ≤ 140737488351232) := by
  obtain ⟨y0, y1, y2, y3, m, hx, hl, g0, g1, g2, g3⟩ := Go.Joins.trod_struct4 Try.underlying42 h
  rw [crt] at hl
  simp only [ci, cb, cps] at g0 g1 g2 g3
  match cs, hl with
  | [v0, v1, v2, v3], _ =>
    simp at g0 g1 g2 g3
    obtain ⟨a, e0, _⟩ := DataW.trod_bool Try.underlying4 g0
    obtain ⟨b, e1, _, _⟩ := DataW.trod_int Try.underlying3 g1
    obtain ⟨c, e2, _, _⟩ := DataW.trod_int Try.underlying3 g2
    obtain ⟨base, cap, g, o, ps, e3, hp, hn, _, hw⟩ := open_pairs g3 (fun b o hm => hfz b o (by rw [hx]; simp [hm]))
    simp at e0 e1 e2 e3
    refine ⟨⟨a, b, c, ps⟩, base, cap, g, o, by rw [e0, e1, e2, e3], hp, hn, fun hwt => hw ?_⟩
    rw [hx] at hwt
    simp [DataW.weights, Try.underlying42, DataW.weightsEach, List.all_append] at hwt ⊢
    exact hwt.2.2.2

/-- An event with its list of pairs. -/
structure EvP where
  e : EvD
  pb : Option Addr
  pc : Nat
  pg : Nat
  po : Nat
instance : Inhabited EvP := ⟨⟨ev0, none, 0, 0, 0⟩⟩
def EvOk (w : World) (y : EvP) : Prop := PairsAt w y.pb y.pg y.po y.e.rt.pairs ∧ (y.pb = none → y.e.rt.pairs.length = 0 ∧ y.pc = 0)
theorem open_ev {n : Nat} {cs : List Value} {x : DataW H × List MemPlace} (h : DataW.trod enc Try.prog w 0 (fun _ => true) true n 55 cs = some x) (hfz : w.noneFrozen x.2) :
    ∃ y : EvP, cs = [.int .i64 y.e.th, .bool y.e.ret, .int .i64 y.e.op.kind, .int .i64 y.e.op.key, .int .i64 y.e.op.val, .int .i64 y.e.op.hi, .bool y.e.rt.ok, .int .i64 y.e.rt.key, .int .i64 y.e.rt.val, .slice y.pb y.e.rt.pairs.length y.pc] ∧ EvOk w y ∧ ((x.1.weights Try.prog 55).all (· ≤ reachBytes) = true → y.e.rt.pairs.length * 16 ≤ 140737488351232) := by
  obtain ⟨y0, y1, y2, y3, m, hx, hl, g0, g1, g2, g3⟩ := Go.Joins.trod_struct4 Try.underlying55 h
  rw [cev] at hl
  simp only [ci, cb, cop, crt] at g0 g1 g2 g3
  match cs, hl with
  | [v0, v1, v2, v3, v4, v5, v6, v7, v8, v9], _ =>
    simp at g0 g1 g2 g3
    obtain ⟨a, e0, _, _⟩ := DataW.trod_int Try.underlying3 g0
    obtain ⟨b, e1, _⟩ := DataW.trod_bool Try.underlying4 g1
    obtain ⟨c, e2⟩ := open_op g2
    obtain ⟨r, base, cap, g, o, e3, hp, hn, hw⟩ := open_ret g3 (fun b o hm => hfz b o (by rw [hx]; simp [hm]))
    simp at e0 e1 e2 e3
    obtain ⟨e4, e5, e6, e7⟩ := e2
    obtain ⟨e8, e9, e10, e11⟩ := e3
    refine ⟨⟨⟨a, b, c, r⟩, base, cap, g, o⟩, by rw [e0, e1, e4, e5, e6, e7, e8, e9, e10, e11], ⟨hp, hn⟩, fun hwt => hw ?_⟩
    rw [hx] at hwt
    simp [DataW.weights, Try.underlying55, DataW.weightsEach, List.all_append] at hwt ⊢
    exact hwt.2.2.2
theorem all_range {α : Type} {P : Program} {e : TypeId} {D : Nat → DataW H} {r : Nat} : ∀ {l : List Nat}, ((DataW.weightsAll P e (l.map D)).all (· ≤ r) = true) → ∀ i ∈ l, ((D i).weights P e).all (· ≤ r) = true
  | [], _, i, hi => by cases hi
  | a :: t, h, i, hi => by
    simp only [List.map_cons, DataW.weightsAll, List.all_append, Bool.and_eq_true] at h
    rcases List.mem_cons.1 hi with rfl | hi
    · exact h.1
    · exact all_range (α := α) h.2 i hi

theorem open_events {n : Nat} {a0 : Option Addr} {len cap : Nat} {x : DataW H × List MemPlace} (h : DataW.trod enc Try.prog w 0 (fun _ => true) true n 22 [.slice a0 len cap] = some x) (hwt : (x.1.weights Try.prog 22).all (· ≤ reachBytes) = true) (hfz : w.noneFrozen x.2) :
    ∃ (b o : Nat) (hs : List EvD) (pb : Nat → Option Addr) (pc pg po : Nat → Nat), len = hs.length ∧ EvsAt w a0 b o hs pb pc pg po ∧ (a0 = none → len = 0 ∧ cap = 0) ∧ hs.length * 96 ≤ 140737488351232 := by
  rcases open_slice Try.underlying22 h with ⟨hcs, _⟩ | ⟨a, l, c, m, n, D, Pl, hcs, _, hl, hm, hme, hx, hel⟩
  · simp at hcs
    obtain ⟨rfl, rfl, rfl⟩ := hcs
    exact ⟨0, 0, [], fun _ => none, fun _ => 0, fun _ => 0, fun _ => 0, rfl, ⟨fun h => absurd rfl h, fun h => absurd rfl h, by simp, fun i hi => by simp at hi, fun i hi => by simp at hi, fun i hi => by simp at hi, fun i hi => by simp at hi, fun i hi => by simp at hi⟩, fun _ => ⟨rfl, rfl⟩, by simp⟩
  · simp at hcs
    obtain ⟨rfl, rfl, rfl⟩ := hcs
    simp at hme
    subst hme
    rw [hx] at hwt
    have be : Try.prog.bytesOf 55 = 96 := by kernel_rfl
    simp only [DataW.weights, Try.underlying22, be, List.all_cons, Bool.and_eq_true, decide_eq_true_eq, List.all_append] at hwt
    obtain ⟨hw1, hw2, _⟩ := hwt
    have hlb : len * 96 ≤ 140737488351232 := by simp [reachBytes] at hw1; omega
    by_cases hlen : len = 0
    · subst hlen
      exact ⟨0, 0, [], fun _ => none, fun _ => 0, fun _ => 0, fun _ => 0, rfl, ⟨fun h => absurd rfl h, fun h => absurd rfl h, by simp, fun i hi => by simp at hi, fun i hi => by simp at hi, fun i hi => by simp at hi, fun i hi => by simp at hi, fun i hi => by simp at hi⟩, (fun h => by cases h), by simp⟩
    · have key : ∀ i, i < len → ∃ y : EvP, (w.cell? (a.add (i * 10)) = some (.int .i64 y.e.th) ∧ w.cell? (a.add (i * 10 + 1)) = some (.bool y.e.ret) ∧ w.cell? (a.add (i * 10 + 2)) = some (.int .i64 y.e.op.kind) ∧ w.cell? (a.add (i * 10 + 3)) = some (.int .i64 y.e.op.key) ∧ w.cell? (a.add (i * 10 + 4)) = some (.int .i64 y.e.op.val) ∧ w.cell? (a.add (i * 10 + 5)) = some (.int .i64 y.e.op.hi) ∧ w.cell? (a.add (i * 10 + 6)) = some (.bool y.e.rt.ok) ∧ w.cell? (a.add (i * 10 + 7)) = some (.int .i64 y.e.rt.key) ∧ w.cell? (a.add (i * 10 + 8)) = some (.int .i64 y.e.rt.val) ∧ w.cell? (a.add (i * 10 + 9)) = some (.slice y.pb y.e.rt.pairs.length y.pc)) ∧ EvOk w y ∧ y.e.rt.pairs.length * 16 ≤ 140737488351232 := by
        intro i hi
        obtain ⟨cs, h1, h2⟩ := hel i (by omega)
        obtain ⟨y, rfl, hy, hyw⟩ := open_ev h2 (fun b o hm => hfz b o (by rw [hx]; exact List.mem_append_right _ (List.mem_flatMap.2 ⟨i, List.mem_range.2 (by omega), hm⟩)))
        rw [cev] at h1
        obtain ⟨_, _, hcell⟩ := World.cells?_some h1
        have e0 := hcell 0 (by omega)
        have e1 := hcell 1 (by omega)
        have e2 := hcell 2 (by omega)
        have e3 := hcell 3 (by omega)
        have e4 := hcell 4 (by omega)
        have e5 := hcell 5 (by omega)
        have e6 := hcell 6 (by omega)
        have e7 := hcell 7 (by omega)
        have e8 := hcell 8 (by omega)
        have e9 := hcell 9 (by omega)
        rw [Deep.add_add] at e0 e1 e2 e3 e4 e5 e6 e7 e8 e9
        refine ⟨y, ⟨by simpa using e0, by simpa using e1, by simpa using e2, by simpa using e3, by simpa using e4, by simpa using e5, by simpa using e6, by simpa using e7, by simpa using e8, by simpa using e9⟩, hy, hyw ?_⟩
        exact all_range (α := Unit) hw2 i (by simpa using hi)
      obtain ⟨f, hf⟩ := choose_lt key
      obtain ⟨b, o, s⟩ := a
      have hs : s = none := by
        have := (hf 0 (by omega)).1.1
        simpa [Addr.add] using World.cell?_spot this
      subst hs
      simp only [addr_add'] at hf
      have hll : ((List.range len).map (fun i => (f i).e)).length = len := by simp
      have hev : ∀ i, i < len → evAt ((List.range len).map (fun i => (f i).e)) i = (f i).e := by
        intro i hi
        unfold evAt
        rw [List.getD_eq_getElem?_getD, List.getElem?_map, List.getElem?_range hi]
        rfl
      refine ⟨b, o, (List.range len).map (fun i => (f i).e), fun i => (f i).pb, fun i => (f i).pc, fun i => (f i).pg, fun i => (f i).po, hll.symm, ⟨fun _ => rfl, fun _ => World.block_lt_of_cell? w _ (hf 0 (by omega)).1.1, by rw [hll]; omega, fun i hi => ?_, fun i hi => ?_, fun i hi => ?_, fun i hi => ?_, fun i hi => hfz b (o + i) (by rw [hx]; exact List.mem_append_left _ (MemPlace.mem_row.2 ⟨i, by rw [hll] at hi; rw [cev]; omega, rfl⟩))⟩, (fun h => by cases h), by rw [hll]; exact hlb⟩
      · rw [hll] at hi
        rw [hev i hi]
        have q := (hf i hi).1
        simp only [← Nat.add_assoc] at q
        exact ⟨q.1, q.2.1⟩
      · rw [hll] at hi
        rw [hev i hi]
        have q := (hf i hi).1
        simp only [← Nat.add_assoc] at q
        exact ⟨q.2.2.1, q.2.2.2.1, q.2.2.2.2.1, q.2.2.2.2.2.1⟩
      · rw [hll] at hi
        rw [hev i hi]
        have q := (hf i hi).1
        simp only [← Nat.add_assoc] at q
        exact ⟨q.2.2.2.2.2.2.1, q.2.2.2.2.2.2.2.1, q.2.2.2.2.2.2.2.2.1, q.2.2.2.2.2.2.2.2.2⟩
      · rw [hll] at hi
        rw [hev i hi]
        obtain ⟨_, q, r⟩ := hf i hi
        exact ⟨q.1, q.2, by omega⟩
end

end Go.Proofs.Ytgbfippcnmpgfaa
