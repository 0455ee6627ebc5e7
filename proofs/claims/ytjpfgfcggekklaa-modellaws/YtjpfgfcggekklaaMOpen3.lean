/- Layer 6: the Case of the laws, read as data. Layer 6: the Case of the laws, read as data, with the bounds of its keys. -/
import Derived.Test.YtjpfgfcggekklaaML4
import Derived.ProofKit
import Derived.OpenShut
import Derived.Deep.Slices
import Derived.Deep.Strs
import Derived.Lib.SmallJoins
namespace Go.Proofs.Ytjpfgfcggekklaa
open Go.ChangeShapes Go.WideShapes Go.ChangeAt Go.RowKit Go.Deep

theorem struct8 {P : Program} {H : Type} {enc : TypeId × Value → H} {w : World} {base : Nat} {spare : Nat → Bool} {held : Bool} {t : TypeId} {f0 f1 f2 f3 f4 f5 f6 f7 : Field} {fuel : Nat} {cs : List Value} {x : DataW H × List MemPlace} (ht : P.underlying t = some (.struct #[f0, f1, f2, f3, f4, f5, f6, f7])) (h : DataW.trod enc P w base spare held fuel t cs = some x) :
    ∃ y0 y1 y2 y3 y4 y5 y6 y7 n, x.1 = .agg [y0.1, y1.1, y2.1, y3.1, y4.1, y5.1, y6.1, y7.1] ∧ cs.length = P.cellsOf t ∧ DataW.trod enc P w base spare held n f0.type ((cs.drop f0.offset).take (P.cellsOf f0.type)) = some y0 ∧
      DataW.trod enc P w base spare held n f1.type ((cs.drop f1.offset).take (P.cellsOf f1.type)) = some y1 ∧ DataW.trod enc P w base spare held n f2.type ((cs.drop f2.offset).take (P.cellsOf f2.type)) = some y2 ∧
      DataW.trod enc P w base spare held n f3.type ((cs.drop f3.offset).take (P.cellsOf f3.type)) = some y3 ∧ DataW.trod enc P w base spare held n f4.type ((cs.drop f4.offset).take (P.cellsOf f4.type)) = some y4 ∧
      DataW.trod enc P w base spare held n f5.type ((cs.drop f5.offset).take (P.cellsOf f5.type)) = some y5 ∧ DataW.trod enc P w base spare held n f6.type ((cs.drop f6.offset).take (P.cellsOf f6.type)) = some y6 ∧
      DataW.trod enc P w base spare held n f7.type ((cs.drop f7.offset).take (P.cellsOf f7.type)) = some y7 := by
  obtain ⟨xs, n, _, rfl, hl, hlen, hf⟩ := DataW.trod_struct ht h
  match xs, hlen with
  | [y0, y1, y2, y3, y4, y5, y6, y7], _ => exact ⟨y0, y1, y2, y3, y4, y5, y6, y7, n, by simp, hl, by simpa using hf 0 f0 rfl, by simpa using hf 1 f1 rfl, by simpa using hf 2 f2 rfl, by simpa using hf 3 f3 rfl, by simpa using hf 4 f4 rfl, by simpa using hf 5 f5 rfl, by simpa using hf 6 f6 rfl, by simpa using hf 7 f7 rfl⟩
instance : Inhabited OpD := ⟨⟨0, 0, 0, 0⟩⟩
theorem cops : Try.prog.cellsOf 23 = 1 := by kernel_rfl
theorem ccase : Try.prog.cellsOf 29 = 14 := by kernel_rfl
theorem own : ownKnob Try.prog.godebug = none := by kernel_rfl
theorem laidOut : laidOutB Try.prog = true := by kernel_rfl
theorem ci : Try.prog.cellsOf 3 = 1 := by kernel_rfl
theorem cb : Try.prog.cellsOf 4 = 1 := by kernel_rfl
theorem cps : Try.prog.cellsOf 22 = 1 := by kernel_rfl
theorem cp : Try.prog.cellsOf 59 = 2 := by kernel_rfl
theorem cop : Try.prog.cellsOf 25 = 4 := by kernel_rfl
theorem crt : Try.prog.cellsOf 27 = 4 := by kernel_rfl
theorem bp : Try.prog.bytesOf 59 = 16 := by kernel_rfl

section
variable {H : Type} {enc : TypeId × Value → H} {w : World}

theorem open_pair {n : Nat} {cs : List Value} {x : DataW H × List MemPlace} (h : DataW.trod enc Try.prog w 0 (fun _ => true) true n 59 cs = some x) :
    ∃ p : Int × Int, cs = [.int .i64 p.1, .int .i64 p.2] := by
  obtain ⟨y0, y1, m, _, hl, g0, g1⟩ := trod_struct2 Try.underlying59 h
  rw [cp] at hl
  simp only [ci] at g0 g1
  match cs, hl with
  | [v0, v1], _ =>
    simp at g0 g1
    obtain ⟨a, e0, _, _⟩ := DataW.trod_int Try.underlying3 g0
    obtain ⟨b, e1, _, _⟩ := DataW.trod_int Try.underlying3 g1
    simp at e0 e1
    exact ⟨(a, b), by rw [e0, e1]⟩

theorem open_pairs {n : Nat} {cs : List Value} {x : DataW H × List MemPlace} (h : DataW.trod enc Try.prog w 0 (fun _ => true) true n 22 cs = some x) :
    ∃ (base : Option Addr) (cap g o : Nat) (ps : PL), cs = [.slice base ps.length cap] ∧ PairsAt w base g o ps ∧ (base = none → ps.length = 0 ∧ cap = 0) ∧ ps.length ≤ cap ∧ ((x.1.weights Try.prog 22).all (· ≤ reachBytes) = true → ps.length * 16 ≤ 140737488351232) := by
  rcases open_slice Try.underlying22 h with ⟨hcs, _⟩ | ⟨a, len, cap, m, n, D, Pl, hcs, _, hl, hm, hme, hx, hel⟩
  · exact ⟨none, 0, 0, 0, [], by simpa using hcs, ⟨fun h => absurd rfl h, fun h => absurd rfl h, fun i hi => by simp at hi, by simp⟩, fun _ => ⟨rfl, rfl⟩, Nat.le_refl _, fun _ => by simp⟩
  · simp at hme
    subst hme
    have hw : ∀ k, k ≤ len → (x.1.weights Try.prog 22).all (· ≤ reachBytes) = true → k * 16 ≤ 140737488351232 := by
      intro k hk hwt
      rw [hx] at hwt
      simp only [DataW.weights, Try.underlying22, bp, List.all_cons, Bool.and_eq_true, decide_eq_true_eq] at hwt
      have := hwt.1
      simp [reachBytes] at this
      omega
    by_cases hlen : len = 0
    · subst hlen
      exact ⟨some a, m, 0, 0, [], hcs, ⟨fun h => absurd rfl h, fun h => absurd rfl h, fun i hi => by simp at hi, by simp⟩, (fun h => by cases h), hl, fun _ => by simp⟩
    · have key : ∀ i, i < m → ∃ y : Int × Int, w.cell? (a.add (i * 2)) = some (.int .i64 y.1) ∧ w.cell? (a.add (i * 2 + 1)) = some (.int .i64 y.2) := by
        intro i hi
        obtain ⟨cs, h1, h2⟩ := hel i hi
        obtain ⟨p, rfl⟩ := open_pair h2
        rw [cp] at h1
        obtain ⟨_, _, hcell⟩ := World.cells?_some h1
        have e0 := hcell 0 (by omega)
        have e1 := hcell 1 (by omega)
        rw [Deep.add_add] at e0 e1
        exact ⟨p, by simpa using e0, by simpa using e1⟩
      obtain ⟨f, hf⟩ := choose_lt key
      obtain ⟨b, o, s⟩ := a
      have hs : s = none := by
        have := (hf 0 (by omega)).1
        simpa [Addr.add] using World.cell?_spot this
      subst hs
      simp only [addr_add'] at hf
      have hll : ((List.range len).map f).length = len := by simp
      refine ⟨some ⟨b, o, none⟩, m, b, o, (List.range len).map f, by rw [hll]; exact hcs, ⟨fun _ => rfl, fun _ => World.block_lt_of_cell? w _ (hf 0 (by omega)).1, fun i hi => ?_, by rw [hll]; omega⟩, (fun h => by cases h), by rw [hll]; exact hl, fun hwt => by rw [hll]; exact hw len (Nat.le_refl _) hwt⟩
      rw [hll] at hi
      have q := hf i (by omega)
      have e : ((List.range len).map f).getD i (0, 0) = f i := by rw [List.getD_eq_getElem?_getD, List.getElem?_map, List.getElem?_range hi]; rfl
      unfold keyAt valAt
      rw [e]
      exact ⟨q.1, by simpa [Nat.add_assoc] using q.2⟩

theorem open_op {n : Nat} {cs : List Value} {x : DataW H × List MemPlace} (h : DataW.trod enc Try.prog w 0 (fun _ => true) true n 25 cs = some x) :
    ∃ o : OpD, cs = [.int .i64 o.kind, .int .i64 o.key, .int .i64 o.val, .int .i64 o.hi] := by
  obtain ⟨y0, y1, y2, y3, m, _, hl, g0, g1, g2, g3⟩ := Go.Joins.trod_struct4 Try.underlying25 h
  rw [cop] at hl
  simp only [ci] at g0 g1 g2 g3
  match cs, hl with
  | [v0, v1, v2, v3], _ =>
    simp at g0 g1 g2 g3
    obtain ⟨a, e0, _, _⟩ := DataW.trod_int Try.underlying3 g0
    obtain ⟨b, e1, _, _⟩ := DataW.trod_int Try.underlying3 g1
    obtain ⟨c, e2, _, _⟩ := DataW.trod_int Try.underlying3 g2
    obtain ⟨d, e3, _, _⟩ := DataW.trod_int Try.underlying3 g3
    simp at e0 e1 e2 e3
    exact ⟨⟨a, b, c, d⟩, by rw [e0, e1, e2, e3]⟩

theorem open_ops {n : Nat} {cs : List Value} {x : DataW H × List MemPlace} (h : DataW.trod enc Try.prog w 0 (fun _ => true) true n 23 cs = some x) :
    ∃ (base : Option Addr) (cap g o : Nat) (l : List OpD), cs = [.slice base l.length cap] ∧ OpsAt w base g o l ∧ (base = none → l.length = 0 ∧ cap = 0) ∧ l.length ≤ cap := by
  rcases open_slice Try.underlying23 h with ⟨hcs, _⟩ | ⟨a, len, cap, m, n, D, Pl, hcs, _, hl, hm, hme, hx, hel⟩
  · exact ⟨none, 0, 0, 0, [], by simpa using hcs, ⟨fun h => absurd rfl h, fun h => absurd rfl h, fun i hi => by simp at hi, by simp⟩, fun _ => ⟨rfl, rfl⟩, Nat.le_refl _⟩
  · simp at hme
    subst hme
    by_cases hlen : len = 0
    · subst hlen
      exact ⟨some a, m, 0, 0, [], hcs, ⟨fun h => absurd rfl h, fun h => absurd rfl h, fun i hi => by simp at hi, by simp⟩, (fun h => by cases h), hl⟩
    · have key : ∀ i, i < m → ∃ y : OpD, w.cell? (a.add (i * 4)) = some (.int .i64 y.kind) ∧ w.cell? (a.add (i * 4 + 1)) = some (.int .i64 y.key) ∧ w.cell? (a.add (i * 4 + 2)) = some (.int .i64 y.val) ∧ w.cell? (a.add (i * 4 + 3)) = some (.int .i64 y.hi) := by
        intro i hi
        obtain ⟨cs, h1, h2⟩ := hel i hi
        obtain ⟨p, rfl⟩ := open_op h2
        rw [cop] at h1
        obtain ⟨_, _, hcell⟩ := World.cells?_some h1
        have e0 := hcell 0 (by omega)
        have e1 := hcell 1 (by omega)
        have e2 := hcell 2 (by omega)
        have e3 := hcell 3 (by omega)
        rw [Deep.add_add] at e0 e1 e2 e3
        exact ⟨p, by simpa using e0, by simpa using e1, by simpa using e2, by simpa using e3⟩
      obtain ⟨f, hf⟩ := choose_lt key
      obtain ⟨b, o, s⟩ := a
      have hs : s = none := by
        have := (hf 0 (by omega)).1
        simpa [Addr.add] using World.cell?_spot this
      subst hs
      simp only [addr_add'] at hf
      have hll : ((List.range len).map f).length = len := by simp
      refine ⟨some ⟨b, o, none⟩, m, b, o, (List.range len).map f, by rw [hll]; exact hcs, ⟨fun _ => rfl, fun _ => World.block_lt_of_cell? w _ (hf 0 (by omega)).1, fun i hi => ?_, by rw [hll]; omega⟩, (fun h => by cases h), by rw [hll]; exact hl⟩
      rw [hll] at hi
      have q := hf i (by omega)
      have e : opAt ((List.range len).map f) i = f i := by unfold opAt; rw [List.getD_eq_getElem?_getD, List.getElem?_map, List.getElem?_range hi]; rfl
      rw [e]
      simp only [← Nat.add_assoc] at q
      exact q
theorem open_ret {n : Nat} {cs : List Value} {x : DataW H × List MemPlace} (h : DataW.trod enc Try.prog w 0 (fun _ => true) true n 27 cs = some x) :
    ∃ (r : RetD) (base : Option Addr) (cap g o : Nat), cs = [.bool r.ok, .int .i64 r.key, .int .i64 r.val, .slice base r.pairs.length cap] ∧ PairsAt w base g o r.pairs ∧ (base = none → r.pairs.length = 0 ∧ cap = 0) ∧ ((x.1.weights Try.prog 27).all (· ≤ reachBytes) = true → r.pairs.length * 16 ≤ 140737488351232) := by
  obtain ⟨y0, y1, y2, y3, m, hx, hl, g0, g1, g2, g3⟩ := Go.Joins.trod_struct4 Try.underlying27 h
  rw [crt] at hl
  simp only [ci, cb, cps] at g0 g1 g2 g3
  match cs, hl with
  | [v0, v1, v2, v3], _ =>
    simp at g0 g1 g2 g3
    obtain ⟨a, e0, _⟩ := DataW.trod_bool Try.underlying4 g0
    obtain ⟨b, e1, _, _⟩ := DataW.trod_int Try.underlying3 g1
    obtain ⟨c, e2, _, _⟩ := DataW.trod_int Try.underlying3 g2
    obtain ⟨base, cap, g, o, ps, e3, hp, hn, _, hw⟩ := open_pairs g3
    simp at e0 e1 e2 e3
    refine ⟨⟨a, b, c, ps⟩, base, cap, g, o, by rw [e0, e1, e2, e3], hp, hn, fun hwt => hw ?_⟩
    rw [hx] at hwt
    simp [DataW.weights, Try.underlying27, DataW.weightsEach, List.all_append] at hwt ⊢
    exact hwt.2.2.2


theorem open_case {n : Nat} {cs : List Value} {x : DataW H × List MemPlace} (h : DataW.trod enc Try.prog w 0 (fun _ => true) true n 29 cs = some x) :
    ∃ (ma na oa qa ra : Option Addr) (mc mg mo nc og oo oc qg qo qc rg ro rc : Nat) (Ms Ns : PL) (Os Qs : List OpD) (op : OpD) (rt : RetD) (u v : Int), cs = [.slice ma Ms.length mc, .slice na Ns.length nc, .slice oa Os.length oc, .slice qa Qs.length qc, .int .i64 op.kind, .int .i64 op.key, .int .i64 op.val, .int .i64 op.hi, .bool rt.ok, .int .i64 rt.key, .int .i64 rt.val, .slice ra rt.pairs.length rc, .int .i64 u, .int .i64 v] ∧
      PairsAt w ma mg mo Ms ∧ NilOk ma Ms.length mc ∧ Ms.length ≤ mc ∧ Ns.length ≤ nc ∧ OpsAt w oa og oo Os ∧ NilOk oa Os.length oc ∧ Os.length ≤ oc ∧ OpsAt w qa qg qo Qs ∧ NilOk qa Qs.length qc ∧ Qs.length ≤ qc ∧ PairsAt w ra rg ro rt.pairs ∧ NilOk ra rt.pairs.length rc ∧ ((x.1.weights Try.prog 29).all (· ≤ reachBytes) = true → rt.pairs.length * 16 ≤ 140737488351232) := by
  obtain ⟨y0, y1, y2, y3, y4, y5, y6, y7, m, hx, hl, g0, g1, g2, g3, g4, g5, g6, g7⟩ := struct8 Try.underlying29 h
  rw [ccase] at hl
  simp only [ci, cop, crt, cps, cops] at g0 g1 g2 g3 g4 g5 g6 g7
  match cs, hl with
  | [v0, v1, v2, v3, v4, v5, v6, v7, v8, v9, v10, v11, v12, v13], _ =>
    simp at g0 g1 g2 g3 g4 g5 g6 g7
    obtain ⟨ma, mc, mg, mo, Ms, e0, hm1, hm2, hm3, _⟩ := open_pairs g0
    obtain ⟨na, nc, ng, no, Ns, e1, _, _, hn3, _⟩ := open_pairs g1
    obtain ⟨oa, oc, og, oo, Os, e2, ho1, ho2, ho3⟩ := open_ops g2
    obtain ⟨qa, qc, qg, qo, Qs, e3, hq1, hq2, hq3⟩ := open_ops g3
    obtain ⟨op, e4⟩ := open_op g4
    obtain ⟨rt, ra, rc, rg, ro, e5, hr1, hr2, hr3⟩ := open_ret g5
    obtain ⟨u, e6, _, _⟩ := DataW.trod_int Try.underlying3 g6
    obtain ⟨v, e7, _, _⟩ := DataW.trod_int Try.underlying3 g7
    simp at e0 e1 e2 e3 e4 e5 e6 e7
    obtain ⟨a4, a5, a6, a7⟩ := e4
    obtain ⟨a8, a9, a10, a11⟩ := e5
    refine ⟨ma, na, oa, qa, ra, mc, mg, mo, nc, og, oo, oc, qg, qo, qc, rg, ro, rc, Ms, Ns, Os, Qs, op, rt, u, v, by rw [e0, e1, e2, e3, a4, a5, a6, a7, a8, a9, a10, a11, e6, e7], hm1, hm2, hm3, hn3, ho1, ho2, ho3, hq1, hq2, hq3, hr1, hr2, fun hwt => hr3 ?_⟩
    rw [hx] at hwt
    simp [DataW.weights, Try.underlying29, DataW.weightsEach, List.all_append] at hwt ⊢
    exact hwt.2.2.2.2.2.1
end
end Go.Proofs.Ytjpfgfcggekklaa
namespace Go.Proofs.Ytjpfgfcggekklaa
open Go.ChangeShapes Go.WideShapes Go.ChangeAt Go.RowKit Go.Deep

section
variable {H : Type} {enc : TypeId × Value → H} {w : World}
theorem open_case2 {n : Nat} {cs : List Value} {x : DataW H × List MemPlace} (h : DataW.trod enc Try.prog w 0 (fun _ => true) true n 29 cs = some x) :
    ∃ (ma na oa qa ra : Option Addr) (mc mg mo nc ng no og oo oc qg qo qc rg ro rc : Nat) (Ms Ns : PL) (Os Qs : List OpD) (op : OpD) (rt : RetD) (u v : Int), cs = [.slice ma Ms.length mc, .slice na Ns.length nc, .slice oa Os.length oc, .slice qa Qs.length qc, .int .i64 op.kind, .int .i64 op.key, .int .i64 op.val, .int .i64 op.hi, .bool rt.ok, .int .i64 rt.key, .int .i64 rt.val, .slice ra rt.pairs.length rc, .int .i64 u, .int .i64 v] ∧
      PairsAt w ma mg mo Ms ∧ NilOk ma Ms.length mc ∧ Ms.length ≤ mc ∧ PairsAt w na ng no Ns ∧ NilOk na Ns.length nc ∧ Ns.length ≤ nc ∧ OpsAt w oa og oo Os ∧ NilOk oa Os.length oc ∧ Os.length ≤ oc ∧ OpsAt w qa qg qo Qs ∧ NilOk qa Qs.length qc ∧ Qs.length ≤ qc ∧ PairsAt w ra rg ro rt.pairs ∧ NilOk ra rt.pairs.length rc ∧ (Lit.int .i64 u).wf = true ∧ (Lit.int .i64 v).wf = true := by
  obtain ⟨y0, y1, y2, y3, y4, y5, y6, y7, m, _, hl, g0, g1, g2, g3, g4, g5, g6, g7⟩ := struct8 Try.underlying29 h
  rw [ccase] at hl
  simp only [ci, cop, crt, cps, cops] at g0 g1 g2 g3 g4 g5 g6 g7
  match cs, hl with
  | [v0, v1, v2, v3, v4, v5, v6, v7, v8, v9, v10, v11, v12, v13], _ =>
    simp at g0 g1 g2 g3 g4 g5 g6 g7
    obtain ⟨ma, mc, mg, mo, Ms, e0, hm1, hm2, hm3, _⟩ := open_pairs g0
    obtain ⟨na, nc, ng, no, Ns, e1, hn1, hn2, hn3, _⟩ := open_pairs g1
    obtain ⟨oa, oc, og, oo, Os, e2, ho1, ho2, ho3⟩ := open_ops g2
    obtain ⟨qa, qc, qg, qo, Qs, e3, hq1, hq2, hq3⟩ := open_ops g3
    obtain ⟨op, e4⟩ := open_op g4
    obtain ⟨rt, ra, rc, rg, ro, e5, hr1, hr2, _⟩ := open_ret g5
    obtain ⟨u, e6, _, u2⟩ := DataW.trod_int Try.underlying3 g6
    obtain ⟨v, e7, _, w2⟩ := DataW.trod_int Try.underlying3 g7
    simp at e0 e1 e2 e3 e4 e5 e6 e7
    obtain ⟨a4, a5, a6, a7⟩ := e4
    obtain ⟨a8, a9, a10, a11⟩ := e5
    refine ⟨ma, na, oa, qa, ra, mc, mg, mo, nc, ng, no, og, oo, oc, qg, qo, qc, rg, ro, rc, Ms, Ns, Os, Qs, op, rt, u, v, by rw [e0, e1, e2, e3, a4, a5, a6, a7, a8, a9, a10, a11, e6, e7], hm1, hm2, hm3, hn1, hn2, hn3, ho1, ho2, ho3, hq1, hq2, hq3, hr1, hr2, u2, w2⟩
end
end Go.Proofs.Ytjpfgfcggekklaa
namespace Go.Proofs.Ytjpfgfcggekklaa
open Go.ChangeShapes Go.WideShapes Go.ChangeAt Go.RowKit Go.Deep

section
variable {H : Type} {enc : TypeId × Value → H} {w : World}
theorem open_pair_wf {n : Nat} {cs : List Value} {x : DataW H × List MemPlace} (h : DataW.trod enc Try.prog w 0 (fun _ => true) true n 59 cs = some x) :
    ∃ p : Int × Int, cs = [.int .i64 p.1, .int .i64 p.2] ∧ (Lit.int .i64 p.1).wf = true := by
  obtain ⟨y0, y1, m, _, hl, g0, g1⟩ := trod_struct2 Try.underlying59 h
  rw [cp] at hl
  simp only [ci] at g0 g1
  match cs, hl with
  | [v0, v1], _ =>
    simp at g0 g1
    obtain ⟨a, e0, _, u2⟩ := DataW.trod_int Try.underlying3 g0
    obtain ⟨b, e1, _, _⟩ := DataW.trod_int Try.underlying3 g1
    simp at e0 e1
    exact ⟨(a, b), by rw [e0, e1], u2⟩

theorem open_pairs_wf {n : Nat} {cs : List Value} {x : DataW H × List MemPlace} (h : DataW.trod enc Try.prog w 0 (fun _ => true) true n 22 cs = some x) :
    ∃ (base : Option Addr) (cap g o : Nat) (ps : PL), cs = [.slice base ps.length cap] ∧ PairsAt w base g o ps ∧ (base = none → ps.length = 0 ∧ cap = 0) ∧ ps.length ≤ cap ∧ (∀ i, i < ps.length → (Lit.int .i64 (keyAt ps i)).wf = true) := by
  rcases open_slice Try.underlying22 h with ⟨hcs, _⟩ | ⟨a, len, cap, m, n, D, Pl, hcs, _, hl, hm, hme, hx, hel⟩
  · exact ⟨none, 0, 0, 0, [], by simpa using hcs, ⟨fun h => absurd rfl h, fun h => absurd rfl h, fun i hi => by simp at hi, by simp⟩, fun _ => ⟨rfl, rfl⟩, Nat.le_refl _, fun i hi => by simp at hi⟩
  · simp at hme
    subst hme
    by_cases hlen : len = 0
    · subst hlen
      exact ⟨some a, m, 0, 0, [], hcs, ⟨fun h => absurd rfl h, fun h => absurd rfl h, fun i hi => by simp at hi, by simp⟩, (fun h => by cases h), hl, fun i hi => by simp at hi⟩
    · have key : ∀ i, i < m → ∃ y : Int × Int, w.cell? (a.add (i * 2)) = some (.int .i64 y.1) ∧ w.cell? (a.add (i * 2 + 1)) = some (.int .i64 y.2) ∧ (Lit.int .i64 y.1).wf = true := by
        intro i hi
        obtain ⟨cs, h1, h2⟩ := hel i hi
        obtain ⟨p, rfl, pw⟩ := open_pair_wf h2
        rw [cp] at h1
        obtain ⟨_, _, hcell⟩ := World.cells?_some h1
        have e0 := hcell 0 (by omega)
        have e1 := hcell 1 (by omega)
        rw [Deep.add_add] at e0 e1
        exact ⟨p, by simpa using e0, by simpa using e1, pw⟩
      obtain ⟨f, hf⟩ := choose_lt key
      obtain ⟨b, o, s⟩ := a
      have hs : s = none := by
        have := (hf 0 (by omega)).1
        simpa [Addr.add] using World.cell?_spot this
      subst hs
      simp only [addr_add'] at hf
      have hll : ((List.range len).map f).length = len := by simp
      refine ⟨some ⟨b, o, none⟩, m, b, o, (List.range len).map f, by rw [hll]; exact hcs, ⟨fun _ => rfl, fun _ => World.block_lt_of_cell? w _ (hf 0 (by omega)).1, fun i hi => ?_, by rw [hll]; omega⟩, (fun h => by cases h), by rw [hll]; exact hl, fun i hi => ?_⟩
      · rw [hll] at hi
        have q := hf i (by omega)
        have e : ((List.range len).map f).getD i (0, 0) = f i := by rw [List.getD_eq_getElem?_getD, List.getElem?_map, List.getElem?_range hi]; rfl
        unfold keyAt valAt
        rw [e]
        exact ⟨q.1, by simpa [Nat.add_assoc] using q.2.1⟩
      · rw [hll] at hi
        have q := hf i (by omega)
        have e : ((List.range len).map f).getD i (0, 0) = f i := by rw [List.getD_eq_getElem?_getD, List.getElem?_map, List.getElem?_range hi]; rfl
        unfold keyAt
        rw [e]
        exact q.2.2

theorem open_case3 {n : Nat} {cs : List Value} {x : DataW H × List MemPlace} (h : DataW.trod enc Try.prog w 0 (fun _ => true) true n 29 cs = some x) :
    ∃ (ma na oa qa ra : Option Addr) (mc mg mo nc ng no og oo oc qg qo qc rg ro rc : Nat) (Ms Ns : PL) (Os Qs : List OpD) (op : OpD) (rt : RetD) (u v : Int), cs = [.slice ma Ms.length mc, .slice na Ns.length nc, .slice oa Os.length oc, .slice qa Qs.length qc, .int .i64 op.kind, .int .i64 op.key, .int .i64 op.val, .int .i64 op.hi, .bool rt.ok, .int .i64 rt.key, .int .i64 rt.val, .slice ra rt.pairs.length rc, .int .i64 u, .int .i64 v] ∧
      PairsAt w ma mg mo Ms ∧ NilOk ma Ms.length mc ∧ Ms.length ≤ mc ∧ PairsAt w na ng no Ns ∧ NilOk na Ns.length nc ∧ Ns.length ≤ nc ∧ OpsAt w oa og oo Os ∧ NilOk oa Os.length oc ∧ Os.length ≤ oc ∧ OpsAt w qa qg qo Qs ∧ NilOk qa Qs.length qc ∧ Qs.length ≤ qc ∧ PairsAt w ra rg ro rt.pairs ∧ NilOk ra rt.pairs.length rc ∧ (∀ i, i < Ms.length → (Lit.int .i64 (keyAt Ms i)).wf = true) ∧ (Lit.int .i64 u).wf = true ∧ (Lit.int .i64 v).wf = true := by
  obtain ⟨y0, y1, y2, y3, y4, y5, y6, y7, m, _, hl, g0, g1, g2, g3, g4, g5, g6, g7⟩ := struct8 Try.underlying29 h
  rw [ccase] at hl
  simp only [ci, cop, crt, cps, cops] at g0 g1 g2 g3 g4 g5 g6 g7
  match cs, hl with
  | [v0, v1, v2, v3, v4, v5, v6, v7, v8, v9, v10, v11, v12, v13], _ =>
    simp at g0 g1 g2 g3 g4 g5 g6 g7
    obtain ⟨ma, mc, mg, mo, Ms, e0, hm1, hm2, hm3, hm4⟩ := open_pairs_wf g0
    obtain ⟨na, nc, ng, no, Ns, e1, hn1, hn2, hn3, _⟩ := open_pairs g1
    obtain ⟨oa, oc, og, oo, Os, e2, ho1, ho2, ho3⟩ := open_ops g2
    obtain ⟨qa, qc, qg, qo, Qs, e3, hq1, hq2, hq3⟩ := open_ops g3
    obtain ⟨op, e4⟩ := open_op g4
    obtain ⟨rt, ra, rc, rg, ro, e5, hr1, hr2, _⟩ := open_ret g5
    obtain ⟨u, e6, _, u2⟩ := DataW.trod_int Try.underlying3 g6
    obtain ⟨v, e7, _, w2⟩ := DataW.trod_int Try.underlying3 g7
    simp at e0 e1 e2 e3 e4 e5 e6 e7
    obtain ⟨a4, a5, a6, a7⟩ := e4
    obtain ⟨a8, a9, a10, a11⟩ := e5
    refine ⟨ma, na, oa, qa, ra, mc, mg, mo, nc, ng, no, og, oo, oc, qg, qo, qc, rg, ro, rc, Ms, Ns, Os, Qs, op, rt, u, v, by rw [e0, e1, e2, e3, a4, a5, a6, a7, a8, a9, a10, a11, e6, e7], hm1, hm2, hm3, hn1, hn2, hn3, ho1, ho2, ho3, hq1, hq2, hq3, hr1, hr2, hm4, u2, w2⟩
end
end Go.Proofs.Ytjpfgfcggekklaa
