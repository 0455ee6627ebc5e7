
/- Layer 28: an event that is read as data: its numbers fit, its pairs are at most so many as the bound says; the variables, as the rows list them. -/

import Derived.Test.YtgiblcieplnncaaGreatDoorHTell

import Derived.Test.YtgiblcieplnncaaGreatDoorTie

import Derived.Test.YtgiblcieplnncaaGreatDoorCards

import Derived.ProofKit

import Derived.OpenShut

import Derived.Deep.Slices

import Derived.Deep.Strs

import Derived.Lib.SmallJoins

import Derived.LaidMore

import Derived.Lay

import Derived.SevenTiedAt

import Derived.Stop.Joined

import Derived.Stop.LaidErr

import Derived.Lib.LaidTab

import Derived.MakeChecks

namespace Go.Proofs.YtgiblcieplnncaaGreatDoor

open Go.ChangeShapes Go.WideShapes Go.ChangeAt Go.RowKit Go.Deep

theorem own : ownKnob Tryz.prog.godebug = none := by kernel_rfl
theorem laidOut : laidOutB Tryz.prog = true := by kernel_rfl
theorem i64_wf {a : Int} (h : (Lit.int .i64 a).wf = true) : In64 a := by
  simp [Lit.wf, IntKind.min, IntKind.max, IntKind.bits, IntKind.signed] at h
  unfold In64
  omega
theorem ci : Tryz.prog.cellsOf 3 = 1 := by kernel_rfl
theorem cb : Tryz.prog.cellsOf 4 = 1 := by kernel_rfl
theorem cps : Tryz.prog.cellsOf 35 = 1 := by kernel_rfl
theorem cp : Tryz.prog.cellsOf 44 = 2 := by kernel_rfl
theorem cop : Tryz.prog.cellsOf 23 = 4 := by kernel_rfl
theorem crt : Tryz.prog.cellsOf 37 = 4 := by kernel_rfl
theorem cev : Tryz.prog.cellsOf 39 = 10 := by kernel_rfl
theorem bulk_one {H : Type} (d : DataW H) : 1 ≤ Rows.uptoBulk d := by
  cases d with
  | lit l => cases l <;> simp [Rows.uptoBulk]
  | nil => simp [Rows.uptoBulk]
  | ptr d => simp [Rows.uptoBulk]
  | slice elems spare => simp [Rows.uptoBulk]
  | agg parts => simp [Rows.uptoBulk]
  | iface t d => simp [Rows.uptoBulk]
  | map entries => simp [Rows.uptoBulk]
  | held h => simp [Rows.uptoBulk]
theorem bulk_len {H : Type} : ∀ l : List (DataW H), l.length ≤ Rows.uptoBulkAll l
  | [] => by simp
  | x :: r => by
    have := bulk_one x
    have := bulk_len r
    simp only [Rows.uptoBulkAll, List.length_cons]
    omega
section
variable {H : Type} {enc : TypeId × Value → H} {w : World}
theorem open_pair {n : Nat} {cs : List Value} {x : DataW H × List MemPlace} (h : DataW.trod enc Tryz.prog w 0 (fun _ => true) true n 44 cs = some x) :
    ∃ p : Int × Int, cs = [.int .i64 p.1, .int .i64 p.2] ∧ In64 p.1 ∧ In64 p.2 := by
  obtain ⟨y0, y1, m, _, hl, g0, g1⟩ := trod_struct2 Tryz.underlying44 h
  rw [cp] at hl
  simp only [ci] at g0 g1
  match cs, hl with
  | [v0, v1], _ =>
    simp at g0 g1
    obtain ⟨a, e0, _, w0⟩ := DataW.trod_int Tryz.underlying3 g0
    obtain ⟨b, e1, _, w1⟩ := DataW.trod_int Tryz.underlying3 g1
    simp at e0 e1
    exact ⟨(a, b), by rw [e0, e1], i64_wf w0, i64_wf w1⟩
theorem open_pairs {n : Nat} {cs : List Value} {x : DataW H × List MemPlace} (h : DataW.trod enc Tryz.prog w 0 (fun _ => true) true n 35 cs = some x) :
    ∃ (base : Option Addr) (cap g o : Nat) (ps : PL), cs = [.slice base ps.length cap] ∧ PairsAt w base g o ps ∧ (∀ i, i < ps.length → In64 (keyAt ps i) ∧ In64 (valAt ps i)) ∧ ps.length ≤ Rows.uptoBulk x.1 := by
  rcases open_slice Tryz.underlying35 h with ⟨hcs, hx⟩ | ⟨a, len, cap, m, n, D, Pl, hcs, _, hl, hm, hme, hx, hel⟩
  · exact ⟨none, 0, 0, 0, [], by simpa using hcs, ⟨fun h => absurd rfl h, fun h => absurd rfl h, fun i hi => by simp at hi, by simp⟩, fun i hi => by simp at hi, Nat.zero_le _⟩
  · simp at hme
    subst hme
    have hbk : len ≤ Rows.uptoBulk x.1 := by
      rw [hx]
      have := bulk_len ((List.range len).map D)
      simp only [Rows.uptoBulk, List.length_map, List.length_range] at this ⊢
      omega
    by_cases hlen : len = 0
    · subst hlen
      exact ⟨some a, m, 0, 0, [], hcs, ⟨fun h => absurd rfl h, fun h => absurd rfl h, fun i hi => by simp at hi, by simp⟩, fun i hi => by simp at hi, Nat.zero_le _⟩
    · have key : ∀ i, i < m → ∃ y : Int × Int, (w.cell? (a.add (i * 2)) = some (.int .i64 y.1) ∧ w.cell? (a.add (i * 2 + 1)) = some (.int .i64 y.2)) ∧ In64 y.1 ∧ In64 y.2 := by
        intro i hi
        obtain ⟨cs, h1, h2⟩ := hel i hi
        obtain ⟨p, rfl, hp1, hp2⟩ := open_pair h2
        rw [cp] at h1
        obtain ⟨_, _, hcell⟩ := World.cells?_some h1
        have e0 := hcell 0 (by omega)
        have e1 := hcell 1 (by omega)
        rw [Deep.add_add] at e0 e1
        exact ⟨p, ⟨by simpa using e0, by simpa using e1⟩, hp1, hp2⟩
      obtain ⟨f, hf⟩ := choose_lt key
      obtain ⟨b, o, s⟩ := a
      have hs : s = none := by
        have := (hf 0 (by omega)).1.1
        simpa [Addr.add] using World.cell?_spot this
      subst hs
      simp only [addr_add'] at hf
      have hll : ((List.range len).map f).length = len := by simp
      have hgd : ∀ i, i < len → ((List.range len).map f).getD i (0, 0) = f i := fun i hi => by rw [List.getD_eq_getElem?_getD, List.getElem?_map, List.getElem?_range hi]; rfl
      refine ⟨some ⟨b, o, none⟩, m, b, o, (List.range len).map f, by rw [hll]; exact hcs, ⟨fun _ => rfl, fun _ => World.block_lt_of_cell? w _ (hf 0 (by omega)).1.1, fun i hi => ?_, by rw [hll]; omega⟩, fun i hi => ?_, by rw [hll]; exact hbk⟩
      · rw [hll] at hi
        have q := hf i (by omega)
        unfold keyAt valAt
        rw [hgd i hi]
        exact ⟨q.1.1, by simpa [Nat.add_assoc] using q.1.2⟩
      · rw [hll] at hi
        unfold keyAt valAt
        rw [hgd i hi]
        exact (hf i (by omega)).2
theorem open_op {n : Nat} {cs : List Value} {x : DataW H × List MemPlace} (h : DataW.trod enc Tryz.prog w 0 (fun _ => true) true n 23 cs = some x) :
    ∃ o : OpD, cs = [.int .i64 o.kind, .int .i64 o.key, .int .i64 o.val, .int .i64 o.hi] ∧ OpIn o := by
  obtain ⟨y0, y1, y2, y3, m, _, hl, g0, g1, g2, g3⟩ := Go.Joins.trod_struct4 Tryz.underlying23 h
  rw [cop] at hl
  simp only [ci] at g0 g1 g2 g3
  match cs, hl with
  | [v0, v1, v2, v3], _ =>
    simp at g0 g1 g2 g3
    obtain ⟨a, e0, _, w0⟩ := DataW.trod_int Tryz.underlying3 g0
    obtain ⟨b, e1, _, w1⟩ := DataW.trod_int Tryz.underlying3 g1
    obtain ⟨c, e2, _, w2⟩ := DataW.trod_int Tryz.underlying3 g2
    obtain ⟨d, e3, _, w3⟩ := DataW.trod_int Tryz.underlying3 g3
    simp at e0 e1 e2 e3
    exact ⟨⟨a, b, c, d⟩, by rw [e0, e1, e2, e3], i64_wf w0, i64_wf w1, i64_wf w2, i64_wf w3⟩
theorem open_ret {n : Nat} {cs : List Value} {x : DataW H × List MemPlace} (h : DataW.trod enc Tryz.prog w 0 (fun _ => true) true n 37 cs = some x) :
    ∃ (r : RetD) (base : Option Addr) (cap g o : Nat), cs = [.bool r.ok, .int .i64 r.key, .int .i64 r.val, .slice base r.pairs.length cap] ∧ PairsAt w base g o r.pairs ∧ RetIn r ∧ r.pairs.length ≤ Rows.uptoBulk x.1 := by
  obtain ⟨y0, y1, y2, y3, m, hx, hl, g0, g1, g2, g3⟩ := Go.Joins.trod_struct4 Tryz.underlying37 h
  rw [crt] at hl
  simp only [ci, cb, cps] at g0 g1 g2 g3
  match cs, hl with
  | [v0, v1, v2, v3], _ =>
    simp at g0 g1 g2 g3
    obtain ⟨a, e0, _⟩ := DataW.trod_bool Tryz.underlying4 g0
    obtain ⟨b, e1, _, w1⟩ := DataW.trod_int Tryz.underlying3 g1
    obtain ⟨c, e2, _, w2⟩ := DataW.trod_int Tryz.underlying3 g2
    obtain ⟨base, cap, g, o, ps, e3, hp, hi, hk⟩ := open_pairs g3
    simp at e0 e1 e2 e3
    refine ⟨⟨a, b, c, ps⟩, base, cap, g, o, by rw [e0, e1, e2, e3], hp, ⟨i64_wf w1, i64_wf w2, hi⟩, ?_⟩
    rw [hx]
    simp only [Rows.uptoBulk, Rows.uptoBulkAll]
    omega
theorem open_ev {n : Nat} {cs : List Value} {x : DataW H × List MemPlace} (h : DataW.trod enc Tryz.prog w 0 (fun _ => true) true n 39 cs = some x) :
    ∃ (th : Int) (ret : Bool) (o : OpD) (r : RetD) (base : Option Addr) (cap g p : Nat), cs = [.int .i64 th, .bool ret, .int .i64 o.kind, .int .i64 o.key, .int .i64 o.val, .int .i64 o.hi, .bool r.ok, .int .i64 r.key, .int .i64 r.val, .slice base r.pairs.length cap] ∧ In64 th ∧ OpIn o ∧ PairsAt w base g p r.pairs ∧ RetIn r ∧ r.pairs.length ≤ Rows.uptoBulk x.1 := by
  obtain ⟨y0, y1, y2, y3, m, hx, hl, g0, g1, g2, g3⟩ := Go.Joins.trod_struct4 Tryz.underlying39 h
  rw [cev] at hl
  simp only [ci, cb, cop, crt] at g0 g1 g2 g3
  match cs, hl with
  | [v0, v1, v2, v3, v4, v5, v6, v7, v8, v9], _ =>
    simp at g0 g1 g2 g3
    obtain ⟨a, e0, _, w0⟩ := DataW.trod_int Tryz.underlying3 g0
    obtain ⟨b, e1, _⟩ := DataW.trod_bool Tryz.underlying4 g1
    obtain ⟨c, e2, hc⟩ := open_op g2
    obtain ⟨r, base, cap, g, o, e3, hp, hr, hk⟩ := open_ret g3
    simp at e0 e1 e2 e3
    obtain ⟨e4, e5, e6, e7⟩ := e2
    obtain ⟨e8, e9, e10, e11⟩ := e3
    refine ⟨a, b, c, r, base, cap, g, o, by rw [e0, e1, e4, e5, e6, e7, e8, e9, e10, e11], i64_wf w0, hc, hp, hr, ?_⟩
    rw [hx]
    simp only [Rows.uptoBulk, Rows.uptoBulkAll]
    omega
end
end Go.Proofs.YtgiblcieplnncaaGreatDoor
