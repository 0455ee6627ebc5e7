/- Layer 7: a state and operations that are read as data, with the row's bulk; the variable of the kinds, as the rows list it. Layer 5: events that are read as data. -/
import Derived.Test.YtcphajjonecmbaaDoorEKnown
import Derived.ProofKit
import Derived.OpenShut
import Derived.Deep.Slices
import Derived.Deep.Strs
import Derived.Lib.SmallJoins
import Derived.Test.YtcphajjonecmbaaDoorYRun2
import Derived.Test.YtcphajjonecmbaaDoorRows
import Derived.Lib.LaidTab
import Derived.MakeChecks






namespace Go.Proofs.YtcphajjonecmbaaDoor

open Go.ChangeShapes Go.WideShapes Go.ChangeAt Go.RowKit Go.Deep

theorem own : ownKnob Tryd.prog.godebug = none := by kernel_rfl
theorem laidOut : laidOutB Tryd.prog = true := by kernel_rfl
theorem ci : Tryd.prog.cellsOf 3 = 1 := by kernel_rfl
theorem cb : Tryd.prog.cellsOf 4 = 1 := by kernel_rfl
theorem cps : Tryd.prog.cellsOf 23 = 1 := by kernel_rfl
theorem cp : Tryd.prog.cellsOf 93 = 2 := by kernel_rfl
theorem cop : Tryd.prog.cellsOf 43 = 4 := by kernel_rfl
theorem crt : Tryd.prog.cellsOf 45 = 4 := by kernel_rfl
theorem cev : Tryd.prog.cellsOf 84 = 10 := by kernel_rfl
theorem bp : Tryd.prog.bytesOf 93 = 16 := by kernel_rfl

section

variable {H : Type} {enc : TypeId × Value → H} {w : World}

theorem open_pair {n : Nat} {cs : List Value} {x : DataW H × List MemPlace} (h : DataW.trod enc Tryd.prog w 0 (fun _ => true) true n 93 cs = some x) :
    ∃ p : Int × Int, cs = [.int .i64 p.1, .int .i64 p.2] := by
  obtain ⟨y0, y1, m, _, hl, g0, g1⟩ := trod_struct2 Tryd.underlying93 h
  rw [cp] at hl
  simp only [ci] at g0 g1
  match cs, hl with
  | [v0, v1], _ =>
    simp at g0 g1
    obtain ⟨a, e0, _, _⟩ := DataW.trod_int Tryd.underlying3 g0
    obtain ⟨b, e1, _, _⟩ := DataW.trod_int Tryd.underlying3 g1
    simp at e0 e1
    exact ⟨(a, b), by rw [e0, e1]⟩

theorem open_pairs {n : Nat} {cs : List Value} {x : DataW H × List MemPlace} (h : DataW.trod enc Tryd.prog w 0 (fun _ => true) true n 23 cs = some x) (hfz : w.noneFrozen x.2) :
    ∃ (base : Option Addr) (cap g o : Nat) (ps : PL), cs = [.slice base ps.length cap] ∧ PairsAt w base g o ps ∧ (base = none → ps.length = 0 ∧ cap = 0) ∧ ps.length ≤ cap ∧ ((x.1.weights Tryd.prog 23).all (· ≤ reachBytes) = true → ps.length * 16 ≤ 140737488351232) := by
  rcases open_slice Tryd.underlying23 h with ⟨hcs, _⟩ | ⟨a, len, cap, m, n, D, Pl, hcs, _, hl, hm, hme, hx, hel⟩
  · exact ⟨none, 0, 0, 0, [], by simpa using hcs, ⟨fun h => absurd rfl h, fun h => absurd rfl h, fun i hi => by simp at hi, by simp, fun i hi => by simp at hi⟩, fun _ => ⟨rfl, rfl⟩, Nat.le_refl _, fun _ => by simp⟩
  · simp at hme
    subst hme
    have hw : ∀ k, k ≤ len → (x.1.weights Tryd.prog 23).all (· ≤ reachBytes) = true → k * 16 ≤ 140737488351232 := by
      intro k hk hwt
      rw [hx] at hwt
      simp only [DataW.weights, Tryd.underlying23, bp, List.all_cons, Bool.and_eq_true, decide_eq_true_eq] at hwt
      have := hwt.1
      simp [reachBytes] at this
      omega
    by_cases hlen : len = 0
    · subst hlen
      exact ⟨some a, m, 0, 0, [], hcs, ⟨fun h => absurd rfl h, fun h => absurd rfl h, fun i hi => by simp at hi, by simp, fun i hi => by simp at hi⟩, (fun h => by cases h), hl, fun _ => by simp⟩
    · have key : ∀ i, i < m → ∃ y : Int × Int, w.cell? (a.add (i * 2)) = some (.int .i64 y.1) ∧ w.cell? (a.add (i * 2 + 1)) = some (.int .i64 y.2) := by
        intro i hi
        obtain ⟨cs, h1, h2⟩ := hel i hi
        obtain ⟨p, rfl⟩ := open_pair h2
        rw [cp] at h1
        obtain ⟨_, _, hcell⟩ := World.cells?_some h1
        have e0 := hcell 0 (by omega)
        have e1 := hcell 1 (by omega)
        rw [Deep.add_add] at e0 e1
        exact ⟨p, by simpa using e0, by simpa using e1⟩
      obtain ⟨f, hf⟩ := choose_lt key
      obtain ⟨b, o, s⟩ := a
      have hs : s = none := by
        have := (hf 0 (by omega)).1
        simpa [Addr.add] using World.cell?_spot this
      subst hs
      simp only [addr_add'] at hf
      have hll : ((List.range len).map f).length = len := by simp
      refine ⟨some ⟨b, o, none⟩, m, b, o, (List.range len).map f, by rw [hll]; exact hcs, ⟨fun _ => rfl, fun _ => World.block_lt_of_cell? w _ (hf 0 (by omega)).1, fun i hi => ?_, by rw [hll]; omega, fun i hi => hfz b (o + i) (by rw [hx]; exact List.mem_append_left _ (MemPlace.mem_row.2 ⟨i, by rw [hll] at hi; rw [cp]; omega, rfl⟩))⟩, (fun h => by cases h), by rw [hll]; exact hl, fun hwt => by rw [hll]; exact hw len (Nat.le_refl _) hwt⟩
      rw [hll] at hi
      have q := hf i (by omega)
      have e : ((List.range len).map f).getD i (0, 0) = f i := by rw [List.getD_eq_getElem?_getD, List.getElem?_map, List.getElem?_range hi]; rfl
      unfold keyAt valAt
      rw [e]
      exact ⟨q.1, by simpa [Nat.add_assoc] using q.2⟩

theorem open_op {n : Nat} {cs : List Value} {x : DataW H × List MemPlace} (h : DataW.trod enc Tryd.prog w 0 (fun _ => true) true n 43 cs = some x) :
    ∃ o : OpD, cs = [.int .i64 o.kind, .int .i64 o.key, .int .i64 o.val, .int .i64 o.hi] := by
  obtain ⟨y0, y1, y2, y3, m, _, hl, g0, g1, g2, g3⟩ := Go.Joins.trod_struct4 Tryd.underlying43 h
  rw [cop] at hl
  simp only [ci] at g0 g1 g2 g3
  match cs, hl with
  | [v0, v1, v2, v3], _ =>
    simp at g0 g1 g2 g3
    obtain ⟨a, e0, _, _⟩ := DataW.trod_int Tryd.underlying3 g0
    obtain ⟨b, e1, _, _⟩ := DataW.trod_int Tryd.underlying3 g1
    obtain ⟨c, e2, _, _⟩ := DataW.trod_int Tryd.underlying3 g2
    obtain ⟨d, e3, _, _⟩ := DataW.trod_int Tryd.underlying3 g3
    simp at e0 e1 e2 e3
    exact ⟨⟨a, b, c, d⟩, by rw [e0, e1, e2, e3]⟩

theorem open_ret {n : Nat} {cs : List Value} {x : DataW H × List MemPlace} (h : DataW.trod enc Tryd.prog w 0 (fun _ => true) true n 45 cs = some x) (hfz : w.noneFrozen x.2) :
    ∃ (r : RetD) (base : Option Addr) (cap g o : Nat), cs = [.bool r.ok, .int .i64 r.key, .int .i64 r.val, .slice base r.pairs.length cap] ∧ PairsAt w base g o r.pairs ∧ (base = none → r.pairs.length = 0 ∧ cap = 0) ∧ ((x.1.weights Tryd.prog 45).all (· ≤ reachBytes) = true → r.pairs.length * 16 ≤ 140737488351232) := by
  obtain ⟨y0, y1, y2, y3, m, hx, hl, g0, g1, g2, g3⟩ := Go.Joins.trod_struct4 Tryd.underlying45 h
  rw [crt] at hl
  simp only [ci, cb, cps] at g0 g1 g2 g3
  match cs, hl with
  | [v0, v1, v2, v3], _ =>
    simp at g0 g1 g2 g3
    obtain ⟨a, e0, _⟩ := DataW.trod_bool Tryd.underlying4 g0
    obtain ⟨b, e1, _, _⟩ := DataW.trod_int Tryd.underlying3 g1
    obtain ⟨c, e2, _, _⟩ := DataW.trod_int Tryd.underlying3 g2
    obtain ⟨base, cap, g, o, ps, e3, hp, hn, _, hw⟩ := open_pairs g3 (fun b o hm => hfz b o (by rw [hx]; simp [hm]))
    simp at e0 e1 e2 e3
    refine ⟨⟨a, b, c, ps⟩, base, cap, g, o, by rw [e0, e1, e2, e3], hp, hn, fun hwt => hw ?_⟩
    rw [hx] at hwt
    simp [DataW.weights, Tryd.underlying45, DataW.weightsEach, List.all_append] at hwt ⊢
    exact hwt.2.2.2

/-- An event with its list of pairs. -/
structure EvP where
  e : EvD
  pb : Option Addr
  pc : Nat
  pg : Nat
  po : Nat
instance : Inhabited EvP := ⟨⟨ev0, none, 0, 0, 0⟩⟩
def EvOk (w : World) (y : EvP) : Prop := PairsAt w y.pb y.pg y.po y.e.rt.pairs ∧ (y.pb = none → y.e.rt.pairs.length = 0 ∧ y.pc = 0)
theorem open_ev {n : Nat} {cs : List Value} {x : DataW H × List MemPlace} (h : DataW.trod enc Tryd.prog w 0 (fun _ => true) true n 84 cs = some x) (hfz : w.noneFrozen x.2) :
    ∃ y : EvP, cs = [.int .i64 y.e.th, .bool y.e.ret, .int .i64 y.e.op.kind, .int .i64 y.e.op.key, .int .i64 y.e.op.val, .int .i64 y.e.op.hi, .bool y.e.rt.ok, .int .i64 y.e.rt.key, .int .i64 y.e.rt.val, .slice y.pb y.e.rt.pairs.length y.pc] ∧ EvOk w y ∧ ((x.1.weights Tryd.prog 84).all (· ≤ reachBytes) = true → y.e.rt.pairs.length * 16 ≤ 140737488351232) := by
  obtain ⟨y0, y1, y2, y3, m, hx, hl, g0, g1, g2, g3⟩ := Go.Joins.trod_struct4 Tryd.underlying84 h
  rw [cev] at hl
  simp only [ci, cb, cop, crt] at g0 g1 g2 g3
  match cs, hl with
  | [v0, v1, v2, v3, v4, v5, v6, v7, v8, v9], _ =>
    simp at g0 g1 g2 g3
    obtain ⟨a, e0, _, _⟩ := DataW.trod_int Tryd.underlying3 g0
    obtain ⟨b, e1, _⟩ := DataW.trod_bool Tryd.underlying4 g1
    obtain ⟨c, e2⟩ := open_op g2
    obtain ⟨r, base, cap, g, o, e3, hp, hn, hw⟩ := open_ret g3 (fun b o hm => hfz b o (by rw [hx]; simp [hm]))
    simp at e0 e1 e2 e3
    obtain ⟨e4, e5, e6, e7⟩ := e2
    obtain ⟨e8, e9, e10, e11⟩ := e3
    refine ⟨⟨⟨a, b, c, r⟩, base, cap, g, o⟩, by rw [e0, e1, e4, e5, e6, e7, e8, e9, e10, e11], ⟨hp, hn⟩, fun hwt => hw ?_⟩
    rw [hx] at hwt
    simp [DataW.weights, Tryd.underlying84, DataW.weightsEach, List.all_append] at hwt ⊢
    exact hwt.2.2.2
theorem all_range {α : Type} {P : Program} {e : TypeId} {D : Nat → DataW H} {r : Nat} : ∀ {l : List Nat}, ((DataW.weightsAll P e (l.map D)).all (· ≤ r) = true) → ∀ i ∈ l, ((D i).weights P e).all (· ≤ r) = true
  | [], _, i, hi => by cases hi
  | a :: t, h, i, hi => by
    simp only [List.map_cons, DataW.weightsAll, List.all_append, Bool.and_eq_true] at h
    rcases List.mem_cons.1 hi with rfl | hi
    · exact h.1
    · exact all_range (α := α) h.2 i hi

theorem open_events {n : Nat} {a0 : Option Addr} {len cap : Nat} {x : DataW H × List MemPlace} (h : DataW.trod enc Tryd.prog w 0 (fun _ => true) true n 52 [.slice a0 len cap] = some x) (hwt : (x.1.weights Tryd.prog 52).all (· ≤ reachBytes) = true) (hfz : w.noneFrozen x.2) :
    ∃ (b o : Nat) (hs : List EvD) (pb : Nat → Option Addr) (pc pg po : Nat → Nat), len = hs.length ∧ EvsAt w a0 b o hs pb pc pg po ∧ (a0 = none → len = 0 ∧ cap = 0) ∧ hs.length * 96 ≤ 140737488351232 := by
  rcases open_slice Tryd.underlying52 h with ⟨hcs, _⟩ | ⟨a, l, c, m, n, D, Pl, hcs, _, hl, hm, hme, hx, hel⟩
  · simp at hcs
    obtain ⟨rfl, rfl, rfl⟩ := hcs
    exact ⟨0, 0, [], fun _ => none, fun _ => 0, fun _ => 0, fun _ => 0, rfl, ⟨fun h => absurd rfl h, fun h => absurd rfl h, by simp, fun i hi => by simp at hi, fun i hi => by simp at hi, fun i hi => by simp at hi, fun i hi => by simp at hi, fun i hi => by simp at hi⟩, fun _ => ⟨rfl, rfl⟩, by simp⟩
  · simp at hcs
    obtain ⟨rfl, rfl, rfl⟩ := hcs
    simp at hme
    subst hme
    rw [hx] at hwt
    have be : Tryd.prog.bytesOf 84 = 96 := by kernel_rfl
    simp only [DataW.weights, Tryd.underlying52, be, List.all_cons, Bool.and_eq_true, decide_eq_true_eq, List.all_append] at hwt
    obtain ⟨hw1, hw2, _⟩ := hwt
    have hlb : len * 96 ≤ 140737488351232 := by simp [reachBytes] at hw1; omega
    by_cases hlen : len = 0
    · subst hlen
      exact ⟨0, 0, [], fun _ => none, fun _ => 0, fun _ => 0, fun _ => 0, rfl, ⟨fun h => absurd rfl h, fun h => absurd rfl h, by simp, fun i hi => by simp at hi, fun i hi => by simp at hi, fun i hi => by simp at hi, fun i hi => by simp at hi, fun i hi => by simp at hi⟩, (fun h => by cases h), by simp⟩
    · have key : ∀ i, i < len → ∃ y : EvP, (w.cell? (a.add (i * 10)) = some (.int .i64 y.e.th) ∧ w.cell? (a.add (i * 10 + 1)) = some (.bool y.e.ret) ∧ w.cell? (a.add (i * 10 + 2)) = some (.int .i64 y.e.op.kind) ∧ w.cell? (a.add (i * 10 + 3)) = some (.int .i64 y.e.op.key) ∧ w.cell? (a.add (i * 10 + 4)) = some (.int .i64 y.e.op.val) ∧ w.cell? (a.add (i * 10 + 5)) = some (.int .i64 y.e.op.hi) ∧ w.cell? (a.add (i * 10 + 6)) = some (.bool y.e.rt.ok) ∧ w.cell? (a.add (i * 10 + 7)) = some (.int .i64 y.e.rt.key) ∧ w.cell? (a.add (i * 10 + 8)) = some (.int .i64 y.e.rt.val) ∧ w.cell? (a.add (i * 10 + 9)) = some (.slice y.pb y.e.rt.pairs.length y.pc)) ∧ EvOk w y ∧ y.e.rt.pairs.length * 16 ≤ 140737488351232 := by
        intro i hi
        obtain ⟨cs, h1, h2⟩ := hel i (by omega)
        obtain ⟨y, rfl, hy, hyw⟩ := open_ev h2 (fun b o hm => hfz b o (by rw [hx]; exact List.mem_append_right _ (List.mem_flatMap.2 ⟨i, List.mem_range.2 (by omega), hm⟩)))
        rw [cev] at h1
        obtain ⟨_, _, hcell⟩ := World.cells?_some h1
        have e0 := hcell 0 (by omega)
        have e1 := hcell 1 (by omega)
        have e2 := hcell 2 (by omega)
        have e3 := hcell 3 (by omega)
        have e4 := hcell 4 (by omega)
        have e5 := hcell 5 (by omega)
        have e6 := hcell 6 (by omega)
        have e7 := hcell 7 (by omega)
        have e8 := hcell 8 (by omega)
        have e9 := hcell 9 (by omega)
        rw [Deep.add_add] at e0 e1 e2 e3 e4 e5 e6 e7 e8 e9
        refine ⟨y, ⟨by simpa using e0, by simpa using e1, by simpa using e2, by simpa using e3, by simpa using e4, by simpa using e5, by simpa using e6, by simpa using e7, by simpa using e8, by simpa using e9⟩, hy, hyw ?_⟩
        exact all_range (α := Unit) hw2 i (by simpa using hi)
      obtain ⟨f, hf⟩ := choose_lt key
      obtain ⟨b, o, s⟩ := a
      have hs : s = none := by
        have := (hf 0 (by omega)).1.1
        simpa [Addr.add] using World.cell?_spot this
      subst hs
      simp only [addr_add'] at hf
      have hll : ((List.range len).map (fun i => (f i).e)).length = len := by simp
      have hev : ∀ i, i < len → evAt ((List.range len).map (fun i => (f i).e)) i = (f i).e := by
        intro i hi
        unfold evAt
        rw [List.getD_eq_getElem?_getD, List.getElem?_map, List.getElem?_range hi]
        rfl
      refine ⟨b, o, (List.range len).map (fun i => (f i).e), fun i => (f i).pb, fun i => (f i).pc, fun i => (f i).pg, fun i => (f i).po, hll.symm, ⟨fun _ => rfl, fun _ => World.block_lt_of_cell? w _ (hf 0 (by omega)).1.1, by rw [hll]; omega, fun i hi => ?_, fun i hi => ?_, fun i hi => ?_, fun i hi => ?_, fun i hi => hfz b (o + i) (by rw [hx]; exact List.mem_append_left _ (MemPlace.mem_row.2 ⟨i, by rw [hll] at hi; rw [cev]; omega, rfl⟩))⟩, (fun h => by cases h), by rw [hll]; exact hlb⟩
      · rw [hll] at hi
        rw [hev i hi]
        have q := (hf i hi).1
        simp only [← Nat.add_assoc] at q
        exact ⟨q.1, q.2.1⟩
      · rw [hll] at hi
        rw [hev i hi]
        have q := (hf i hi).1
        simp only [← Nat.add_assoc] at q
        exact ⟨q.2.2.1, q.2.2.2.1, q.2.2.2.2.1, q.2.2.2.2.2.1⟩
      · rw [hll] at hi
        rw [hev i hi]
        have q := (hf i hi).1
        simp only [← Nat.add_assoc] at q
        exact ⟨q.2.2.2.2.2.2.1, q.2.2.2.2.2.2.2.1, q.2.2.2.2.2.2.2.2.1, q.2.2.2.2.2.2.2.2.2⟩
      · rw [hll] at hi
        rw [hev i hi]
        obtain ⟨_, q, r⟩ := hf i hi
        exact ⟨q.1, q.2, by omega⟩
end

end Go.Proofs.YtcphajjonecmbaaDoor





namespace Go.Proofs.YtcphajjonecmbaaDoor

open Go.ChangeShapes Go.WideShapes Go.ChangeAt Go.RowKit Go.Deep

theorem bulk_one {H : Type} (d : DataW H) : 1 ≤ Rows.uptoBulk d := by
  cases d with
  | lit l => cases l <;> simp [Rows.uptoBulk]
  | nil => simp [Rows.uptoBulk]
  | ptr d => simp [Rows.uptoBulk]
  | slice elems spare => simp [Rows.uptoBulk]
  | agg parts => simp [Rows.uptoBulk]
  | iface t d => simp [Rows.uptoBulk]
  | map entries => simp [Rows.uptoBulk]
  | held h => simp [Rows.uptoBulk]
theorem bulk_len {H : Type} : ∀ l : List (DataW H), l.length ≤ Rows.uptoBulkAll l
  | [] => by simp
  | x :: r => by
    have := bulk_one x
    have := bulk_len r
    simp only [Rows.uptoBulkAll, List.length_cons]
    omega
section

variable {H : Type} {enc : TypeId × Value → H} {w : World}

theorem bulk_slice {t e : TypeId} {n : Nat} {cs : List Value} {x : DataW H × List MemPlace} (ht : Tryd.prog.underlying t = some (.slice e)) (h : DataW.trod enc Tryd.prog w 0 (fun _ => true) true n t cs = some x) :
    ∃ a len cap, cs = [.slice a len cap] ∧ len ≤ Rows.uptoBulk x.1 := by
  rcases open_slice ht h with ⟨hcs, hx⟩ | ⟨a, len, cap, m, n, D, Pl, hcs, _, hl, hm, hme, hx, hel⟩
  · exact ⟨none, 0, 0, hcs, Nat.zero_le _⟩
  · refine ⟨some a, len, cap, hcs, ?_⟩
    rw [hx]
    have := bulk_len ((List.range len).map D)
    simp only [Rows.uptoBulk, List.length_map, List.length_range] at this ⊢
    omega
theorem open_ordB {a0 : Option Addr} {len cap : Nat} {fuel : Nat} {x : DataW H × List MemPlace} (h : DataW.trod enc Tryd.prog w 0 (fun _ => true) true fuel 22 [.slice a0 len cap] = some x) :
    ∃ (b o : Nat) (ord : List Int), len = ord.length ∧ OrdAt w a0 b o ord ∧ (a0 = none → len = 0 ∧ cap = 0) := by
  rcases open_ints (k := .i64) Tryd.underlying22 Tryd.underlying3 (by kernel_rfl) h with ⟨hcs, _⟩ | ⟨a, l, c, zs, hcs, _, hl, hm, hz, hx, hcell, hwf⟩
  · simp at hcs
    obtain ⟨rfl, rfl, rfl⟩ := hcs
    exact ⟨0, 0, [], rfl, ⟨fun h => absurd rfl h, fun h => absurd rfl h, by simp, fun i hi => by simp at hi⟩, fun _ => ⟨rfl, rfl⟩⟩
  · simp at hcs
    obtain ⟨rfl, rfl, rfl⟩ := hcs
    simp at hz
    by_cases hlen : len = 0
    · subst hlen
      exact ⟨0, 0, [], rfl, ⟨fun h => absurd rfl h, fun h => absurd rfl h, by simp, fun i hi => by simp at hi⟩, (fun h => by cases h)⟩
    · obtain ⟨b, o, s⟩ := a
      have h0 := hcell 0 (by omega)
      have hs : s = none := by simpa [Addr.add] using World.cell?_spot h0
      subst hs
      simp only [addr_add'] at hcell
      have hll : (zs.take len).length = len := by simp; omega
      refine ⟨b, o, zs.take len, hll.symm, ⟨fun _ => rfl, fun _ => World.block_lt_of_cell? w _ (hcell 0 (by omega)), by rw [hll]; omega, fun i hi => ?_⟩, (fun h => by cases h)⟩
      rw [hll] at hi
      have e : oAt (zs.take len) i = zs.getD i 0 := by
        unfold oAt
        rw [List.getD_eq_getElem?_getD, List.getD_eq_getElem?_getD, List.getElem?_take, if_pos hi]
      rw [e]
      exact hcell i (by omega)
theorem open_opsB {n : Nat} {cs : List Value} {x : DataW H × List MemPlace} (h : DataW.trod enc Tryd.prog w 0 (fun _ => true) true n 26 cs = some x) :
    ∃ (base : Option Addr) (cap g o : Nat) (l : List OpD), cs = [.slice base l.length cap] ∧ OpsAt w base g o l ∧ l.length ≤ Rows.uptoBulk x.1 := by
  haveI : Inhabited OpD := ⟨⟨0, 0, 0, 0⟩⟩
  obtain ⟨a1, l1, c1, e1, hbk⟩ := bulk_slice Tryd.underlying26 h
  rcases open_slice Tryd.underlying26 h with ⟨hcs, _⟩ | ⟨a, len, cap, m, n, D, Pl, hcs, _, hl, hm, hme, hx, hel⟩
  · exact ⟨none, 0, 0, 0, [], by simpa using hcs, ⟨fun h => absurd rfl h, fun h => absurd rfl h, fun i hi => by simp at hi, by simp⟩, Nat.zero_le _⟩
  · simp at hme
    subst hme
    have hb2 : len ≤ Rows.uptoBulk x.1 := by
      rw [hcs] at e1
      injection e1 with e1
      injection e1 with _ e1
      omega
    by_cases hlen : len = 0
    · subst hlen
      exact ⟨some a, m, 0, 0, [], hcs, ⟨fun h => absurd rfl h, fun h => absurd rfl h, fun i hi => by simp at hi, by simp⟩, Nat.zero_le _⟩
    · have key : ∀ i, i < m → ∃ y : OpD, w.cell? (a.add (i * 4)) = some (.int .i64 y.kind) ∧ w.cell? (a.add (i * 4 + 1)) = some (.int .i64 y.key) ∧ w.cell? (a.add (i * 4 + 2)) = some (.int .i64 y.val) ∧ w.cell? (a.add (i * 4 + 3)) = some (.int .i64 y.hi) := by
        intro i hi
        obtain ⟨cs, h1, h2⟩ := hel i hi
        obtain ⟨p, rfl⟩ := open_op h2
        rw [cop] at h1
        obtain ⟨_, _, hcell⟩ := World.cells?_some h1
        have e0 := hcell 0 (by omega)
        have e1 := hcell 1 (by omega)
        have e2 := hcell 2 (by omega)
        have e3 := hcell 3 (by omega)
        rw [Deep.add_add] at e0 e1 e2 e3
        exact ⟨p, by simpa using e0, by simpa using e1, by simpa using e2, by simpa using e3⟩
      obtain ⟨f, hf⟩ := choose_lt key
      obtain ⟨b, o, s⟩ := a
      have hs : s = none := by
        have := (hf 0 (by omega)).1
        simpa [Addr.add] using World.cell?_spot this
      subst hs
      simp only [addr_add'] at hf
      have hll : ((List.range len).map f).length = len := by simp
      refine ⟨some ⟨b, o, none⟩, m, b, o, (List.range len).map f, by rw [hll]; exact hcs, ⟨fun _ => rfl, fun _ => World.block_lt_of_cell? w _ (hf 0 (by omega)).1, fun i hi => ?_, by rw [hll]; omega⟩, by rw [hll]; exact hb2⟩
      rw [hll] at hi
      have q := hf i (by omega)
      have e : opAt ((List.range len).map f) i = f i := by unfold opAt; rw [List.getD_eq_getElem?_getD, List.getElem?_map, List.getElem?_range hi]; rfl
      rw [e]
      simp only [← Nat.add_assoc] at q
      exact q
theorem c7s : Tryd.prog.cellsOf 25 = 2 := by kernel_rfl
theorem cis : Tryd.prog.cellsOf 22 = 1 := by kernel_rfl
theorem open_state7 {n : Nat} {cs : List Value} {x : DataW H × List MemPlace} (h : DataW.trod enc Tryd.prog w 0 (fun _ => true) true n 25 cs = some x) (hfz : w.noneFrozen x.2) :
    ∃ (sx : SX) (s : SD), cs = [.slice sx.va s.vals.length sx.vc, .slice sx.pa s.prs.length sx.pc] ∧ StAt w sx s ∧ s.vals.length ≤ Rows.uptoBulk x.1 ∧ s.prs.length ≤ Rows.uptoBulk x.1 := by
  obtain ⟨y0, y1, m, hx, hl, g0, g1⟩ := trod_struct2 Tryd.underlying25 h
  rw [c7s] at hl
  simp only [cis, cps] at g0 g1
  match cs, hl with
  | [v0, v1], _ =>
    simp at g0 g1
    obtain ⟨a0, l0, k0, e0, b0⟩ := bulk_slice Tryd.underlying22 g0
    obtain ⟨a1, l1, k1, e1, b1⟩ := bulk_slice Tryd.underlying23 g1
    injection e0 with e0
    injection e1 with e1
    subst e0 e1
    obtain ⟨vb, vo, vs, rfl, hv, hvn⟩ := open_ordB g0
    obtain ⟨pa, pc, pg, po, ps, e2, hp, hpn, -, -⟩ := open_pairs g1 (fun b o hm => hfz b o (by rw [hx]; exact List.mem_append_right _ hm))
    injection e2 with e2
    injection e2 with q1 q2 q3
    subst q1 q2 q3
    have hb : Rows.uptoBulk x.1 = Rows.uptoBulk y0.1 + (Rows.uptoBulk y1.1 + 0) + 1 := by rw [hx]; rfl
    exact ⟨⟨a0, vb, vo, k0, a1, pg, po, k1⟩, ⟨vs, ps⟩, rfl, ⟨hv, hp, hvn, hpn⟩, by show vs.length ≤ _; omega, by show ps.length ≤ _; omega⟩
end

/-- An array of numbers that reads as laid. -/
theorem cells_of_nums {H : Type} {enc : TypeId × Value → H} {P : Program} {w : World} {base : Nat} {sp : Nat → Bool} {held : Bool} {fuel : Nat} {t e : TypeId} {n : Nat} {cs : List Value} {zs : List Int} {p : List MemPlace}
    (ht : P.underlying t = some (.array n e)) (he : P.underlying e = some (.int .i64)) (hce : P.cellsOf e = 1) (hct : P.cellsOf t = n)
    (h : DataW.trod enc P w base sp held fuel t cs = some (.agg (zs.map fun z => .lit (.int .i64 z)), p)) : cs = zs.map fun z => Value.int .i64 z := by
  cases fuel with
  | zero => simp [DataW.trod] at h
  | succ fuel =>
    simp only [DataW.trod, ht, hce, hct, Nat.mul_one] at h
    split at h
    · rename_i hl
      obtain ⟨xs, hm, hx⟩ := Option.map_eq_some_iff.1 h
      have hxs : xs.map (·.1) = zs.map fun z => (DataW.lit (.int .i64 z) : DataW H) := by
        have := congrArg Prod.fst hx
        simpa using this
      have hxl : xs.length = n := by simpa using Lib.mapM_length hm
      have hzl : zs.length = n := by
        have := congrArg List.length hxs
        simp at this
        omega
      apply List.ext_getElem?
      intro i
      by_cases hi : i < n
      · obtain ⟨b, hb, hf⟩ := Lib.mapM_at hm i i (by simp [hi])
        obtain ⟨z, hc, rfl, _⟩ := DataW.trod_int he hf
        have h1 : cs[i]? = some (.int .i64 z) := by
          have := congrArg (·[0]?) hc
          simpa [List.getElem?_take, List.getElem?_drop] using this
        have h2 : (xs.map (·.1))[i]? = some (DataW.lit (.int .i64 z) : DataW H) := by simp [hb]
        rw [hxs] at h2
        simp only [List.getElem?_map, Option.map_eq_some_iff, DataW.lit.injEq, Lit.int.injEq] at h2
        obtain ⟨z', hz', -, e'⟩ := h2
        subst e'
        simp [h1, hz']
      · rw [List.getElem?_eq_none (by omega), List.getElem?_eq_none (by simp; omega)]
    · cases h
theorem g_kd : Tryd.prog.globalNamed "larch/search.kinds" = some 0 := by kernel_rfl
theorem g_kdT : (Tryd.prog.globals[0]?).map (·.type) = some 182 := by kernel_rfl
theorem laid_kdT : (Rows.laid_larch_search_kinds : DataW Unit) = .agg (([0, 3, 2, 2, 2, 9] : List Int).map fun z => .lit (.int .i64 z)) := rfl
theorem kdAt_now {W : World} (h : laidMetH Tryd.prog [("larch/search.kinds", Rows.laid_larch_search_kinds)] W) : KdAt W := by
  rw [MakeChecks.laidMetH_plain _ _ _ (by kernel_rfl)] at h
  obtain ⟨ps, ⟨g', t', cs, fuel, p, q, hg', ht', hvar, hd, _, _⟩, _⟩ := h
  obtain rfl := Option.some.inj (g_kd.symm.trans hg')
  obtain rfl := Option.some.inj (g_kdT.symm.trans ht')
  rw [laid_kdT] at hd
  have hc := cells_of_nums Tryd.underlying182 Tryd.underlying3 (by kernel_rfl) (by kernel_rfl) hd
  have key : ∀ i, i < 6 → W.cell? ⟨0, i, none⟩ = some (.int .i64 (kdN i)) := fun i hi => by
    have := World.var?_cell g_kd hvar i
    rw [this, ← Array.getElem?_toList, hc]
    have hi6 : i = 0 ∨ i = 1 ∨ i = 2 ∨ i = 3 ∨ i = 4 ∨ i = 5 := by omega
    rcases hi6 with rfl | rfl | rfl | rfl | rfl | rfl <;> rfl
  exact ⟨World.block_lt_of_cell? W _ (key 0 (by omega)), key⟩
end Go.Proofs.YtcphajjonecmbaaDoor
