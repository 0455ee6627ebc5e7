/- Proved: whatever the Spread, LarchHistories returns true, and its argument reads as before: a row of operations that is stretched in time is a history in form; its calls are told with their places and made a history again; what was ahead of what in time is ahead in the row. Layer 5: operations that are handed in, read as data. No walk. -/
import Derived.Test.YtljidfaeljpnpaaECdsOf
import Derived.Test.YtljidfaeljpnpaaLH8

namespace Go.Proofs.Ytljidfaeljpnpaa

open Go.ChangeShapes Go.WideShapes Go.ChangeAt Go.RowKit Go.Deep

theorem struct5 {P : Program} {H : Type} {enc : TypeId × Value → H} {w : World} {base : Nat} {spare : Nat → Bool} {held : Bool} {t : TypeId} {f0 f1 f2 f3 f4 : Field} {fuel : Nat} {cs : List Value} {x : DataW H × List MemPlace} (ht : P.underlying t = some (.struct #[f0, f1, f2, f3, f4])) (h : DataW.trod enc P w base spare held fuel t cs = some x) :
    ∃ y0 y1 y2 y3 y4 n, x.1 = .agg [y0.1, y1.1, y2.1, y3.1, y4.1] ∧ cs.length = P.cellsOf t ∧ DataW.trod enc P w base spare held n f0.type ((cs.drop f0.offset).take (P.cellsOf f0.type)) = some y0 ∧
      DataW.trod enc P w base spare held n f1.type ((cs.drop f1.offset).take (P.cellsOf f1.type)) = some y1 ∧ DataW.trod enc P w base spare held n f2.type ((cs.drop f2.offset).take (P.cellsOf f2.type)) = some y2 ∧
      DataW.trod enc P w base spare held n f3.type ((cs.drop f3.offset).take (P.cellsOf f3.type)) = some y3 ∧ DataW.trod enc P w base spare held n f4.type ((cs.drop f4.offset).take (P.cellsOf f4.type)) = some y4 := by
  obtain ⟨xs, n, _, rfl, hl, hlen, hf⟩ := DataW.trod_struct ht h
  match xs, hlen with
  | [y0, y1, y2, y3, y4], _ => exact ⟨y0, y1, y2, y3, y4, n, by simp, hl, by simpa using hf 0 f0 rfl, by simpa using hf 1 f1 rfl, by simpa using hf 2 f2 rfl, by simpa using hf 3 f3 rfl, by simpa using hf 4 f4 rfl⟩
theorem ccd : Try.prog.cellsOf 82 = 11 := by kernel_rfl
section

variable {H : Type} {enc : TypeId × Value → H} {w : World}

/-- An operation with its list of pairs. -/
structure CdP where
  e : CD
  pb : Option Addr
  pc : Nat
  pg : Nat
  po : Nat
instance : Inhabited CdP := ⟨⟨cd0, none, 0, 0, 0⟩⟩
def CdOk (w : World) (y : CdP) : Prop := PairsAt w y.pb y.pg y.po y.e.rt.pairs ∧ (y.pb = none → y.e.rt.pairs.length = 0 ∧ y.pc = 0)
theorem open_cd {n : Nat} {cs : List Value} {x : DataW H × List MemPlace} (h : DataW.trod enc Try.prog w 0 (fun _ => true) true n 82 cs = some x) :
    ∃ y : CdP, cs = [.int .i64 y.e.th, .int .i64 y.e.op.kind, .int .i64 y.e.op.key, .int .i64 y.e.op.val, .int .i64 y.e.op.hi, .bool y.e.rt.ok, .int .i64 y.e.rt.key, .int .i64 y.e.rt.val, .slice y.pb y.e.rt.pairs.length y.pc, .int .i64 y.e.fr, .int .i64 y.e.to] ∧ CdOk w y ∧ ((x.1.weights Try.prog 82).all (· ≤ reachBytes) = true → y.e.rt.pairs.length * 16 ≤ 140737488351232) := by
  obtain ⟨y0, y1, y2, y3, y4, m, hx, hl, g0, g1, g2, g3, g4⟩ := struct5 Try.underlying82 h
  rw [ccd] at hl
  simp only [ci, cop, crt] at g0 g1 g2 g3 g4
  match cs, hl with
  | [v0, v1, v2, v3, v4, v5, v6, v7, v8, v9, v10], _ =>
    simp at g0 g1 g2 g3 g4
    obtain ⟨a, e0, _, _⟩ := DataW.trod_int Try.underlying3 g0
    obtain ⟨c, e2⟩ := open_op g1
    obtain ⟨r, base, cap, g, o, e3, hp, hn, hw⟩ := open_ret g2
    obtain ⟨p, e5, _, _⟩ := DataW.trod_int Try.underlying3 g3
    obtain ⟨q, e6, _, _⟩ := DataW.trod_int Try.underlying3 g4
    simp at e0 e2 e3 e5 e6
    obtain ⟨f4, f5, f6, f7⟩ := e2
    obtain ⟨f8, f9, f10, f11⟩ := e3
    refine ⟨⟨⟨a, c, r, p, q⟩, base, cap, g, o⟩, by rw [e0, f4, f5, f6, f7, f8, f9, f10, f11, e5, e6], ⟨hp, hn⟩, fun hwt => hw ?_⟩
    rw [hx] at hwt
    simp [DataW.weights, Try.underlying82, DataW.weightsEach, List.all_append] at hwt ⊢
    exact hwt.2.2.1

theorem open_calls {n : Nat} {a0 : Option Addr} {len cap : Nat} {x : DataW H × List MemPlace} (h : DataW.trod enc Try.prog w 0 (fun _ => true) true n 34 [.slice a0 len cap] = some x) (hwt : (x.1.weights Try.prog 34).all (· ≤ reachBytes) = true) :
    ∃ (b o : Nat) (hs : List CD) (pb : Nat → Option Addr) (pc pg po : Nat → Nat), len = hs.length ∧ CdsAt w a0 b o hs pb pc pg po ∧ (a0 = none → len = 0 ∧ cap = 0) ∧ hs.length * 104 ≤ 140737488351232 := by
  rcases open_slice Try.underlying34 h with ⟨hcs, _⟩ | ⟨a, l, c, m, n, D, Pl, hcs, _, hl, hm, hme, hx, hel⟩
  · simp at hcs
    obtain ⟨rfl, rfl, rfl⟩ := hcs
    exact ⟨0, 0, [], fun _ => none, fun _ => 0, fun _ => 0, fun _ => 0, rfl, ⟨fun h => absurd rfl h, fun h => absurd rfl h, by simp, fun i hi => by simp at hi, fun i hi => by simp at hi, fun i hi => by simp at hi, fun i hi => by simp at hi⟩, fun _ => ⟨rfl, rfl⟩, by simp⟩
  · simp at hcs
    obtain ⟨rfl, rfl, rfl⟩ := hcs
    simp at hme
    subst hme
    rw [hx] at hwt
    have be : Try.prog.bytesOf 82 = 104 := by kernel_rfl
    simp only [DataW.weights, Try.underlying34, be, List.all_cons, Bool.and_eq_true, decide_eq_true_eq, List.all_append] at hwt
    obtain ⟨hw1, hw2, _⟩ := hwt
    have hlb : len * 104 ≤ 140737488351232 := by simp [reachBytes] at hw1; omega
    by_cases hlen : len = 0
    · subst hlen
      exact ⟨0, 0, [], fun _ => none, fun _ => 0, fun _ => 0, fun _ => 0, rfl, ⟨fun h => absurd rfl h, fun h => absurd rfl h, by simp, fun i hi => by simp at hi, fun i hi => by simp at hi, fun i hi => by simp at hi, fun i hi => by simp at hi⟩, (fun h => by cases h), by simp⟩
    · have key : ∀ i, i < len → ∃ y : CdP, (w.cell? (a.add (i * 11)) = some (.int .i64 y.e.th) ∧ w.cell? (a.add (i * 11 + 1)) = some (.int .i64 y.e.op.kind) ∧ w.cell? (a.add (i * 11 + 2)) = some (.int .i64 y.e.op.key) ∧ w.cell? (a.add (i * 11 + 3)) = some (.int .i64 y.e.op.val) ∧ w.cell? (a.add (i * 11 + 4)) = some (.int .i64 y.e.op.hi) ∧ w.cell? (a.add (i * 11 + 5)) = some (.bool y.e.rt.ok) ∧ w.cell? (a.add (i * 11 + 6)) = some (.int .i64 y.e.rt.key) ∧ w.cell? (a.add (i * 11 + 7)) = some (.int .i64 y.e.rt.val) ∧ w.cell? (a.add (i * 11 + 8)) = some (.slice y.pb y.e.rt.pairs.length y.pc) ∧ w.cell? (a.add (i * 11 + 9)) = some (.int .i64 y.e.fr) ∧ w.cell? (a.add (i * 11 + 10)) = some (.int .i64 y.e.to)) ∧ CdOk w y ∧ y.e.rt.pairs.length * 16 ≤ 140737488351232 := by
        intro i hi
        obtain ⟨cs, h1, h2⟩ := hel i (by omega)
        obtain ⟨y, rfl, hy, hyw⟩ := open_cd h2
        rw [ccd] at h1
        obtain ⟨_, _, hcell⟩ := World.cells?_some h1
        have e0 := hcell 0 (by omega)
        have e1 := hcell 1 (by omega)
        have e2 := hcell 2 (by omega)
        have e3 := hcell 3 (by omega)
        have e4 := hcell 4 (by omega)
        have e5 := hcell 5 (by omega)
        have e6 := hcell 6 (by omega)
        have e7 := hcell 7 (by omega)
        have e8 := hcell 8 (by omega)
        have e9 := hcell 9 (by omega)
        have e10 := hcell 10 (by omega)
        rw [Deep.add_add] at e0 e1 e2 e3 e4 e5 e6 e7 e8 e9 e10
        refine ⟨y, ⟨by simpa using e0, by simpa using e1, by simpa using e2, by simpa using e3, by simpa using e4, by simpa using e5, by simpa using e6, by simpa using e7, by simpa using e8, by simpa using e9, by simpa using e10⟩, hy, hyw ?_⟩
        exact all_range (α := Unit) hw2 i (by simpa using hi)
      obtain ⟨f, hf⟩ := choose_lt key
      obtain ⟨b, o, s⟩ := a
      have hs : s = none := by
        have := (hf 0 (by omega)).1.1
        simpa [Addr.add] using World.cell?_spot this
      subst hs
      simp only [addr_add'] at hf
      have hll : ((List.range len).map (fun i => (f i).e)).length = len := by simp
      have hev : ∀ i, i < len → cdAt ((List.range len).map (fun i => (f i).e)) i = (f i).e := by
        intro i hi
        unfold cdAt
        rw [List.getD_eq_getElem?_getD, List.getElem?_map, List.getElem?_range hi]
        rfl
      refine ⟨b, o, (List.range len).map (fun i => (f i).e), fun i => (f i).pb, fun i => (f i).pc, fun i => (f i).pg, fun i => (f i).po, hll.symm, ⟨fun _ => rfl, fun _ => World.block_lt_of_cell? w _ (hf 0 (by omega)).1.1, by rw [hll]; omega, fun i hi => ?_, fun i hi => ?_, fun i hi => ?_, fun i hi => ?_⟩, (fun h => by cases h), by rw [hll]; exact hlb⟩
      · rw [hll] at hi
        rw [hev i hi]
        have q := (hf i hi).1
        simp only [← Nat.add_assoc] at q
        exact ⟨q.1, q.2.1, q.2.2.1, q.2.2.2.1, q.2.2.2.2.1⟩
      · rw [hll] at hi
        rw [hev i hi]
        have q := (hf i hi).1
        simp only [← Nat.add_assoc] at q
        exact ⟨q.2.2.2.2.2.1, q.2.2.2.2.2.2.1, q.2.2.2.2.2.2.2.1, q.2.2.2.2.2.2.2.2.1⟩
      · rw [hll] at hi
        rw [hev i hi]
        have q := (hf i hi).1
        simp only [← Nat.add_assoc] at q
        exact ⟨q.2.2.2.2.2.2.2.2.2.1, q.2.2.2.2.2.2.2.2.2.2⟩
      · rw [hll] at hi
        rw [hev i hi]
        obtain ⟨_, q, r⟩ := hf i hi
        exact ⟨q.1, q.2, by omega⟩
end

end Go.Proofs.Ytljidfaeljpnpaa


namespace Go.Proofs.Ytljidfaeljpnpaa

open Go.ChangeShapes Go.WideShapes Go.ChangeAt Go.RowKit Go.Deep

instance : Inhabited OpD := ⟨⟨0, 0, 0, 0⟩⟩
theorem cops_ : Try.prog.cellsOf 49 = 1 := by kernel_rfl
theorem cns_ : Try.prog.cellsOf 50 = 1 := by kernel_rfl
theorem bin_ : Try.prog.bytesOf 3 = 8 := by kernel_rfl
theorem cspr_ : Try.prog.cellsOf 52 = 5 := by kernel_rfl
section

variable {H : Type} {enc : TypeId × Value → H} {w : World}

theorem open_ops {n : Nat} {cs : List Value} {x : DataW H × List MemPlace} (h : DataW.trod enc Try.prog w 0 (fun _ => true) true n 49 cs = some x) :
    ∃ (base : Option Addr) (cap g o : Nat) (l : List OpD), cs = [.slice base l.length cap] ∧ OpsAt w base g o l ∧ (base = none → l.length = 0 ∧ cap = 0) ∧ l.length ≤ cap := by
  rcases open_slice Try.underlying49 h with ⟨hcs, _⟩ | ⟨a, len, cap, m, n, D, Pl, hcs, _, hl, hm, hme, hx, hel⟩
  · exact ⟨none, 0, 0, 0, [], by simpa using hcs, ⟨fun h => absurd rfl h, fun h => absurd rfl h, fun i hi => by simp at hi, by simp⟩, fun _ => ⟨rfl, rfl⟩, Nat.le_refl _⟩
  · simp at hme
    subst hme
    by_cases hlen : len = 0
    · subst hlen
      exact ⟨some a, m, 0, 0, [], hcs, ⟨fun h => absurd rfl h, fun h => absurd rfl h, fun i hi => by simp at hi, by simp⟩, (fun h => by cases h), hl⟩
    · have key : ∀ i, i < m → ∃ y : OpD, w.cell? (a.add (i * 4)) = some (.int .i64 y.kind) ∧ w.cell? (a.add (i * 4 + 1)) = some (.int .i64 y.key) ∧ w.cell? (a.add (i * 4 + 2)) = some (.int .i64 y.val) ∧ w.cell? (a.add (i * 4 + 3)) = some (.int .i64 y.hi) := by
        intro i hi
        obtain ⟨cs, h1, h2⟩ := hel i hi
        obtain ⟨p, rfl⟩ := open_op h2
        rw [cop] at h1
        obtain ⟨_, _, hcell⟩ := World.cells?_some h1
        have e0 := hcell 0 (by omega)
        have e1 := hcell 1 (by omega)
        have e2 := hcell 2 (by omega)
        have e3 := hcell 3 (by omega)
        rw [Deep.add_add] at e0 e1 e2 e3
        exact ⟨p, by simpa using e0, by simpa using e1, by simpa using e2, by simpa using e3⟩
      obtain ⟨f, hf⟩ := choose_lt key
      obtain ⟨b, o, s⟩ := a
      have hs : s = none := by
        have := (hf 0 (by omega)).1
        simpa [Addr.add] using World.cell?_spot this
      subst hs
      simp only [addr_add'] at hf
      have hll : ((List.range len).map f).length = len := by simp
      refine ⟨some ⟨b, o, none⟩, m, b, o, (List.range len).map f, by rw [hll]; exact hcs, ⟨fun _ => rfl, fun _ => World.block_lt_of_cell? w _ (hf 0 (by omega)).1, fun i hi => ?_, by rw [hll]; omega⟩, (fun h => by cases h), by rw [hll]; exact hl⟩
      rw [hll] at hi
      have q := hf i (by omega)
      have e : opAt ((List.range len).map f) i = f i := by unfold opAt; rw [List.getD_eq_getElem?_getD, List.getElem?_map, List.getElem?_range hi]; rfl
      rw [e]
      simp only [← Nat.add_assoc] at q
      exact q
theorem open_ns {n : Nat} {cs : List Value} {x : DataW H × List MemPlace} (h : DataW.trod enc Try.prog w 0 (fun _ => true) true n 50 cs = some x) :
    ∃ (a0 : Option Addr) (cap g o : Nat) (L : List Int), cs = [.slice a0 L.length cap] ∧ NAt w a0 g o L ∧ (a0 = none → L.length = 0 ∧ cap = 0) ∧ ((x.1.weights Try.prog 50).all (· ≤ reachBytes) = true → L.length * 8 ≤ 140737488351232) := by
  rcases open_slice Try.underlying50 h with ⟨hcs, _⟩ | ⟨a, len, cap, m, n, D, Pl, hcs, _, hl, hm, hme, hx, hel⟩
  · exact ⟨none, 0, 0, 0, [], by simpa using hcs, ⟨fun h => absurd rfl h, fun h => absurd rfl h, fun i hi => by simp at hi, by simp⟩, fun _ => ⟨rfl, rfl⟩, fun _ => by simp⟩
  · simp at hme
    subst hme
    have hw : ∀ k, k ≤ len → (x.1.weights Try.prog 50).all (· ≤ reachBytes) = true → k * 8 ≤ 140737488351232 := by
      intro k hk hwt
      rw [hx] at hwt
      simp only [DataW.weights, Try.underlying50, bin_, List.all_cons, Bool.and_eq_true, decide_eq_true_eq] at hwt
      have := hwt.1
      simp [reachBytes] at this
      omega
    by_cases hlen : len = 0
    · subst hlen
      exact ⟨some a, m, 0, 0, [], hcs, ⟨fun h => absurd rfl h, fun h => absurd rfl h, fun i hi => by simp at hi, by simp⟩, (fun h => by cases h), fun _ => by simp⟩
    · have key : ∀ i, i < m → ∃ d : Int, w.cell? (a.add i) = some (.int .i64 d) := by
        intro i hi
        obtain ⟨cs, h1, h2⟩ := hel i hi
        rw [ci] at h1
        obtain ⟨a0, e0, _, _⟩ := DataW.trod_int Try.underlying3 h2
        subst e0
        obtain ⟨_, _, hcell⟩ := World.cells?_some h1
        have e0 := hcell 0 (by omega)
        rw [Deep.add_add] at e0
        exact ⟨a0, by simpa using e0⟩
      obtain ⟨f, hf⟩ := choose_lt key
      obtain ⟨b, o, s⟩ := a
      have hs : s = none := by
        have := hf 0 (by omega)
        simpa [Addr.add] using World.cell?_spot this
      subst hs
      simp only [addr_add'] at hf
      have e : ((List.range len).map f).length = len := by simp
      refine ⟨_, m, b, o, (List.range len).map f, by rw [e]; exact hcs, ⟨fun _ => rfl, fun _ => ?_, fun i hi => ?_, by simp; omega⟩, (fun h => by cases h), fun hwt => by rw [e]; exact hw len (Nat.le_refl _) hwt⟩
      · exact World.block_lt_of_cell? w _ (hf 0 (by omega))
      · simp at hi
        rw [hf i (by omega)]
        simp [List.getD_eq_getElem?_getD, List.getElem?_range hi]
theorem open_spread {n : Nat} {cs : List Value} {x : DataW H × List MemPlace} (h : DataW.trod enc Try.prog w 0 (fun _ => true) true n 52 cs = some x) :
    ∃ (x : XD) (S : PL) (Os : List OpD) (pa oa a1 a2 a3 : Option Addr) (pg po pc og oo oc g1 o1 c1 g2 o2 c2 g3 o3 c3 : Nat), cs = [.slice pa S.length pc, .slice oa Os.length oc, .slice a1 x.th.length c1, .slice a2 x.ea.length c2, .slice a3 x.la.length c3] ∧ PairsAt w pa pg po S ∧ NilOk pa S.length pc ∧ S.length ≤ pc ∧ OpsAt w oa og oo Os ∧ NAt w a1 g1 o1 x.th ∧ NAt w a2 g2 o2 x.ea ∧ NAt w a3 g3 o3 x.la := by
  obtain ⟨y0, y1, y2, y3, y4, m, _, hl, g0, g1, g2, g3, g4⟩ := struct5 Try.underlying52 h
  rw [cspr_] at hl
  simp only [cps, cops_, cns_] at g0 g1 g2 g3 g4
  match cs, hl with
  | [v0, v1, v2, v3, v4], _ =>
    simp at g0 g1 g2 g3 g4
    obtain ⟨pa, pc, pg, po, S, e0, hm1, hm2, hm3, _⟩ := open_pairs g0
    obtain ⟨oa, oc, og, oo, Os, e1, ho1, _, _⟩ := open_ops g1
    obtain ⟨a1, c1, b1, o1, l1, e2, n1, _, _⟩ := open_ns g2
    obtain ⟨a2, c2, b2, o2, l2, e3, n2, _, _⟩ := open_ns g3
    obtain ⟨a3, c3, b3, o3, l3, e4, n3, _, _⟩ := open_ns g4
    simp at e0 e1 e2 e3 e4
    exact ⟨⟨l1, l2, l3⟩, S, Os, pa, oa, a1, a2, a3, pg, po, pc, og, oo, oc, b1, o1, c1, b2, o2, c2, b3, o3, c3, by rw [e0, e1, e2, e3, e4], hm1, hm2, hm3, ho1, n1, n2, n3⟩
end

set_option maxRecDepth 100000 in
theorem histories_lifted (os : Os) (started : os.Started) (H : Type) (enc : TypeId × Value → H) :
    ReturnsInHanded {} Try.checked os 4 .any (Rows.larchHistoriesSpec.pre6 enc Try.prog Try.f4 Rows.larchHistoriesRow.domain false) (Rows.larchHistoriesSpec.post enc Try.prog Try.f4 false true false false) := by
  refine returnsInHanded_of_change_sized (C := Try.checked) own started (by kernel_rfl) Try.func4
    (ChangeSpec.witness6 (enc := enc) (C := Try.checked) false ⟨#[], #[.agg #[.slice none 0 0, .slice none 0 0, .slice none 0 0, .slice none 0 0, .slice none 0 0]], []⟩ 8 (by kernel_rfl) (by kernel_rfl) (by kernel_rfl) (by kernel_rfl)) ?_
  intro W base args ds gs before hval0 hW _ hsz0 _
  have hval : ∀ (j : Nat) t v, Try.f4.params[j]? = some t → args[j]? = some v → Value.okWide Try.prog W .any base t v := hval0
  have hW' := hW
  obtain ⟨p, q, hA0, hV, rfl, hfz, hnd⟩ := hW
  have hA : DataW.TrodAll enc Try.prog W 0 (fun _ => true) true Try.f4.params.toList args.toList ds p := hA0
  rw [Try.params4] at hA hval
  obtain ⟨v0, d0, rfl, rfl, h0⟩ := trodAll_one hA
  obtain ⟨rfl, rfl⟩ := trodVars_none hV
  obtain ⟨cs, rfl, hcs⟩ := okWide_struct Try.underlying52 (hval 0 52 v0 rfl rfl)
  have k0 := h0
  have lt0 : ∀ x ∈ p, x.block < W.heap.size := by obtain ⟨m, hm⟩ := k0; exact DataW.trod_lt m _ _ _ hm
  obtain ⟨fuel0, hf0⟩ := h0
  obtain ⟨x, S, Os, pa, oa, a1, a2, a3, pg, po, pc, og, oo, oc, g1, o1, c1, g2, o2, c2, g3, o3, c3, e, q1, q2, q3, q4, q5, q6, q7⟩ := open_spread hf0
  have hcs2 : cs = #[.slice pa S.length pc, .slice oa Os.length oc, .slice a1 x.th.length c1, .slice a2 x.ea.length c2, .slice a3 x.la.length c3] := by
    apply Array.ext'
    simpa [Value.cells] using e
  subst hcs2
  clear hA0 hval0
  refine (histories_any x S Os pa oa a1 a2 a3 pg po pc og oo oc g1 o1 c1 g2 o2 c2 g3 o3 c3 W q1 q2 q3 q4 q5 q6 q7).mono fun e W' ⟨he, bel⟩ => ?_
  subst he
  exact ⟨_, rfl, _, _, _, [], _, [], hW', trodAll_mk1 (shut_bool Try.underlying4 _), trodAll_mk1 (Below.trod laidOut (by kernel_rfl) (of_decide_eq_true (by kernel_rfl)) k0 bel lt0), rfl, bel.frame _, fun h => by cases h⟩

/-- For every input LarchHistories returns true, and its argument reads as before. -/
theorem larchHistories_proved : Rows.LarchHistoriesSaid :=
  OpenClaim.holds_of_wide 4 Try.f4 rfl rfl rfl rfl rfl rfl rfl ⟨rfl, rfl, rfl, rfl, rfl⟩ rfl rfl rfl rfl rfl (by kernel_rfl) Try.func4 (by kernel_rfl)
    (of_decide_eq_true (by kernel_rfl)) (by unfold Func.isWrapper; first | (rw [if_pos (by decide +kernel)]; kernel_rfl) | (rw [if_neg (by decide +kernel)]; exact ⟨rfl, rfl⟩))
    (fun os started H enc _ => histories_lifted os started H enc)
#print axioms larchHistories_proved

end Go.Proofs.Ytljidfaeljpnpaa
