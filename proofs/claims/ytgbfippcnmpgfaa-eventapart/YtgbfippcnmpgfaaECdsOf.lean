
/- Layer 5: what the walks of operations leave, read as data; operations that are handed in. No walk. -/

import Derived.Test.YtgbfippcnmpgfaaEOur

import Derived.Test.YtgbfippcnmpgfaaEOpen

namespace Go.Proofs.Ytgbfippcnmpgfaa

open Go.ChangeShapes Go.WideShapes Go.ChangeAt Go.RowKit Go.Deep

theorem cd_cells {w : World} {g : Nat} {k : Nat} {x : CD × Value} {base : Option Addr} {cap : Nat} (hx : x.2 = .slice base x.1.rt.pairs.length cap) (h : ∀ i, i < 11 → w.cell? ⟨g, k * 11 + i, none⟩ = (cdC x.1 x.2)[i]?) : ∀ i, i < 11 → w.cell? ⟨g, 0 + k * 11 + i, none⟩ = (cdC x.1 (.slice base x.1.rt.pairs.length cap))[i]? := by
  intro i hi
  rw [Nat.zero_add, h i hi, hx]
/-- Cells of operations and their lists of pairs: operations in memory. -/
theorem cds_of {w : World} {base : Option Addr} {g : Nat} {m : List (CD × Value)} {l : List CD} (hm : m.map (·.1) = l) (hb : m.length ≠ 0 → base = some ⟨g, 0, none⟩) (hl : m.length ≠ 0 → g < w.heap.size) (hlen : l.length ≤ maxLen)
    (hc : ∀ k x, m[k]? = some x → ∀ i, i < 11 → w.cell? ⟨g, k * 11 + i, none⟩ = (cdC x.1 x.2)[i]?)
    (hp : ∀ x ∈ m, ∃ a q cap, x.2 = .slice a x.1.rt.pairs.length cap ∧ PairsAt w a q 0 x.1.rt.pairs ∧ (a = none → cap = 0)) (hby : ∀ x ∈ l, x.rt.pairs.length * 16 ≤ 140737488355328) :
    ∃ pb pc pg po, CdsAt w base g 0 l pb pc pg po := by
  have hml : m.length = l.length := by rw [← hm, List.length_map]
  have key : ∀ i, i < l.length → ∃ y : (Option Addr) × Nat × Nat, (∀ k, k < 11 → w.cell? ⟨g, 0 + i * 11 + k, none⟩ = (cdC (cdAt l i) (.slice y.1 (cdAt l i).rt.pairs.length y.2.2))[k]?) ∧ PairsAt w y.1 y.2.1 0 (cdAt l i).rt.pairs ∧ (y.1 = none → y.2.2 = 0) := by
    intro i hi
    have hi2 : i < m.length := by omega
    obtain ⟨x, hx⟩ : ∃ x, m[i]? = some x := ⟨m[i], List.getElem?_eq_getElem hi2⟩
    have hxm : x ∈ m := List.mem_of_getElem? hx
    have e : cdAt l i = x.1 := by
      unfold cdAt
      rw [← hm, List.getD_eq_getElem?_getD, List.getElem?_map, hx]
      rfl
    obtain ⟨a, q, cap, h1, h2, h3⟩ := hp x hxm
    rw [e]
    exact ⟨(a, q, cap), cd_cells h1 (hc i x hx), h2, h3⟩
  obtain ⟨f, hf⟩ := choose_lt key
  refine ⟨fun i => (f i).1, fun i => (f i).2.2, fun i => (f i).2.1, fun _ => 0, ⟨fun q => hb (by omega), fun q => hl (by omega), hlen, fun i hi => ?_, fun i hi => ?_, fun i hi => ?_, fun i hi => ?_⟩⟩
  · have q := (hf i hi).1
    exact ⟨q 0 (by omega), q 1 (by omega), q 2 (by omega), q 3 (by omega), q 4 (by omega)⟩
  · have q := (hf i hi).1
    exact ⟨q 5 (by omega), q 6 (by omega), q 7 (by omega), q 8 (by omega)⟩
  · have q := (hf i hi).1
    exact ⟨q 9 (by omega), q 10 (by omega)⟩
  · obtain ⟨_, q1, q2⟩ := hf i hi
    refine ⟨q1, fun z => ⟨Classical.byContradiction (fun n => by have := q1.base n; rw [z] at this; cases this), q2 z⟩, hby _ ?_⟩
    unfold cdAt
    rw [List.getD_eq_getElem?_getD, List.getElem?_eq_getElem hi]
    exact List.getElem_mem _
/-- What our leaves. -/
theorem our_cds {w : World} {B : Nat} {T : TypeId} {v : Value} {m : List (CD × Value)} {l : List CD} (hm : m.map (·.1) = l) (ho : w.ownsRow B T 11 v m.length (cdsC m)) (hr : CRets w B v.ownBlock m) (hby : ∀ x ∈ l, x.rt.pairs.length * 16 ≤ 140737488355328) :
    ∃ base cap g pb pc pg po, v = .slice base l.length cap ∧ CdsAt w base g 0 l pb pc pg po := by
  have hml : m.length = l.length := by rw [← hm, List.length_map]
  have hp : ∀ x ∈ m, ∃ a q cap, x.2 = .slice a x.1.rt.pairs.length cap ∧ PairsAt w a q 0 x.1.rt.pairs ∧ (a = none → cap = 0) := by
    intro x hx
    obtain ⟨g, cap, e, _, _, _, h⟩ := hr x hx
    exact ⟨_, g, cap, e, h, fun q => by cases q⟩
  by_cases hn : m.length = 0
  · obtain ⟨a, c, e⟩ := owns_form ho
    obtain ⟨pb, pc, pg, po, h⟩ := cds_of (base := a) (g := 0) hm (fun q => absurd hn q) (fun q => absurd hn q) (by omega) (fun k x hx => by have := (List.getElem?_eq_some_iff.1 hx).1; omega) hp hby
    exact ⟨a, c, 0, pb, pc, pg, po, by rw [e, hml], h⟩
  · obtain ⟨g, cap, e, h1, h2, h3, h4, h5, h6⟩ := owns_some ho (by omega)
    obtain ⟨pb, pc, pg, po, h⟩ := cds_of (base := some ⟨g, 0, none⟩) (g := g) hm (fun _ => rfl) (fun _ => h2) (by omega) (fun k x hx i hi => by have hk := (List.getElem?_eq_some_iff.1 hx).1; rw [h5 _ (by omega)]; exact cdsC_get m k i x hx hi) hp hby
    exact ⟨_, cap, g, pb, pc, pg, po, by rw [e, hml], h⟩
/-- An operation of a history, as data. -/
def cdOf (hs : List EvD) (p : Sp) : CD := ⟨(evAt hs p.1).th, (evAt hs p.1).op, retOf hs p, p.1, p.2⟩
theorem callC_cdC (hs : List EvD) (p : Sp) (v : Value) : callC hs p v = cdC (cdOf hs p) v := rfl
theorem cdsOf_eq (hs : List EvD) (sp : List Sp) : cdsOf hs sp = sp.map (cdOf hs) := rfl
def toCd (hs : List EvD) (l : List (Sp × Value)) : List (CD × Value) := l.map fun x => (cdOf hs x.1, x.2)
theorem toCd_get {hs : List EvD} {l : List (Sp × Value)} {k : Nat} {x : CD × Value} (h : (toCd hs l)[k]? = some x) : ∃ y, l[k]? = some y ∧ x = (cdOf hs y.1, y.2) := by
  unfold toCd at h
  rw [List.getElem?_map] at h
  cases e : l[k]? with
  | none => rw [e] at h; cases h
  | some y => rw [e] at h; exact ⟨y, rfl, (Option.some.inj h).symm⟩
theorem toCd_map {hs : List EvD} {l : List (Sp × Value)} {sp : List Sp} (h : l.map (·.1) = sp) : (toCd hs l).map (·.1) = cdsOf hs sp := by
  rw [cdsOf_eq, ← h]
  unfold toCd
  simp
theorem bytes_of {hs : List EvD} {sp : List Sp} (hby : ∀ i, i < hs.length → (evAt hs i).rt.pairs.length * 16 ≤ 140737488355328) : ∀ x ∈ cdsOf hs sp, x.rt.pairs.length * 16 ≤ 140737488355328 := by
  intro x hx
  rw [cdsOf_eq] at hx
  obtain ⟨p, _, rfl⟩ := List.mem_map.1 hx
  show (retOf hs p).pairs.length * 16 ≤ _
  unfold retOf
  split
  · simp [RetD.zero]
  · by_cases hi : p.2.toNat < hs.length
    · exact hby _ hi
    · have : evAt hs p.2.toNat = ev0 := by unfold evAt; rw [List.getD_eq_getElem?_getD, List.getElem?_eq_none (by omega)]; rfl
      rw [this]
      simp [ev0, RetD.zero]
/-- What the program's Calls leaves. -/
theorem calls_cds {hs : List EvD} {w : World} {B g : Nat} {l : List (Sp × Value)} {sp : List Sp} (hm : l.map (·.1) = sp) (hc : CallsAt hs w (some ⟨g, 0, none⟩) g l) (ho : ∀ x ∈ l, OwnP w B (retOf hs x.1).pairs x.2) (hlen : sp.length ≤ maxLen) (hby : ∀ i, i < hs.length → (evAt hs i).rt.pairs.length * 16 ≤ 140737488355328) :
    ∃ pb pc pg po, CdsAt w (some ⟨g, 0, none⟩) g 0 (cdsOf hs sp) pb pc pg po := by
  have hl : (toCd hs l).length = l.length := by unfold toCd; simp
  refine cds_of (toCd_map hm) (fun _ => rfl) (fun q => hc.lt (by omega)) (by rw [cdsOf_length]; exact hlen) (fun k x hx i hi => ?_) (fun x hx => ?_) (bytes_of hby)
  · obtain ⟨y, hy, rfl⟩ := toCd_get hx
    exact hc.cells k y hy i hi
  · obtain ⟨y, hy, rfl⟩ := List.mem_map.1 hx
    obtain ⟨a, g', cap, e, _, h2, h3⟩ := ho y hy
    exact ⟨a, g', cap, e, h2, h3⟩
/-- What the reference's Calls leaves. -/
theorem rcalls_cds {hs : List EvD} {w : World} {B : Nat} {T : TypeId} {v : Value} {l : List (Sp × Value)} {sp : List Sp} (hm : l.map (·.1) = sp) (ho : w.ownsRow B T 11 v l.length (callsC hs l)) (hr : RetsAt hs w B v.ownBlock l) (hby : ∀ i, i < hs.length → (evAt hs i).rt.pairs.length * 16 ≤ 140737488355328) :
    ∃ base cap g pb pc pg po, v = .slice base sp.length cap ∧ CdsAt w base g 0 (cdsOf hs sp) pb pc pg po := by
  obtain ⟨base, cap, g, e, _, hc, hlen⟩ := calls_of_owns ho
  have hl : (toCd hs l).length = l.length := by unfold toCd; simp
  have hsl : l.length = sp.length := by rw [← hm, List.length_map]
  obtain ⟨pb, pc, pg, po, h⟩ := cds_of (w := w) (base := base) (g := g) (toCd_map (hs := hs) hm) (fun q => hc.base (by omega)) (fun q => hc.lt (by omega)) (by rw [cdsOf_length]; omega) (fun k x hx i hi => by
      obtain ⟨y, hy, rfl⟩ := toCd_get hx
      exact hc.cells k y hy i hi) (fun x hx => by
      obtain ⟨y, hy, rfl⟩ := List.mem_map.1 hx
      by_cases q : y.1.2 = -1
      · have e1 := (hr y hy).1 q
        have e2 : (cdOf hs y.1).rt = RetD.zero := by show retOf hs y.1 = _; unfold retOf; rw [if_pos q]
        simp only [e2]
        exact ⟨none, 0, 0, e1, pairs_none _, fun _ => rfl⟩
      · obtain ⟨g', cap', e1, _, _, _, h4⟩ := (hr y hy).2 q
        exact ⟨_, g', cap', e1, h4, fun z => by cases z⟩) (bytes_of hby)
  exact ⟨base, cap, g, pb, pc, pg, po, by rw [e, hsl], h⟩
end Go.Proofs.Ytgbfippcnmpgfaa
