
/- Layer 5: numbers written over in some blocks, all else as it was; what is read then. No walk. -/

import Derived.Test.YtgbfippcnmpgfaaECpR

import Derived.Test.YtgbfippcnmpgfaaELcd

namespace Go.Proofs.Ytgbfippcnmpgfaa

open Go.RowKit Go.Deep

instance : Inhabited EvD := ⟨ev0⟩
instance : Inhabited CD := ⟨cd0⟩
/-- In the blocks of KS numbers may have been written over; all else stands. -/
structure Spo (KS : Nat → Prop) (w z : World) : Prop where
  bel : Below 0 w z
  keep : ∀ b, b < w.heap.size → ¬ KS b → z.heap[b]? = w.heap[b]?
  int : ∀ b j x, b < w.heap.size → w.cell? ⟨b, j, none⟩ = some (.int .i64 x) → ∃ y, z.cell? ⟨b, j, none⟩ = some (.int .i64 y)
  oth : ∀ b j u, b < w.heap.size → w.cell? ⟨b, j, none⟩ = some u → (∀ x, u ≠ .int .i64 x) → z.cell? ⟨b, j, none⟩ = some u
  frz : ∀ b j, b < w.heap.size → z.frozen? ⟨b, j, none⟩ = w.frozen? ⟨b, j, none⟩
theorem Spo.refl (KS : Nat → Prop) (w : World) : Spo KS w w := ⟨Below.refl _ _, fun _ _ _ => rfl, fun _ _ x _ h => ⟨x, h⟩, fun _ _ _ _ h _ => h, fun _ _ _ => rfl⟩
theorem Spo.size {KS : Nat → Prop} {w z : World} (h : Spo KS w z) : w.heap.size ≤ z.heap.size := h.bel.size
theorem Spo.trans {KS : Nat → Prop} {w z y : World} (h : Spo KS w z) (k : Spo KS z y) : Spo KS w y := by
  have hs := h.size
  refine ⟨h.bel.trans k.bel, fun b hb hk => (k.keep b (by omega) hk).trans (h.keep b hb hk), fun b j x hb hx => ?_, fun b j _ hb hu hn => k.oth b j _ (by omega) (h.oth b j _ hb hu hn) hn, fun b j hb => (k.frz b j (by omega)).trans (h.frz b j hb)⟩
  obtain ⟨y, hy⟩ := h.int b j x hb hx
  exact k.int b j y (by omega) hy
theorem Spo.of_below {KS : Nat → Prop} {w z : World} (h : Below w.heap.size w z) : Spo KS w z :=
  ⟨h.mono (Nat.zero_le _), fun b hb _ => h.block b hb, fun b j x hb hx => ⟨x, (h.cell (p := ⟨b, j, none⟩) hb).trans hx⟩, fun b j _ hb hu _ => (h.cell (p := ⟨b, j, none⟩) hb).trans hu, fun b j hb => h.frozen (p := ⟨b, j, none⟩) hb⟩
theorem Spo.below {KS : Nat → Prop} {w z y : World} (h : Spo KS w z) (k : Below z.heap.size z y) : Spo KS w y := h.trans (Spo.of_below k)
theorem Spo.set {KS : Nat → Prop} {w z : World} (h : Spo KS w z) {b j : Nat} (hk : KS b) (y : Int) {x : Int} (hx : z.cell? ⟨b, j, none⟩ = some (.int .i64 x)) : Spo KS w (z.setCell ⟨b, j, none⟩ (.int .i64 y)) := by
  refine h.trans ⟨(Below.refl 0 z).setCell (Nat.zero_le _) _, fun c _ hc => ?_, fun c i x' _ hx' => ?_, fun c i _ _ hu hn => ?_, fun c i _ => by simp⟩
  · exact Below.heap_setCell _ _ _ c (fun e => hc (by have e' : c = b := e; rw [e']; exact hk))
  · by_cases e : (⟨b, j, none⟩ : Addr) = ⟨c, i, none⟩
    · rw [← e]; exact ⟨y, World.cell?_setCell_same _ _ _ hx⟩
    · exact ⟨x', by rw [World.cell?_setCell_other _ _ _ _ e]; exact hx'⟩
  · by_cases e : (⟨b, j, none⟩ : Addr) = ⟨c, i, none⟩
    · rw [← e, hx] at hu
      exact absurd (Option.some.inj hu).symm (hn x)
    · rw [World.cell?_setCell_other _ _ _ _ e]; exact hu
theorem Spo.wide {KS KS' : Nat → Prop} {w z : World} (h : Spo KS w z) (hk : ∀ b, KS b → KS' b) : Spo KS' w z := ⟨h.bel, fun b hb q => h.keep b hb (fun r => q (hk b r)), h.int, h.oth, h.frz⟩

/-! ### What is kept. -/
theorem PairsAt.stay {KS : Nat → Prop} {w z : World} {base : Option Addr} {b o : Nat} {ps : PL} (h : PairsAt w base b o ps) (s : Spo KS w z) (hk : ps.length ≠ 0 → ¬ KS b) : PairsAt z base b o ps := by
  have q : ∀ j, ps.length ≠ 0 → z.cell? ⟨b, j, none⟩ = w.cell? ⟨b, j, none⟩ := fun j hn => World.cell?_of_block (w := w) (s.keep b (h.lt hn) (hk hn))
  refine ⟨h.base, fun hn => Nat.lt_of_lt_of_le (h.lt hn) s.size, fun i hi => ?_, h.len, fun i hi => (s.frz b _ (h.lt (by omega))).trans (h.thaw i hi)⟩
  rw [q _ (by omega), q _ (by omega)]
  exact h.cells i hi
theorem PairsAt.keptB {w z : World} {base : Option Addr} {b o : Nat} {ps : PL} (h : PairsAt w base b o ps) (hs : w.heap.size ≤ z.heap.size) (hk : ps.length ≠ 0 → z.heap[b]? = w.heap[b]?) : PairsAt z base b o ps := by
  refine ⟨h.base, fun hn => Nat.lt_of_lt_of_le (h.lt hn) hs, fun i hi => ?_, h.len, fun i hi => (World.frozen?_of_block (w := w) (hk (by omega))).trans (h.thaw i hi)⟩
  rw [World.cell?_of_block (w := w) (a := ⟨b, o + i * 2, none⟩) (hk (by omega)), World.cell?_of_block (w := w) (a := ⟨b, o + i * 2 + 1, none⟩) (hk (by omega))]
  exact h.cells i hi
theorem EvsAt.stay {KS : Nat → Prop} {w z : World} {base : Option Addr} {b o : Nat} {hs : List EvD} {pb : Nat → Option Addr} {pc pg po : Nat → Nat} (h : EvsAt w base b o hs pb pc pg po) (s : Spo KS w z) (hk : hs.length ≠ 0 → ¬ KS b) (hp : ∀ i, i < hs.length → (evAt hs i).rt.pairs.length ≠ 0 → ¬ KS (pg i)) : EvsAt z base b o hs pb pc pg po := by
  have q : hs.length ≠ 0 → ∀ j, z.cell? ⟨b, j, none⟩ = w.cell? ⟨b, j, none⟩ := fun hn j => World.cell?_of_block (w := w) (s.keep b (h.lt hn) (hk hn))
  refine ⟨h.base, fun hn => Nat.lt_of_lt_of_le (h.lt hn) s.size, h.len, fun i hi => ?_, fun i hi => ?_, fun i hi => ?_, fun i hi => ⟨(h.prs i hi).1.stay s (hp i hi), (h.prs i hi).2⟩, fun i hi => (s.frz b _ (h.lt (by omega))).trans (h.thaw i hi)⟩
  · simp only [q (by omega)]; exact h.c0 i hi
  · simp only [q (by omega)]; exact h.c1 i hi
  · simp only [q (by omega)]; exact h.c2 i hi
theorem CdsAt.stay {KS : Nat → Prop} {w z : World} {base : Option Addr} {b o : Nat} {l : List CD} {pb : Nat → Option Addr} {pc pg po : Nat → Nat} (h : CdsAt w base b o l pb pc pg po) (s : Spo KS w z) (hk : l.length ≠ 0 → ¬ KS b) (hp : ∀ i, i < l.length → (cdAt l i).rt.pairs.length ≠ 0 → ¬ KS (pg i)) : CdsAt z base b o l pb pc pg po := by
  have q : l.length ≠ 0 → ∀ j, z.cell? ⟨b, j, none⟩ = w.cell? ⟨b, j, none⟩ := fun hn j => World.cell?_of_block (w := w) (s.keep b (h.lt hn) (hk hn))
  refine ⟨h.base, fun hn => Nat.lt_of_lt_of_le (h.lt hn) s.size, h.len, fun i hi => ?_, fun i hi => ?_, fun i hi => ?_, fun i hi => ⟨(h.prs i hi).1.stay s (hp i hi), (h.prs i hi).2⟩⟩
  · simp only [q (by omega)]; exact h.c0 i hi
  · simp only [q (by omega)]; exact h.c1 i hi
  · simp only [q (by omega)]; exact h.c2 i hi

/-! ### What is read of things that were written over: things of the same form. -/
theorem PairsAt.turn {KS : Nat → Prop} {w z : World} {base : Option Addr} {b o : Nat} {ps : PL} (h : PairsAt w base b o ps) (s : Spo KS w z) : ∃ qs : PL, qs.length = ps.length ∧ PairsAt z base b o qs := by
  have key : ∀ i, i < ps.length → ∃ y : Int × Int, z.cell? ⟨b, o + i * 2, none⟩ = some (.int .i64 y.1) ∧ z.cell? ⟨b, o + i * 2 + 1, none⟩ = some (.int .i64 y.2) := by
    intro i hi
    obtain ⟨y, hy⟩ := s.int b _ _ (h.lt (by omega)) (h.cells i hi).1
    obtain ⟨x, hx⟩ := s.int b _ _ (h.lt (by omega)) (h.cells i hi).2
    exact ⟨(y, x), hy, hx⟩
  obtain ⟨f, hf⟩ := choose_lt key
  have hl : ((List.range ps.length).map f).length = ps.length := by simp
  refine ⟨(List.range ps.length).map f, hl, ⟨fun hn => h.base (by omega), fun hn => Nat.lt_of_lt_of_le (h.lt (by omega)) s.size, fun i hi => ?_, by rw [hl]; exact h.len, fun i hi => (s.frz b _ (h.lt (by omega))).trans (h.thaw i (by omega))⟩⟩
  rw [hl] at hi
  have e : ((List.range ps.length).map f).getD i (0, 0) = f i := by rw [List.getD_eq_getElem?_getD, List.getElem?_map, List.getElem?_range hi]; rfl
  unfold keyAt valAt
  rw [e]
  exact hf i hi
theorem getD_range {α : Type} {n : Nat} {f : Nat → α} {d : α} {i : Nat} (hi : i < n) : ((List.range n).map f).getD i d = f i := by
  rw [List.getD_eq_getElem?_getD, List.getElem?_map, List.getElem?_range hi]; rfl
theorem EvsAt.turn {KS : Nat → Prop} {w z : World} {base : Option Addr} {b o : Nat} {hs : List EvD} {pb : Nat → Option Addr} {pc pg po : Nat → Nat} (h : EvsAt w base b o hs pb pc pg po) (s : Spo KS w z) :
    ∃ hs' : List EvD, hs'.length = hs.length ∧ (∀ i, i < hs.length → (evAt hs' i).rt.pairs.length = (evAt hs i).rt.pairs.length) ∧ EvsAt z base b o hs' pb pc pg po := by
  have key : ∀ i, i < hs.length → ∃ y : EvD, y.rt.pairs.length = (evAt hs i).rt.pairs.length ∧ (z.cell? ⟨b, o + i * 10, none⟩ = some (.int .i64 y.th) ∧ z.cell? ⟨b, o + i * 10 + 1, none⟩ = some (.bool y.ret)) ∧ (z.cell? ⟨b, o + i * 10 + 2, none⟩ = some (.int .i64 y.op.kind) ∧ z.cell? ⟨b, o + i * 10 + 3, none⟩ = some (.int .i64 y.op.key) ∧ z.cell? ⟨b, o + i * 10 + 4, none⟩ = some (.int .i64 y.op.val) ∧ z.cell? ⟨b, o + i * 10 + 5, none⟩ = some (.int .i64 y.op.hi)) ∧ (z.cell? ⟨b, o + i * 10 + 6, none⟩ = some (.bool y.rt.ok) ∧ z.cell? ⟨b, o + i * 10 + 7, none⟩ = some (.int .i64 y.rt.key) ∧ z.cell? ⟨b, o + i * 10 + 8, none⟩ = some (.int .i64 y.rt.val) ∧ z.cell? ⟨b, o + i * 10 + 9, none⟩ = some (.slice (pb i) y.rt.pairs.length (pc i))) ∧ PairsAt z (pb i) (pg i) (po i) y.rt.pairs := by
    intro i hi
    have hb : b < w.heap.size := h.lt (by omega)
    obtain ⟨a0, a1⟩ := h.c0 i hi
    obtain ⟨a2, a3, a4, a5⟩ := h.c1 i hi
    obtain ⟨a6, a7, a8, a9⟩ := h.c2 i hi
    obtain ⟨x0, h0⟩ := s.int b _ _ hb a0
    obtain ⟨x2, h2⟩ := s.int b _ _ hb a2
    obtain ⟨x3, h3⟩ := s.int b _ _ hb a3
    obtain ⟨x4, h4⟩ := s.int b _ _ hb a4
    obtain ⟨x5, h5⟩ := s.int b _ _ hb a5
    obtain ⟨x7, h7⟩ := s.int b _ _ hb a7
    obtain ⟨x8, h8⟩ := s.int b _ _ hb a8
    have h1 := s.oth b _ _ hb a1 (fun x q => by cases q)
    have h6 := s.oth b _ _ hb a6 (fun x q => by cases q)
    have h9 := s.oth b _ _ hb a9 (fun x q => by cases q)
    obtain ⟨qs, hl, hq⟩ := (h.prs i hi).1.turn s
    exact ⟨⟨x0, (evAt hs i).ret, ⟨x2, x3, x4, x5⟩, ⟨(evAt hs i).rt.ok, x7, x8, qs⟩⟩, hl, ⟨h0, h1⟩, ⟨h2, h3, h4, h5⟩, ⟨h6, h7, h8, by rw [← hl] at h9; exact h9⟩, hq⟩
  obtain ⟨f, hf⟩ := choose_lt key
  have hl : ((List.range hs.length).map f).length = hs.length := by simp
  have he : ∀ i, i < hs.length → evAt ((List.range hs.length).map f) i = f i := fun i hi => getD_range hi
  refine ⟨(List.range hs.length).map f, hl, fun i hi => by rw [he i hi]; exact (hf i hi).1, ⟨fun hn => h.base (by omega), fun hn => Nat.lt_of_lt_of_le (h.lt (by omega)) s.size, by rw [hl]; exact h.len, fun i hi => ?_, fun i hi => ?_, fun i hi => ?_, fun i hi => ?_, fun i hi => (s.frz b _ (h.lt (by omega))).trans (h.thaw i (by omega))⟩⟩
  · rw [hl] at hi; rw [he i hi]; exact (hf i hi).2.1
  · rw [hl] at hi; rw [he i hi]; exact (hf i hi).2.2.1
  · rw [hl] at hi; rw [he i hi]; exact (hf i hi).2.2.2.1
  · rw [hl] at hi
    rw [he i hi]
    refine ⟨(hf i hi).2.2.2.2, fun q => ?_, ?_⟩
    · rw [(hf i hi).1]; exact (h.prs i hi).2.1 q
    · rw [(hf i hi).1]; exact (h.prs i hi).2.2
theorem CdsAt.turn {KS : Nat → Prop} {w z : World} {base : Option Addr} {b o : Nat} {l : List CD} {pb : Nat → Option Addr} {pc pg po : Nat → Nat} (h : CdsAt w base b o l pb pc pg po) (s : Spo KS w z) :
    ∃ l' : List CD, l'.length = l.length ∧ (∀ i, i < l.length → (cdAt l' i).rt.pairs.length = (cdAt l i).rt.pairs.length) ∧ CdsAt z base b o l' pb pc pg po := by
  have key : ∀ i, i < l.length → ∃ y : CD, y.rt.pairs.length = (cdAt l i).rt.pairs.length ∧ (z.cell? ⟨b, o + i * 11, none⟩ = some (.int .i64 y.th) ∧ z.cell? ⟨b, o + i * 11 + 1, none⟩ = some (.int .i64 y.op.kind) ∧ z.cell? ⟨b, o + i * 11 + 2, none⟩ = some (.int .i64 y.op.key) ∧ z.cell? ⟨b, o + i * 11 + 3, none⟩ = some (.int .i64 y.op.val) ∧ z.cell? ⟨b, o + i * 11 + 4, none⟩ = some (.int .i64 y.op.hi)) ∧ (z.cell? ⟨b, o + i * 11 + 5, none⟩ = some (.bool y.rt.ok) ∧ z.cell? ⟨b, o + i * 11 + 6, none⟩ = some (.int .i64 y.rt.key) ∧ z.cell? ⟨b, o + i * 11 + 7, none⟩ = some (.int .i64 y.rt.val) ∧ z.cell? ⟨b, o + i * 11 + 8, none⟩ = some (.slice (pb i) y.rt.pairs.length (pc i))) ∧ (z.cell? ⟨b, o + i * 11 + 9, none⟩ = some (.int .i64 y.fr) ∧ z.cell? ⟨b, o + i * 11 + 10, none⟩ = some (.int .i64 y.to)) ∧ PairsAt z (pb i) (pg i) (po i) y.rt.pairs := by
    intro i hi
    have hb : b < w.heap.size := h.lt (by omega)
    obtain ⟨a0, a1, a2, a3, a4⟩ := h.c0 i hi
    obtain ⟨a5, a6, a7, a8⟩ := h.c1 i hi
    obtain ⟨a9, a10⟩ := h.c2 i hi
    obtain ⟨x0, h0⟩ := s.int b _ _ hb a0
    obtain ⟨x1, h1⟩ := s.int b _ _ hb a1
    obtain ⟨x2, h2⟩ := s.int b _ _ hb a2
    obtain ⟨x3, h3⟩ := s.int b _ _ hb a3
    obtain ⟨x4, h4⟩ := s.int b _ _ hb a4
    obtain ⟨x6, h6⟩ := s.int b _ _ hb a6
    obtain ⟨x7, h7⟩ := s.int b _ _ hb a7
    obtain ⟨x9, h9⟩ := s.int b _ _ hb a9
    obtain ⟨x10, h10⟩ := s.int b _ _ hb a10
    have h5 := s.oth b _ _ hb a5 (fun x q => by cases q)
    have h8 := s.oth b _ _ hb a8 (fun x q => by cases q)
    obtain ⟨qs, hl, hq⟩ := (h.prs i hi).1.turn s
    exact ⟨⟨x0, ⟨x1, x2, x3, x4⟩, ⟨(cdAt l i).rt.ok, x6, x7, qs⟩, x9, x10⟩, hl, ⟨h0, h1, h2, h3, h4⟩, ⟨h5, h6, h7, by rw [← hl] at h8; exact h8⟩, ⟨h9, h10⟩, hq⟩
  obtain ⟨f, hf⟩ := choose_lt key
  have hl : ((List.range l.length).map f).length = l.length := by simp
  have he : ∀ i, i < l.length → cdAt ((List.range l.length).map f) i = f i := fun i hi => getD_range hi
  refine ⟨(List.range l.length).map f, hl, fun i hi => by rw [he i hi]; exact (hf i hi).1, ⟨fun hn => h.base (by omega), fun hn => Nat.lt_of_lt_of_le (h.lt (by omega)) s.size, by rw [hl]; exact h.len, fun i hi => ?_, fun i hi => ?_, fun i hi => ?_, fun i hi => ?_⟩⟩
  · rw [hl] at hi; rw [he i hi]; exact (hf i hi).2.1
  · rw [hl] at hi; rw [he i hi]; exact (hf i hi).2.2.1
  · rw [hl] at hi; rw [he i hi]; exact (hf i hi).2.2.2.1
  · rw [hl] at hi
    rw [he i hi]
    refine ⟨(hf i hi).2.2.2.2, fun q => ?_, ?_⟩
    · rw [(hf i hi).1]; exact (h.prs i hi).2.1 q
    · rw [(hf i hi).1]; exact (h.prs i hi).2.2

/-- The first events of a row are a row. -/
theorem EvsAt.head {w : World} {base : Option Addr} {b o : Nat} {hs R : List EvD} {pb : Nat → Option Addr} {pc pg po : Nat → Nat} (h : EvsAt w base b o (hs ++ R) pb pc pg po) : EvsAt w base b o hs pb pc pg po := by
  have e : ∀ i, i < hs.length → evAt (hs ++ R) i = evAt hs i := fun i hi => by unfold evAt; rw [List.getD_eq_getElem?_getD, List.getD_eq_getElem?_getD, List.getElem?_append_left hi]
  have hl : (hs ++ R).length = hs.length + R.length := List.length_append
  refine ⟨fun q => h.base (by omega), fun q => h.lt (by omega), by have := h.len; omega, fun i hi => ?_, fun i hi => ?_, fun i hi => ?_, fun i hi => ?_, fun i hi => h.thaw i (by omega)⟩
  · rw [← e i hi]; exact h.c0 i (by omega)
  · rw [← e i hi]; exact h.c1 i (by omega)
  · rw [← e i hi]; exact h.c2 i (by omega)
  · rw [← e i hi]; exact h.prs i (by omega)

/-! ### Where the operations lie. -/
/-- Operations in memory of the call's own: from block B on. -/
def CdsNew (w : World) (B : Nat) (v : Value) (l : List CD) : Prop :=
  ∃ base cap g pb pc pg po, v = .slice base l.length cap ∧ CdsAt w base g 0 l pb pc pg po ∧ (l.length ≠ 0 → B ≤ g) ∧ ∀ i, i < l.length → (cdAt l i).rt.pairs.length ≠ 0 → B ≤ pg i
theorem CdsNew.none (w : World) (B : Nat) : CdsNew w B (.slice none 0 0) [] := ⟨_, 0, 0, _, _, _, _, rfl, cds_none _, fun q => absurd rfl q, fun i hi => by simp at hi⟩
theorem cds_of2 {w : World} {B : Nat} {base : Option Addr} {g : Nat} {m : List (CD × Value)} {l : List CD} (hm : m.map (·.1) = l) (hb : m.length ≠ 0 → base = some ⟨g, 0, none⟩) (hl : m.length ≠ 0 → g < w.heap.size) (hlen : l.length ≤ maxLen)
    (hc : ∀ k x, m[k]? = some x → ∀ i, i < 11 → w.cell? ⟨g, k * 11 + i, none⟩ = (cdC x.1 x.2)[i]?)
    (hp : ∀ x ∈ m, ∃ a q cap, x.2 = .slice a x.1.rt.pairs.length cap ∧ PairsAt w a q 0 x.1.rt.pairs ∧ (a = none → cap = 0) ∧ (x.1.rt.pairs.length ≠ 0 → B ≤ q)) (hby : ∀ x ∈ l, x.rt.pairs.length * 16 ≤ 140737488355328) :
    ∃ pb pc pg po, CdsAt w base g 0 l pb pc pg po ∧ ∀ i, i < l.length → (cdAt l i).rt.pairs.length ≠ 0 → B ≤ pg i := by
  have hml : m.length = l.length := by rw [← hm, List.length_map]
  have key : ∀ i, i < l.length → ∃ y : (Option Addr) × Nat × Nat, (∀ k, k < 11 → w.cell? ⟨g, 0 + i * 11 + k, none⟩ = (cdC (cdAt l i) (.slice y.1 (cdAt l i).rt.pairs.length y.2.2))[k]?) ∧ PairsAt w y.1 y.2.1 0 (cdAt l i).rt.pairs ∧ (y.1 = none → y.2.2 = 0) ∧ ((cdAt l i).rt.pairs.length ≠ 0 → B ≤ y.2.1) := by
    intro i hi
    have hi2 : i < m.length := by omega
    obtain ⟨x, hx⟩ : ∃ x, m[i]? = some x := ⟨m[i], List.getElem?_eq_getElem hi2⟩
    have hxm : x ∈ m := List.mem_of_getElem? hx
    have e : cdAt l i = x.1 := by
      unfold cdAt
      rw [← hm, List.getD_eq_getElem?_getD, List.getElem?_map, hx]
      rfl
    obtain ⟨a, q, cap, h1, h2, h3, h4⟩ := hp x hxm
    rw [e]
    exact ⟨(a, q, cap), cd_cells h1 (hc i x hx), h2, h3, h4⟩
  obtain ⟨f, hf⟩ := choose_lt key
  refine ⟨fun i => (f i).1, fun i => (f i).2.2, fun i => (f i).2.1, fun _ => 0, ⟨fun q => hb (by omega), fun q => hl (by omega), hlen, fun i hi => ?_, fun i hi => ?_, fun i hi => ?_, fun i hi => ?_⟩, fun i hi => (hf i hi).2.2.2⟩
  · have q := (hf i hi).1
    exact ⟨q 0 (by omega), q 1 (by omega), q 2 (by omega), q 3 (by omega), q 4 (by omega)⟩
  · have q := (hf i hi).1
    exact ⟨q 5 (by omega), q 6 (by omega), q 7 (by omega), q 8 (by omega)⟩
  · have q := (hf i hi).1
    exact ⟨q 9 (by omega), q 10 (by omega)⟩
  · obtain ⟨_, q1, q2, _⟩ := hf i hi
    refine ⟨q1, fun z => ⟨Classical.byContradiction (fun n => by have := q1.base n; rw [z] at this; cases this), q2 z⟩, hby _ ?_⟩
    unfold cdAt
    rw [List.getD_eq_getElem?_getD, List.getElem?_eq_getElem hi]
    exact List.getElem_mem _
/-- The program's Calls, whatever the events. -/
theorem calls_new (base : Option Addr) (b o c : Nat) (hs : List EvD) (pb : Nat → Option Addr) (pc pg po : Nat → Nat) (w : World) (h : EvsAt w base b o hs pb pc pg po) :
    Calls Try.prog 6 #[.slice base hs.length c] w fun e w' => ∃ bs cap g qb qc qg qo, e = .returned (.tuple #[.slice bs (lcd hs).length cap, .int .i64 (hErr hs)]) ∧ Below w.heap.size w w' ∧ CdsAt w' bs g 0 (lcd hs) qb qc qg qo ∧ ((lcd hs).length ≠ 0 → w.heap.size ≤ g) ∧ (∀ i, i < (lcd hs).length → (cdAt (lcd hs) i).rt.pairs.length ≠ 0 → w.heap.size ≤ qg i) ∧ ∀ k, k < (lcd hs).length * 11 → w'.frozen? ⟨g, k, none⟩ = false := by
  refine (Calls_fz base b o c hs pb pc pg po w h).mono ?_
  rintro e w' ⟨v, rfl, hb, hz, hg⟩
  have hby : ∀ i, i < hs.length → (evAt hs i).rt.pairs.length * 16 ≤ 140737488355328 := fun i hi => (h.prs i hi).2.2
  unfold lcd
  by_cases he : hErr hs = 0
  · obtain ⟨g, l, g1, g2, rfl, hm, hc, ho, hf⟩ := hg he
    have hsh := spans_short he
    have hl : (toCd hs l).length = l.length := by unfold toCd; simp
    have hll : l.length = (spansL hs).length := by rw [← hm, List.length_map]
    obtain ⟨qb, qc, qg, qo, hC, hB⟩ := cds_of2 (w := w') (B := w.heap.size) (base := some ⟨g, 0, none⟩) (g := g) (toCd_map (hs := hs) hm) (fun _ => rfl) (fun _ => g2) (by rw [cdsOf_length]; unfold maxLen; omega) (fun k x hx i hi => by
        obtain ⟨y, hy, rfl⟩ := toCd_get hx
        exact hc.cells k y hy i hi) (fun x hx => by
        obtain ⟨y, hy, rfl⟩ := List.mem_map.1 hx
        obtain ⟨a, g', cap, e, q1, q2, q3⟩ := ho y hy
        exact ⟨a, g', cap, e, q2, q3, fun n => by have := q1 n; omega⟩) (bytes_of hby)
    rw [if_pos he]
    exact ⟨_, _, g, qb, qc, qg, qo, by rw [cdsOf_length], hb, hC, fun _ => g1, hB, fun k hk => hf k (by rw [cdsOf_length] at hk; exact hk)⟩
  · rw [if_neg he]
    exact ⟨none, 0, 0, _, _, _, _, by rw [hz he]; rfl, hb, cds_none _, fun q => absurd rfl q, fun i hi => by simp at hi, fun k hk => by simp at hk⟩
/-- The reference's Calls, whatever the events. -/
theorem rcalls_new (base : Option Addr) (b o c : Nat) (hs : List EvD) (pb : Nat → Option Addr) (pc pg po : Nat → Nat) (w : World) (h : EvsAt w base b o hs pb pc pg po) :
    Calls Try.prog 12 #[.slice base hs.length c] w fun e w' => ∃ bs cap g qb qc qg qo, e = .returned (.tuple #[.slice bs (lcd hs).length cap, .int .i64 (hErr hs)]) ∧ Below w.heap.size w w' ∧ CdsAt w' bs g 0 (lcd hs) qb qc qg qo ∧ ((lcd hs).length ≠ 0 → w.heap.size ≤ g) ∧ (∀ i, i < (lcd hs).length → (cdAt (lcd hs) i).rt.pairs.length ≠ 0 → w.heap.size ≤ qg i) := by
  refine (rCalls_any base b o c hs pb pc pg po w h).mono ?_
  rintro e w' ⟨v, rfl, hb, hz, hg⟩
  have hby : ∀ i, i < hs.length → (evAt hs i).rt.pairs.length * 16 ≤ 140737488355328 := fun i hi => (h.prs i hi).2.2
  unfold lcd
  by_cases he : hErr hs = 0
  · obtain ⟨l, hm, ho, hr⟩ := hg he
    have hll : l.length = (spansL hs).length := by rw [← hm, List.length_map]
    have hl : (toCd hs l).length = l.length := by unfold toCd; simp
    rw [if_pos he]
    by_cases hn : l.length = 0
    · obtain ⟨a, cap, e⟩ := owns_form ho
      have hnil : cdsOf hs (spansL hs) = [] := List.length_eq_zero_iff.1 (by rw [cdsOf_length]; omega)
      rw [hnil]
      exact ⟨a, cap, 0, fun _ => none, fun _ => 0, fun _ => 0, fun _ => 0, by rw [e, hn]; rfl, hb, ⟨fun q => absurd rfl q, fun q => absurd rfl q, by simp, fun i hi => by simp at hi, fun i hi => by simp at hi, fun i hi => by simp at hi, fun i hi => by simp at hi⟩, fun q => absurd rfl q, fun i hi => by simp at hi⟩
    · obtain ⟨g, cap, e, g1, g2, g3, _, hc, _⟩ := owns_some ho (by omega)
      obtain ⟨qb, qc, qg, qo, hC, hB⟩ := cds_of2 (w := w') (B := w.heap.size) (base := some ⟨g, 0, none⟩) (g := g) (toCd_map (hs := hs) hm) (fun _ => rfl) (fun _ => g2) (by rw [cdsOf_length]; omega) (fun k x hx i hi => by
          obtain ⟨y, hy, rfl⟩ := toCd_get hx
          have hk := (List.getElem?_eq_some_iff.1 hy).1
          rw [hc _ (by omega)]
          exact callsC_get hs l k i y hy hi) (fun x hx => by
          obtain ⟨y, hy, rfl⟩ := List.mem_map.1 hx
          by_cases q : y.1.2 = -1
          · have e1 := (hr y hy).1 q
            have e2 : (cdOf hs y.1).rt = RetD.zero := by show retOf hs y.1 = _; unfold retOf; rw [if_pos q]
            simp only [e2]
            exact ⟨none, 0, 0, e1, pairs_none _, fun _ => rfl, fun n => absurd rfl n⟩
          · obtain ⟨g', cap', e1, h1, _, _, h4⟩ := (hr y hy).2 q
            exact ⟨_, g', cap', e1, h4, (fun z => by cases z), fun _ => h1⟩) (bytes_of hby)
      exact ⟨_, cap, g, qb, qc, qg, qo, by rw [e, cdsOf_length, hll], hb, hC, fun _ => g1, hB⟩
  · rw [if_neg he]
    exact ⟨none, 0, 0, _, _, _, _, by rw [hz he]; rfl, hb, cds_none _, fun q => absurd rfl q, fun i hi => by simp at hi⟩
/-- The program's Events of a history's operations: the history, where it is one. -/
theorem back_new {hs : List EvD} (he : hErr hs = 0) (a1 : Option Addr) (b1 o1 c1 : Nat) (pb : Nat → Option Addr) (pc pg po : Nat → Nat) (w : World) (hx : CdsAt w a1 b1 o1 (lcd hs) pb pc pg po) :
    Calls Try.prog 10 #[.slice a1 (lcd hs).length c1] w fun e w' => ∃ bs cap g qb qc qg qo, e = .returned (.tuple #[.slice bs hs.length cap, .int .i64 0]) ∧ Below w.heap.size w w' ∧ EvsAt w' bs g 0 hs qb qc qg qo ∧ w.heap.size ≤ g ∧ ∀ i, i < hs.length → (evAt hs i).rt.pairs.length ≠ 0 → w.heap.size ≤ qg i := by
  have hl : lcd hs = cdsOf hs (spansL hs) := by unfold lcd; rw [if_pos he]
  have h1 := spans_short he
  refine (Events_any a1 b1 o1 c1 (lcd hs) pb pc pg po w hx).mono ?_
  rintro e w' ⟨v, err, rfl, hb, ha⟩
  obtain ⟨rfl, g, qb, qc, qg, qo, hg, rfl, hE, hB⟩ := ha.good (by rw [hl, cdsOf_length]; omega) (by rw [hl]; exact prog_back he)
  have hlay : layL (lcd hs) = hs := by rw [hl]; exact lay_back he
  rw [hlay] at hE hB ⊢
  exact ⟨_, _, g, qb, qc, qg, qo, rfl, hb, hE, hg, hB⟩
end Go.Proofs.Ytgbfippcnmpgfaa
