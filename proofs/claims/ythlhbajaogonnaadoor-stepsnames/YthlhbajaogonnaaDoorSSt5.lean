
/- Layer 18: a site's view: turned, below, weight, isInner; hasMirror, isMove. Layer 18: isMove, isOfKeys; a change's with. Layer 18: siteAt. Layer 18: a change's with and over. Layer 18: a change's hang. -/

import Derived.Test.YthlhbajaogonnaaDoorTRoot

import Derived.Deep.RegionHeld3

import Derived.Test.YthlhbajaogonnaaDoorTMir

import Derived.Deep.RegionHeld

namespace Go.Proofs.YthlhbajaogonnaaDoor

open Go.RowKit

attribute [local go_sem ↓] Go.wp_at_zero Go.wp_at_succ

/-- What a site's methods read of it. -/
structure StAt (w : World) (sb : Nat) (base : Option Addr) (b o c : Nat) (t : NL) (mi : Bool) : Prop where
  tab : w.cell? ⟨sb, 0, none⟩ = some (.slice base t.length c)
  mir : w.cell? ⟨sb, 2, none⟩ = some (.bool mi)
  lt : sb < w.heap.size
  nodes : NodesAt w base b o t
theorem StAt.below {w x : World} {sb b o c : Nat} {base : Option Addr} {t : NL} {mi : Bool} (h : StAt w sb base b o c t mi) (hb : Below w.heap.size w x) : StAt x sb base b o c t mi :=
  ⟨(hb.cell (p := ⟨sb, 0, none⟩) h.lt).trans h.tab, (hb.cell (p := ⟨sb, 2, none⟩) h.lt).trans h.mir, Nat.lt_of_lt_of_le h.lt hb.size, h.nodes.below hb⟩
set_option maxRecDepth 100000 in
theorem turned_any (sb : Nat) (mi : Bool) (l r : Int) (w : World) (h : w.cell? ⟨sb, 2, none⟩ = some (.bool mi)) :
    Calls Tryd.prog 40 #[.pointer (some ⟨sb, 0, none⟩), .int .i64 l, .int .i64 r] w fun e w' => e = .returned (.tuple #[.int .i64 (if mi then r else l), .int .i64 (if mi then l else r)]) ∧ Below w.heap.size w w' := by
  cases mi
  · go_enter Tryd.func40, Tryd.ntmps40
    go_wp2_with fail
    go_ret2
    exact ⟨rfl, Below.refl _ _⟩
  · go_enter Tryd.func40, Tryd.ntmps40
    go_wp2_with fail
    go_ret2
    exact ⟨rfl, Below.refl _ _⟩
/-- The children of a place, as the site sees them; -1: there is none. -/
def belL (t : NL) (mi : Bool) (p : Int) : Int := if p = -1 then -1 else if mi then (ndAt t p.toNat).r else (ndAt t p.toNat).l
def belR (t : NL) (mi : Bool) (p : Int) : Int := if p = -1 then -1 else if mi then (ndAt t p.toNat).l else (ndAt t p.toNat).r
def wtP (t : NL) (p : Int) : Int := if p = -1 then -1 else (ndAt t p.toNat).wt
set_option maxRecDepth 100000 in
set_option maxHeartbeats 1000000 in
theorem sbelow_any (sb : Nat) (base : Option Addr) (b o c : Nat) (t : NL) (mi : Bool) (p : Int) (w : World) (h : StAt w sb base b o c t mi) (hp : p = -1 ∨ 0 ≤ p ∧ p < t.length) :
    Calls Tryd.prog 32 #[.pointer (some ⟨sb, 0, none⟩), .int .i64 p] w fun e w' => e = .returned (.tuple #[.int .i64 (belL t mi p), .int .i64 (belR t mi p)]) ∧ Below w.heap.size w w' := by
  by_cases hq : p = -1
  · have F : Hid (belL t mi p = -1 ∧ belR t mi p = -1) := by show _ ∧ _; unfold belL belR; rw [if_pos hq, if_pos hq]; exact ⟨rfl, rfl⟩
    subst hq
    go_enter Tryd.func32, Tryd.ntmps32
    go_wp2_with fail
    go_ret2
    exact ⟨by rw [F.out.1, F.out.2]; rfl, Below.refl _ _⟩
  · obtain ⟨n, rfl⟩ : ∃ n : Nat, p = (n : Int) := ⟨p.toNat, by omega⟩
    have hn : n < t.length := by omega
    have F : Hid (belL t mi (n : Int) = (if mi then (ndAt t n).r else (ndAt t n).l) ∧ belR t mi (n : Int) = (if mi then (ndAt t n).l else (ndAt t n).r)) := by show _ ∧ _; unfold belL belR; rw [if_neg hq, if_neg hq, Int.toNat_natCast]; exact ⟨rfl, rfl⟩
    obtain rfl : base = some ⟨b, o, none⟩ := h.nodes.base (by omega)
    have hb := h.nodes.lt (by omega)
    obtain ⟨-, -, -, -, c4, c5⟩ := h.nodes.cells n hn
    have z0 := h.tab
    have z2 := h.mir
    have zl := h.lt
    have HB0 : Hid (Below w.heap.size w w.drew) := (Below.refl _ _).drew
    have HST : Hid (StAt w sb (some ⟨b, o, none⟩) b o c t mi) := h
    have HCC : Hid (∀ z, Below w.heap.size w z → z.cell? ⟨sb, 0, none⟩ = some (.slice (some ⟨b, o, none⟩) t.length c) ∧ z.cell? ⟨b, o + n * 6 + 4, none⟩ = some (.int .i64 (ndAt t n).l) ∧ z.cell? ⟨b, o + n * 6 + 5, none⟩ = some (.int .i64 (ndAt t n).r)) := fun z hz => ⟨(hz.cell (p := ⟨sb, 0, none⟩) h.lt).trans h.tab, (hz.cell (p := ⟨b, o + n * 6 + 4, none⟩) hb).trans c4, (hz.cell (p := ⟨b, o + n * 6 + 5, none⟩) hb).trans c5⟩
    have n0 : (0 : Int) ≤ (n : Int) := Int.natCast_nonneg _
    have n1 : (n : Int) < (t.length : Int) := by omega
    have dq : ((n : Int) == -1) = false := by rw [beq_eq_false_iff_ne]; omega
    clear h hp hq
    generalize (ndAt t n).l = k4 at *
    generalize (ndAt t n).r = k5 at *
    have TU : Hid (∀ W, W.cell? ⟨sb, 2, none⟩ = some (.bool mi) → Calls Tryd.prog 40 #[.pointer (some ⟨sb, 0, none⟩), .int .i64 k4, .int .i64 k5] W fun e w' => e = .returned (.tuple #[.int .i64 (if mi then k5 else k4), .int .i64 (if mi then k4 else k5)]) ∧ Below W.heap.size W w') := fun W hW => turned_any sb mi k4 k5 W hW
    generalize (if mi then k5 else k4) = x at *
    generalize (if mi then k4 else k5) = y at *
    go_enter Tryd.func32, Tryd.ntmps32
    go_wp2_with fail
    go_region_held3 (fun w' => w'.cell? ⟨sb, 0, none⟩ = some (.slice (some ⟨b, o, none⟩) t.length c) ∧ w'.cell? ⟨b, o + n * 6 + 4, none⟩ = some (.int .i64 k4) ∧ w'.cell? ⟨b, o + n * 6 + 5, none⟩ = some (.int .i64 k5))
      (first | (with_reducible exact X1.out) | go_keep)
      (first | (go_at_call 40; refine (TU.out _ (HST.out.below HB0.out).mir).mono ?_; rintro e w1 ⟨rfl, hb1⟩; have B1 : Hid (Below w.heap.size w w1) := HB0.out.trans (hb1.mono HB0.out.size); have X1 : Hid _ := HCC.out _ B1.out; clear hb1))
    go_wp2_with fail
    go_ret2
    exact ⟨by rw [F.out.1, F.out.2]; rfl, B1.out⟩
set_option maxRecDepth 100000 in
theorem weight_any (sb : Nat) (base : Option Addr) (b o c : Nat) (t : NL) (mi : Bool) (p : Int) (w : World) (h : StAt w sb base b o c t mi) (hp : p = -1 ∨ 0 ≤ p ∧ p < t.length) :
    Calls Tryd.prog 29 #[.pointer (some ⟨sb, 0, none⟩), .int .i64 p] w fun e w' => e = .returned (.int .i64 (wtP t p)) ∧ Below w.heap.size w w' := by
  by_cases hq : p = -1
  · have F : Hid (wtP t p = -1) := by show _ = _; unfold wtP; rw [if_pos hq]
    subst hq
    go_enter Tryd.func29, Tryd.ntmps29
    go_wp2_with fail
    go_ret
    exact ⟨by rw [F.out]; rfl, Below.refl _ _⟩
  · obtain ⟨n, rfl⟩ : ∃ n : Nat, p = (n : Int) := ⟨p.toNat, by omega⟩
    have hn : n < t.length := by omega
    have F : Hid (wtP t (n : Int) = (ndAt t n).wt) := by show _ = _; unfold wtP; rw [if_neg hq, Int.toNat_natCast]
    obtain rfl : base = some ⟨b, o, none⟩ := h.nodes.base (by omega)
    have hb := h.nodes.lt (by omega)
    obtain ⟨-, -, c2, -, -, -⟩ := h.nodes.cells n hn
    have z0 := h.tab
    have zl := h.lt
    have n0 : (0 : Int) ≤ (n : Int) := Int.natCast_nonneg _
    have n1 : (n : Int) < (t.length : Int) := by omega
    have dq : ((n : Int) == -1) = false := by rw [beq_eq_false_iff_ne]; omega
    clear h hp hq
    generalize (ndAt t n).wt = k2 at *
    go_enter Tryd.func29, Tryd.ntmps29
    go_wp2_with fail
    go_ret
    exact ⟨by rw [F.out]; rfl, Below.refl _ _⟩
set_option maxRecDepth 100000 in
theorem isInner_any (sb : Nat) (base : Option Addr) (b o c : Nat) (t : NL) (mi : Bool) (p : Int) (w : World) (h : StAt w sb base b o c t mi) (hp : p = -1 ∨ 0 ≤ p ∧ p < t.length) :
    Calls Tryd.prog 39 #[.pointer (some ⟨sb, 0, none⟩), .int .i64 p] w fun e w' => e = .returned (.bool (belL t mi p != -1)) ∧ Below w.heap.size w w' := by
  have HC : Hid (Calls _ _ _ _ _) := sbelow_any sb base b o c t mi p w h hp
  clear h hp
  generalize belL t mi p = x at *
  generalize belR t mi p = y at *
  go_enter Tryd.func39, Tryd.ntmps39
  go_wp2_with fail
  refine HC.out.mono ?_
  rintro e w1 ⟨rfl, hb1⟩
  have B1 : Hid (Below w.heap.size w w1) := hb1
  clear hb1
  go_wp2_with fail
  go_ret
  exact ⟨rfl, B1.out⟩
def hasM (k : Int) : Bool := k != 1 && (k != 11 && k != 12)
set_option maxRecDepth 100000 in
theorem hasMirror_any (k : Int) (w : World) : Calls Tryd.prog 21 #[.int .i64 k] w fun e w' => e = .returned (.bool (hasM k)) ∧ Below w.heap.size w w' := by
  have HF : Hid (hasM k = (k != 1 && (k != 11 && k != 12))) := rfl
  cases h1 : (k != 1)
  · rw [h1] at HF
    go_enter Tryd.func21, Tryd.ntmps21
    go_wp2_with fail
    go_ret
    exact ⟨by rw [HF.out]; rfl, Below.refl _ _⟩
  · cases h2 : (k != 11)
    · rw [h1, h2] at HF
      go_enter Tryd.func21, Tryd.ntmps21
      go_wp2_with fail
      go_ret
      exact ⟨by rw [HF.out]; rfl, Below.refl _ _⟩
    · rw [h1, h2] at HF
      go_enter Tryd.func21, Tryd.ntmps21
      go_wp2_with fail
      go_ret
      exact ⟨by rw [HF.out]; rfl, Below.refl _ _⟩
end Go.Proofs.YthlhbajaogonnaaDoor

namespace Go.Proofs.YthlhbajaogonnaaDoor

open Go.RowKit

attribute [local go_sem ↓] Go.wp_at_zero Go.wp_at_succ

def mvB (k : Int) (mi : Bool) : Bool := decide (1 ≤ k) && (decide (k ≤ 12) && (!mi || hasM k))
set_option maxRecDepth 100000 in
set_option maxHeartbeats 1000000 in
theorem isMove_any (k : Int) (mi : Bool) (w : World) : Calls Tryd.prog 20 #[.agg #[.int .i64 k, .bool mi]] w fun e w' => e = .returned (.bool (mvB k mi)) ∧ Below w.heap.size w w' := by
  have HF : Hid (mvB k mi = (decide (1 ≤ k) && (decide (k ≤ 12) && (!mi || hasM k)))) := rfl
  have HH : Hid (∀ W, Calls Tryd.prog 21 #[.int .i64 k] W fun e w' => e = .returned (.bool (hasM k)) ∧ Below W.heap.size W w') := fun W => hasMirror_any k W
  have B0 : Hid (Below w.heap.size w (w.alloc (.cells #[.int .i64 k, .bool mi] 32))) := below_alloc _ _
  generalize hasM k = hm at *
  cases h1 : decide (1 ≤ k)
  · rw [h1] at HF
    go_enter Tryd.func20, Tryd.ntmps20
    go_wp2_with fail
    go_ret
    exact ⟨by rw [HF.out]; rfl, B0.out⟩
  · cases h2 : decide (k ≤ 12)
    · rw [h1, h2] at HF
      go_enter Tryd.func20, Tryd.ntmps20
      go_wp2_with fail
      go_ret
      exact ⟨by rw [HF.out]; rfl, B0.out⟩
    · rw [h1, h2] at HF
      cases mi
      · go_enter Tryd.func20, Tryd.ntmps20
        go_wp2_with fail
        go_ret
        exact ⟨by rw [HF.out]; rfl, B0.out⟩
      · go_enter Tryd.func20, Tryd.ntmps20
        go_wp2_with (first | (go_at_call 21; refine (HH.out _).mono ?_; rintro e w1 ⟨rfl, hb1⟩; have B1 : Hid (Below w.heap.size w w1) := B0.out.trans (hb1.mono B0.out.size); clear hb1))
        go_ret
        exact ⟨by rw [HF.out]; rfl, B1.out⟩
/-- Is it a place, and none of the crown's? -/
def ofK (t : NL) (p : Int) : Bool := decide (0 < p) && (decide (p < t.length) && (p != (ndAt t 0).r && (p != (ndAt t 0).l && p != (ndAt t (ndAt t 0).l.toNat).r)))
set_option maxRecDepth 100000 in
set_option maxHeartbeats 1000000 in
theorem isOfKeys_any (base : Option Addr) (b o c : Nat) (t : NL) (p : Int) (w : World) (h : NodesAt w base b o t) (hpos : 0 < t.length) (hl : 0 ≤ (ndAt t 0).l ∧ (ndAt t 0).l < t.length) :
    Calls Tryd.prog 37 #[.slice base t.length c, .int .i64 p] w fun e w' => e = .returned (.bool (ofK t p)) ∧ Below w.heap.size w w' := by
  obtain rfl : base = some ⟨b, o, none⟩ := h.base (by omega)
  have hb := h.lt (by omega)
  obtain ⟨l, hl'⟩ : ∃ l : Nat, (ndAt t 0).l = (l : Int) := ⟨(ndAt t 0).l.toNat, by omega⟩
  have hll : l < t.length := by omega
  obtain ⟨-, -, -, -, c4, c5⟩ := h.cells 0 hpos
  obtain ⟨-, -, -, -, -, d5⟩ := h.cells l hll
  have HF : Hid (ofK t p = (decide (0 < p) && (decide (p < t.length) && (p != (ndAt t 0).r && (p != (l : Int) && p != (ndAt t l).r))))) := by show _ = _; unfold ofK; rw [hl', Int.toNat_natCast]
  rw [hl'] at c4
  simp only [Nat.zero_mul, Nat.add_zero] at c4 c5
  have p0 : (0 : Int) < (t.length : Int) := by omega
  have l0 : (0 : Int) ≤ (l : Int) := Int.natCast_nonneg _
  have l1 : (l : Int) < (t.length : Int) := by omega
  clear h hl hl'
  generalize (ndAt t 0).r = r at *
  generalize (ndAt t l).r = s at *
  cases h1 : decide (0 < p)
  · rw [h1] at HF
    go_enter Tryd.func37, Tryd.ntmps37
    go_wp2_with fail
    go_ret
    exact ⟨by rw [HF.out]; rfl, Below.refl _ _⟩
  · cases h2 : decide (p < t.length)
    · rw [h1, h2] at HF
      go_enter Tryd.func37, Tryd.ntmps37
      go_wp2_with fail
      go_ret
      exact ⟨by rw [HF.out]; rfl, Below.refl _ _⟩
    · cases h3 : (p != r)
      · rw [h1, h2, h3] at HF
        go_enter Tryd.func37, Tryd.ntmps37
        go_wp2_with fail
        go_ret
        exact ⟨by rw [HF.out]; rfl, Below.refl _ _⟩
      · cases h4 : (p != (l : Int))
        · rw [h1, h2, h3, h4] at HF
          go_enter Tryd.func37, Tryd.ntmps37
          go_wp2_with fail
          go_ret
          exact ⟨by rw [HF.out]; rfl, Below.refl _ _⟩
        · rw [h1, h2, h3, h4] at HF
          go_enter Tryd.func37, Tryd.ntmps37
          go_wp2_with fail
          go_ret
          exact ⟨by rw [HF.out]; rfl, Below.refl _ _⟩
end Go.Proofs.YthlhbajaogonnaaDoor

namespace Go.Proofs.YthlhbajaogonnaaDoor

open Go.RowKit

attribute [local go_sem ↓] Go.wp_at_zero Go.wp_at_succ

def plOk (t : NL) (p : Int) : Prop := p = -1 ∨ 0 ≤ p ∧ p < t.length
theorem bel_ok {t : NL} (hf : InForm t) (mi : Bool) {p : Int} (hp : plOk t p) : plOk t (belL t mi p) ∧ plOk t (belR t mi p) := by
  unfold belL belR
  by_cases q : p = -1
  · rw [if_pos q, if_pos q]; exact ⟨Or.inl rfl, Or.inl rfl⟩
  · rw [if_neg q, if_neg q]
    rcases hp with h | ⟨h1, h2⟩
    · exact absurd h q
    · have hn := (hf.good.node p.toNat (by omega)).1
      cases mi <;> simp only [plOk, if_true, Bool.false_eq_true, if_false] <;> omega
theorem results_cell1 {fn : Func} {p : Tmp} {ty : TypeId} (h : fn.results = #[.cell p ty]) (tmps : Array Value) (P : Program) (w : World) :
    (results fn tmps).run P w = ((asAddr (tmps.getD p undef)).run P w).andThen fun a w₁ => (loadVar ty a).run P w₁ := by
  simp only [results, h]
  simp [Sem.run_bind, Result.andThen]
theorem heap_set {z : World} {k i : Nat} {cs : Array Value} {T : TypeId} (h : z.heap[k]? = some (.cells cs T (0, 0))) (v : Value) : (z.setCell ⟨k, i, none⟩ v).heap[k]? = some (.cells (cs.setIfInBounds i v) T (0, 0)) := by
  simp [World.setCell, Array.getElem?_modify, h]
theorem heap_off {z : World} {k j i : Nat} {ob : Obj} (h : z.heap[k]? = some ob) (v : Value) (hne : j ≠ k) : (z.setCell ⟨j, i, none⟩ v).heap[k]? = some ob := by
  rw [Below.heap_setCell _ _ _ _ (by simpa using Ne.symm hne)]; exact h
theorem cell_of {z : World} {k : Nat} {cs : Array Value} {T : TypeId} (h : z.heap[k]? = some (.cells cs T (0, 0))) (i : Nat) (v : Value) (hv : cs[i]? = some v) : z.cell? ⟨k, i, none⟩ = some v ∧ z.frozen? ⟨k, i, none⟩ = false := by
  simp [World.cell?, World.frozen?, h, hv]
/-- A site in its box, and the box of the answer. -/
structure S12 (w z : World) (T : Value) (root : Int) (mi : Bool) (x v4 v5 v6 v7 v8 v9 v10 v11 : Int) : Prop where
  box : z.heap[w.heap.size + 1]? = some (.cells #[T, .int .i64 root, .bool mi, .int .i64 x, .int .i64 v4, .int .i64 v5, .int .i64 v6, .int .i64 v7, .int .i64 v8, .int .i64 v9, .int .i64 v10, .int .i64 v11] 59 (0, 0))
  res : z.heap[w.heap.size]? = some (.cells #[.slice none 0 0, .int .i64 0, .bool false, .int .i64 0, .int .i64 0, .int .i64 0, .int .i64 0, .int .i64 0, .int .i64 0, .int .i64 0, .int .i64 0, .int .i64 0] 59 (0, 0))
  below : Below w.heap.size w z
theorem S12.quiet {w z y : World} {T : Value} {root : Int} {mi : Bool} {x v4 v5 v6 v7 v8 v9 v10 v11 : Int} (h : S12 w z T root mi x v4 v5 v6 v7 v8 v9 v10 v11) (hb : Below z.heap.size z y) : S12 w y T root mi x v4 v5 v6 v7 v8 v9 v10 v11 :=
  ⟨(hb.block _ (Array.getElem?_eq_some_iff.1 h.box).1).trans h.box, (hb.block _ (Array.getElem?_eq_some_iff.1 h.res).1).trans h.res, h.below.trans (hb.mono h.below.size)⟩
theorem S12.lt {w z : World} {T : Value} {root : Int} {mi : Bool} {x v4 v5 v6 v7 v8 v9 v10 v11 : Int} (h : S12 w z T root mi x v4 v5 v6 v7 v8 v9 v10 v11) : w.heap.size + 1 < z.heap.size := (Array.getElem?_eq_some_iff.1 h.box).1
theorem S12.st {w z : World} {base : Option Addr} {b o c : Nat} {t : NL} {root : Int} {mi : Bool} {x v4 v5 v6 v7 v8 v9 v10 v11 : Int} (h : S12 w z (.slice base t.length c) root mi x v4 v5 v6 v7 v8 v9 v10 v11) (hn : NodesAt w base b o t) : StAt z (w.heap.size + 1) base b o c t mi :=
  ⟨(cell_of h.box 0 _ rfl).1, (cell_of h.box 2 _ rfl).1, h.lt, hn.below h.below⟩
theorem S12.set4 {w z : World} {T : Value} {root : Int} {mi : Bool} {x v4 v5 v6 v7 v8 v9 v10 v11 : Int} (h : S12 w z T root mi x v4 v5 v6 v7 v8 v9 v10 v11) (a : Int) : S12 w (z.setCell ⟨w.heap.size + 1, 4, none⟩ (.int .i64 a)) T root mi x a v5 v6 v7 v8 v9 v10 v11 :=
  ⟨heap_set h.box _, heap_off h.res _ (by omega), h.below.setCell (by simp) _⟩
theorem S12.set5 {w z : World} {T : Value} {root : Int} {mi : Bool} {x v4 v5 v6 v7 v8 v9 v10 v11 : Int} (h : S12 w z T root mi x v4 v5 v6 v7 v8 v9 v10 v11) (a : Int) : S12 w (z.setCell ⟨w.heap.size + 1, 5, none⟩ (.int .i64 a)) T root mi x v4 a v6 v7 v8 v9 v10 v11 :=
  ⟨heap_set h.box _, heap_off h.res _ (by omega), h.below.setCell (by simp) _⟩
theorem S12.set6 {w z : World} {T : Value} {root : Int} {mi : Bool} {x v4 v5 v6 v7 v8 v9 v10 v11 : Int} (h : S12 w z T root mi x v4 v5 v6 v7 v8 v9 v10 v11) (a : Int) : S12 w (z.setCell ⟨w.heap.size + 1, 6, none⟩ (.int .i64 a)) T root mi x v4 v5 a v7 v8 v9 v10 v11 :=
  ⟨heap_set h.box _, heap_off h.res _ (by omega), h.below.setCell (by simp) _⟩
theorem S12.set7 {w z : World} {T : Value} {root : Int} {mi : Bool} {x v4 v5 v6 v7 v8 v9 v10 v11 : Int} (h : S12 w z T root mi x v4 v5 v6 v7 v8 v9 v10 v11) (a : Int) : S12 w (z.setCell ⟨w.heap.size + 1, 7, none⟩ (.int .i64 a)) T root mi x v4 v5 v6 a v8 v9 v10 v11 :=
  ⟨heap_set h.box _, heap_off h.res _ (by omega), h.below.setCell (by simp) _⟩
theorem S12.set8 {w z : World} {T : Value} {root : Int} {mi : Bool} {x v4 v5 v6 v7 v8 v9 v10 v11 : Int} (h : S12 w z T root mi x v4 v5 v6 v7 v8 v9 v10 v11) (a : Int) : S12 w (z.setCell ⟨w.heap.size + 1, 8, none⟩ (.int .i64 a)) T root mi x v4 v5 v6 v7 a v9 v10 v11 :=
  ⟨heap_set h.box _, heap_off h.res _ (by omega), h.below.setCell (by simp) _⟩
theorem S12.set9 {w z : World} {T : Value} {root : Int} {mi : Bool} {x v4 v5 v6 v7 v8 v9 v10 v11 : Int} (h : S12 w z T root mi x v4 v5 v6 v7 v8 v9 v10 v11) (a : Int) : S12 w (z.setCell ⟨w.heap.size + 1, 9, none⟩ (.int .i64 a)) T root mi x v4 v5 v6 v7 v8 a v10 v11 :=
  ⟨heap_set h.box _, heap_off h.res _ (by omega), h.below.setCell (by simp) _⟩
theorem S12.set10 {w z : World} {T : Value} {root : Int} {mi : Bool} {x v4 v5 v6 v7 v8 v9 v10 v11 : Int} (h : S12 w z T root mi x v4 v5 v6 v7 v8 v9 v10 v11) (a : Int) : S12 w (z.setCell ⟨w.heap.size + 1, 10, none⟩ (.int .i64 a)) T root mi x v4 v5 v6 v7 v8 v9 a v11 :=
  ⟨heap_set h.box _, heap_off h.res _ (by omega), h.below.setCell (by simp) _⟩
theorem S12.set11 {w z : World} {T : Value} {root : Int} {mi : Bool} {x v4 v5 v6 v7 v8 v9 v10 v11 : Int} (h : S12 w z T root mi x v4 v5 v6 v7 v8 v9 v10 v11) (a : Int) : S12 w (z.setCell ⟨w.heap.size + 1, 11, none⟩ (.int .i64 a)) T root mi x v4 v5 v6 v7 v8 v9 v10 a :=
  ⟨heap_set h.box _, heap_off h.res _ (by omega), h.below.setCell (by simp) _⟩
set_option maxRecDepth 100000 in
set_option maxHeartbeats 2000000 in
theorem siteAt_any (base : Option Addr) (b o c : Nat) (t : NL) (root x : Int) (mi : Bool) (w : World) (h : NodesAt w base b o t) (hf : InForm t) (hx : plOk t x) :
    Calls Tryd.prog 38 #[.slice base t.length c, .int .i64 root, .int .i64 x, .bool mi] w fun e w' => e = .returned (.agg #[.slice base t.length c, .int .i64 root, .bool mi, .int .i64 x, .int .i64 (belL t mi x), .int .i64 (belR t mi x), .int .i64 (belL t mi (belL t mi x)), .int .i64 (belR t mi (belL t mi x)), .int .i64 (belL t mi (belR t mi x)), .int .i64 (belR t mi (belR t mi x)), .int .i64 (belL t mi (belL t mi (belR t mi x))), .int .i64 (belR t mi (belL t mi (belR t mi x)))]) ∧ Below w.heap.size w w' := by
  obtain ⟨o1, o2⟩ := bel_ok hf mi hx
  obtain ⟨o3, o4⟩ := bel_ok hf mi o1
  obtain ⟨o5, o6⟩ := bel_ok hf mi o2
  have HA : Hid (NodesAt _ _ _ _ _) := h
  have BE : Hid (∀ (W : World) (sb : Nat) (p : Int), StAt W sb base b o c t mi → plOk t p → Calls Tryd.prog 32 #[.pointer (some ⟨sb, 0, none⟩), .int .i64 p] W fun e w' => e = .returned (.tuple #[.int .i64 (belL t mi p), .int .i64 (belR t mi p)]) ∧ Below W.heap.size W w') := fun W sb p h1 h2 => sbelow_any sb base b o c t mi p W h1 h2
  clear h hf
  go_enter Tryd.func38, Tryd.ntmps38
  go_wp2_with fail
  generalize hW0 : (w.alloc (.cells #[.slice none 0 0, .int .i64 0, .bool false, .int .i64 0, .int .i64 0, .int .i64 0, .int .i64 0, .int .i64 0, .int .i64 0, .int .i64 0, .int .i64 0, .int .i64 0] 59)).alloc (.cells #[.slice base t.length c, .int .i64 root, .bool mi, .int .i64 x, .int .i64 0, .int .i64 0, .int .i64 0, .int .i64 0, .int .i64 0, .int .i64 0, .int .i64 0, .int .i64 0] 59) = W0
  have S0 : Hid (S12 w W0 (.slice base t.length c) root mi x 0 0 0 0 0 0 0 0) := by
    rw [← hW0]
    exact ⟨heap_alloc_at _ _ _ (by simp), (heap_alloc_old _ _ (by simp)).trans (heap_alloc_at _ _ _ rfl), (below_alloc _ _).alloc (below_alloc _ _).size _⟩
  clear hW0
  refine (BE.out _ _ x (S0.out.st HA.out) hx).mono ?_
  rintro e w1 ⟨rfl, hb⟩
  have A1 : Hid (S12 w w1 (.slice base t.length c) root mi x 0 0 0 0 0 0 0 0) := S0.out.quiet hb
  have lt1 := A1.out.lt
  obtain ⟨p4, f4⟩ := cell_of A1.out.box 4 _ rfl
  obtain ⟨p5, f5⟩ := cell_of A1.out.box 5 _ rfl
  have S1 : Hid (S12 w ((w1.setCell ⟨w.heap.size + 1, 4, none⟩ (.int .i64 (belL t mi x))).setCell ⟨w.heap.size + 1, 5, none⟩ (.int .i64 (belR t mi x))) (.slice base t.length c) root mi x (belL t mi x) (belR t mi x) 0 0 0 0 0 0) := (A1.out.set4 (belL t mi x)).set5 (belR t mi x)
  clear hb S0
  go_wp2_with fail
  clear p4 f4 p5 f5 lt1 A1
  generalize (w1.setCell ⟨w.heap.size + 1, 4, none⟩ (.int .i64 (belL t mi x))).setCell ⟨w.heap.size + 1, 5, none⟩ (.int .i64 (belR t mi x)) = V1 at *
  refine (BE.out _ _ (belL t mi x) (S1.out.st HA.out) o1).mono ?_
  rintro e w2 ⟨rfl, hb⟩
  have A2 : Hid (S12 w w2 (.slice base t.length c) root mi x (belL t mi x) (belR t mi x) 0 0 0 0 0 0) := S1.out.quiet hb
  have lt2 := A2.out.lt
  obtain ⟨p6, f6⟩ := cell_of A2.out.box 6 _ rfl
  obtain ⟨p7, f7⟩ := cell_of A2.out.box 7 _ rfl
  obtain ⟨p5, -⟩ := cell_of A2.out.box 5 _ rfl
  have S2 : Hid (S12 w ((w2.setCell ⟨w.heap.size + 1, 6, none⟩ (.int .i64 (belL t mi (belL t mi x)))).setCell ⟨w.heap.size + 1, 7, none⟩ (.int .i64 (belR t mi (belL t mi x)))) (.slice base t.length c) root mi x (belL t mi x) (belR t mi x) (belL t mi (belL t mi x)) (belR t mi (belL t mi x)) 0 0 0 0) := (A2.out.set6 (belL t mi (belL t mi x))).set7 (belR t mi (belL t mi x))
  clear hb S1
  go_wp2_with fail
  clear p6 f6 p7 f7 lt2 A2 p5
  generalize (w2.setCell ⟨w.heap.size + 1, 6, none⟩ (.int .i64 (belL t mi (belL t mi x)))).setCell ⟨w.heap.size + 1, 7, none⟩ (.int .i64 (belR t mi (belL t mi x))) = V2 at *
  refine (BE.out _ _ (belR t mi x) (S2.out.st HA.out) o2).mono ?_
  rintro e w3 ⟨rfl, hb⟩
  have A3 : Hid (S12 w w3 (.slice base t.length c) root mi x (belL t mi x) (belR t mi x) (belL t mi (belL t mi x)) (belR t mi (belL t mi x)) 0 0 0 0) := S2.out.quiet hb
  have lt3 := A3.out.lt
  obtain ⟨p8, f8⟩ := cell_of A3.out.box 8 _ rfl
  obtain ⟨p9, f9⟩ := cell_of A3.out.box 9 _ rfl
  have S3 : Hid (S12 w ((w3.setCell ⟨w.heap.size + 1, 8, none⟩ (.int .i64 (belL t mi (belR t mi x)))).setCell ⟨w.heap.size + 1, 9, none⟩ (.int .i64 (belR t mi (belR t mi x)))) (.slice base t.length c) root mi x (belL t mi x) (belR t mi x) (belL t mi (belL t mi x)) (belR t mi (belL t mi x)) (belL t mi (belR t mi x)) (belR t mi (belR t mi x)) 0 0) := (A3.out.set8 (belL t mi (belR t mi x))).set9 (belR t mi (belR t mi x))
  clear hb S2
  go_wp2_with fail
  clear p8 f8 p9 f9 lt3 A3
  generalize (w3.setCell ⟨w.heap.size + 1, 8, none⟩ (.int .i64 (belL t mi (belR t mi x)))).setCell ⟨w.heap.size + 1, 9, none⟩ (.int .i64 (belR t mi (belR t mi x))) = V3 at *
  refine (BE.out _ _ (belL t mi (belR t mi x)) (S3.out.st HA.out) o5).mono ?_
  rintro e w4 ⟨rfl, hb⟩
  have A4 : Hid (S12 w w4 (.slice base t.length c) root mi x (belL t mi x) (belR t mi x) (belL t mi (belL t mi x)) (belR t mi (belL t mi x)) (belL t mi (belR t mi x)) (belR t mi (belR t mi x)) 0 0) := S3.out.quiet hb
  have lt4 := A4.out.lt
  obtain ⟨p0, f0⟩ := cell_of A4.out.box 0 _ rfl
  obtain ⟨p1, f1⟩ := cell_of A4.out.box 1 _ rfl
  obtain ⟨p2, f2⟩ := cell_of A4.out.box 2 _ rfl
  obtain ⟨p3, f3⟩ := cell_of A4.out.box 3 _ rfl
  obtain ⟨p4, f4⟩ := cell_of A4.out.box 4 _ rfl
  obtain ⟨p5, f5⟩ := cell_of A4.out.box 5 _ rfl
  obtain ⟨p6, f6⟩ := cell_of A4.out.box 6 _ rfl
  obtain ⟨p7, f7⟩ := cell_of A4.out.box 7 _ rfl
  obtain ⟨p8, f8⟩ := cell_of A4.out.box 8 _ rfl
  obtain ⟨p9, f9⟩ := cell_of A4.out.box 9 _ rfl
  obtain ⟨p10, f10⟩ := cell_of A4.out.box 10 _ rfl
  obtain ⟨p11, f11⟩ := cell_of A4.out.box 11 _ rfl
  obtain ⟨r0, g0⟩ := cell_of A4.out.res 0 _ rfl
  obtain ⟨r1, g1⟩ := cell_of A4.out.res 1 _ rfl
  obtain ⟨r2, g2⟩ := cell_of A4.out.res 2 _ rfl
  obtain ⟨r3, g3⟩ := cell_of A4.out.res 3 _ rfl
  obtain ⟨r4, g4⟩ := cell_of A4.out.res 4 _ rfl
  obtain ⟨r5, g5⟩ := cell_of A4.out.res 5 _ rfl
  obtain ⟨r6, g6⟩ := cell_of A4.out.res 6 _ rfl
  obtain ⟨r7, g7⟩ := cell_of A4.out.res 7 _ rfl
  obtain ⟨r8, g8⟩ := cell_of A4.out.res 8 _ rfl
  obtain ⟨r9, g9⟩ := cell_of A4.out.res 9 _ rfl
  obtain ⟨r10, g10⟩ := cell_of A4.out.res 10 _ rfl
  obtain ⟨r11, g11⟩ := cell_of A4.out.res 11 _ rfl
  have lt4' : w.heap.size < w4.heap.size := by omega
  have ne1 : w.heap.size ≠ w.heap.size + 1 := by omega
  clear hb S3
  go_wp2_with fail
  (try simp only [Exit.inBlock, Exit.then])
  refine bodyPost_ret (v := .agg #[.slice base t.length c, .int .i64 root, .bool mi, .int .i64 x, .int .i64 (belL t mi x), .int .i64 (belR t mi x), .int .i64 (belL t mi (belL t mi x)), .int .i64 (belR t mi (belL t mi x)), .int .i64 (belL t mi (belR t mi x)), .int .i64 (belR t mi (belR t mi x)), .int .i64 (belL t mi (belL t mi (belR t mi x))), .int .i64 (belR t mi (belL t mi (belR t mi x)))]) ?_ rfl ⟨rfl, ?_⟩
  · rw [results_cell1 rfl]; go_simp
  · exact ((((((((((((((A4.out.below).setCell (Nat.le_succ _) _).setCell (Nat.le_succ _) _).setCell (Nat.le_refl _) _).setCell (Nat.le_refl _) _).setCell (Nat.le_refl _) _).setCell (Nat.le_refl _) _).setCell (Nat.le_refl _) _).setCell (Nat.le_refl _) _).setCell (Nat.le_refl _) _).setCell (Nat.le_refl _) _).setCell (Nat.le_refl _) _).setCell (Nat.le_refl _) _).setCell (Nat.le_refl _) _).setCell (Nat.le_refl _) _
end Go.Proofs.YthlhbajaogonnaaDoor

namespace Go.Proofs.YthlhbajaogonnaaDoor

open Go.RowKit

attribute [local go_sem ↓] Go.wp_at_zero Go.wp_at_succ

set_option maxRecDepth 100000 in
theorem with_any (cb g n cap p : Nat) (a q : Int) (w : World) (h : w.cell? ⟨cb, 12, none⟩ = some (.slice (some ⟨g, 0, none⟩) n cap)) (hp : p < n) (hc : w.cell? ⟨g, p * 6 + 2, none⟩ = some (.int .i64 q)) (hf : w.frozen? ⟨g, p * 6 + 2, none⟩ = false) :
    Calls Tryd.prog 31 #[.pointer (some ⟨cb, 0, none⟩), .int .i64 (p : Int), .int .i64 a] w fun e w' => e = .returned (.int .i64 (p : Int)) ∧ w' = w.setCell ⟨g, p * 6 + 2, none⟩ (.int .i64 a) := by
  have p0 : (0 : Int) ≤ (p : Int) := Int.natCast_nonneg _
  have p1 : (p : Int) < (n : Int) := by omega
  go_enter Tryd.func31, Tryd.ntmps31
  go_wp2_with fail
  go_ret
  exact ⟨rfl, rfl⟩
set_option maxRecDepth 100000 in
set_option maxHeartbeats 1000000 in
theorem over_any (cb g n cap p : Nat) (mi : Bool) (a l r q k4 k5 : Int) (w : World) (h : w.cell? ⟨cb, 12, none⟩ = some (.slice (some ⟨g, 0, none⟩) n cap)) (hm : w.cell? ⟨cb, 2, none⟩ = some (.bool mi)) (hgc : g ≠ cb) (hl : cb < w.heap.size) (hg : g < w.heap.size) (hp : p < n)
    (hc : w.cell? ⟨g, p * 6 + 2, none⟩ = some (.int .i64 q) ∧ w.frozen? ⟨g, p * 6 + 2, none⟩ = false) (hc4 : w.cell? ⟨g, p * 6 + 4, none⟩ = some (.int .i64 k4) ∧ w.frozen? ⟨g, p * 6 + 4, none⟩ = false) (hc5 : w.cell? ⟨g, p * 6 + 5, none⟩ = some (.int .i64 k5) ∧ w.frozen? ⟨g, p * 6 + 5, none⟩ = false) :
    Calls Tryd.prog 30 #[.pointer (some ⟨cb, 0, none⟩), .int .i64 (p : Int), .int .i64 a, .int .i64 l, .int .i64 r] w fun e w' => e = .returned (.int .i64 (p : Int)) ∧ ∃ z : World, Below w.heap.size w z ∧ w' = ((z.setCell ⟨g, p * 6 + 4, none⟩ (.int .i64 (if mi then r else l))).setCell ⟨g, p * 6 + 5, none⟩ (.int .i64 (if mi then l else r))).setCell ⟨g, p * 6 + 2, none⟩ (.int .i64 a) := by
  have p0 : (0 : Int) ≤ (p : Int) := Int.natCast_nonneg _
  have p1 : (p : Int) < (n : Int) := by omega
  obtain ⟨c2, f2⟩ := hc
  obtain ⟨c4, f4⟩ := hc4
  obtain ⟨c5, f5⟩ := hc5
  have TU : Hid (Calls Tryd.prog 40 #[.pointer (some ⟨cb, 0, none⟩), .int .i64 l, .int .i64 r] w fun e w' => e = .returned (.tuple #[.int .i64 (if mi then r else l), .int .i64 (if mi then l else r)]) ∧ Below w.heap.size w w') := turned_any cb mi l r w hm
  generalize (if mi then r else l) = x at *
  generalize (if mi then l else r) = y at *
  go_enter Tryd.func30, Tryd.ntmps30
  go_wp2_with fail
  refine TU.out.mono ?_
  rintro e z ⟨rfl, hb⟩
  have BZ : Hid (Below w.heap.size w z) := hb
  have z12 := (hb.cell (p := ⟨cb, 12, none⟩) hl).trans h
  have z2 := (hb.cell (p := ⟨g, p * 6 + 2, none⟩) hg).trans c2
  have z4 := (hb.cell (p := ⟨g, p * 6 + 4, none⟩) hg).trans c4
  have z5 := (hb.cell (p := ⟨g, p * 6 + 5, none⟩) hg).trans c5
  have y2 := (hb.frozen (p := ⟨g, p * 6 + 2, none⟩) hg).trans f2
  have y4 := (hb.frozen (p := ⟨g, p * 6 + 4, none⟩) hg).trans f4
  have y5 := (hb.frozen (p := ⟨g, p * 6 + 5, none⟩) hg).trans f5
  have HW : Hid (∀ Z : World, Z = (z.setCell ⟨g, p * 6 + 4, none⟩ (.int .i64 x)).setCell ⟨g, p * 6 + 5, none⟩ (.int .i64 y) → Calls Tryd.prog 31 #[.pointer (some ⟨cb, 0, none⟩), .int .i64 (p : Int), .int .i64 a] Z fun e w' => e = .returned (.int .i64 (p : Int)) ∧ w' = Z.setCell ⟨g, p * 6 + 2, none⟩ (.int .i64 a)) := fun Z hZ => by
    subst hZ
    refine with_any cb g n cap p a q _ ?_ hp ?_ (by simpa using y2)
    · rw [World.cell?_setCell_far _ _ _ _ hgc, World.cell?_setCell_far _ _ _ _ hgc]; exact z12
    · rw [World.cell?_setCell_other _ _ _ _ (fun q => by have := congrArg Addr.off q; simp at this), World.cell?_setCell_other _ _ _ _ (fun q => by have := congrArg Addr.off q; simp at this)]; exact z2
  clear hb c2 f2 c4 f4 c5 f5
  go_wp2_with (first | (go_at_call 31; refine (HW.out _ rfl).mono ?_; rintro e w2 ⟨rfl, rfl⟩))
  go_ret
  exact ⟨rfl, z, BZ.out, rfl⟩
set_option maxRecDepth 100000 in
set_option maxHeartbeats 1000000 in
theorem less_any (cb g n cap p : Nat) (base : Option Addr) (b o c : Nat) (t : NL) (mi : Bool) (q : Int) (w : World) (hs : StAt w cb base b o c t mi) (h : w.cell? ⟨cb, 12, none⟩ = some (.slice (some ⟨g, 0, none⟩) n cap)) (hg : g < w.heap.size) (hp : p < n) (hpt : p < t.length) (hwt : 0 ≤ (ndAt t p).wt ∧ (ndAt t p).wt ≤ 1000000)
    (hc : w.cell? ⟨g, p * 6 + 2, none⟩ = some (.int .i64 q) ∧ w.frozen? ⟨g, p * 6 + 2, none⟩ = false) :
    Calls Tryd.prog 33 #[.pointer (some ⟨cb, 0, none⟩), .int .i64 (p : Int)] w fun e w' => e = .returned (.int .i64 (p : Int)) ∧ ∃ z : World, Below w.heap.size w z ∧ w' = z.setCell ⟨g, p * 6 + 2, none⟩ (.int .i64 ((ndAt t p).wt - 1)) := by
  have WT : Hid (Calls _ _ _ _ _) := weight_any cb base b o c t mi (p : Int) w hs (Or.inr ⟨by omega, by omega⟩)
  have FW : Hid (wtP t (p : Int) = (ndAt t p).wt) := by show _ = _; unfold wtP; rw [if_neg (by omega), Int.toNat_natCast]
  have hl := hs.lt
  obtain ⟨c2, f2⟩ := hc
  rw [FW.out] at WT
  clear hs FW
  generalize (ndAt t p).wt = k2 at *
  have e1 : IntKind.i64.wrap (k2 - 1) = k2 - 1 := by rw [IntKind.wrap_i64] <;> omega
  go_enter Tryd.func33, Tryd.ntmps33
  go_wp2_with fail
  refine WT.out.mono ?_
  rintro e z ⟨rfl, hb⟩
  have BZ : Hid (Below w.heap.size w z) := hb
  have z12 := (hb.cell (p := ⟨cb, 12, none⟩) hl).trans h
  have z2 := (hb.cell (p := ⟨g, p * 6 + 2, none⟩) hg).trans c2
  have y2 := (hb.frozen (p := ⟨g, p * 6 + 2, none⟩) hg).trans f2
  have HW : Hid (Calls _ _ _ _ _) := with_any cb g n cap p (k2 - 1) q z z12 hp z2 y2
  clear hb
  go_wp2_with fail
  refine HW.out.mono ?_
  rintro e w2 ⟨rfl, rfl⟩
  go_wp2_with fail
  go_ret
  exact ⟨rfl, z, BZ.out, rfl⟩
end Go.Proofs.YthlhbajaogonnaaDoor

namespace Go.Proofs.YthlhbajaogonnaaDoor

open Go.RowKit

attribute [local go_sem ↓] Go.wp_at_zero Go.wp_at_succ

/-- Whoever led to x leads to top, among the first places. -/
def hangN (t : NL) (x top : Int) (T : NL) : Nat → NL
  | 0 => T
  | j + 1 => if (ndAt t j).l = x then setL (hangN t x top T j) j top else if (ndAt t j).r = x then setR (hangN t x top T j) j top else hangN t x top T j
theorem hangN_length (t : NL) (x top : Int) (T : NL) : ∀ j, (hangN t x top T j).length = T.length
  | 0 => rfl
  | j + 1 => by
    unfold hangN
    split
    · unfold setL; rw [List.length_set]; exact hangN_length t x top T j
    · split
      · unfold setR; rw [List.length_set]; exact hangN_length t x top T j
      · exact hangN_length t x top T j
/-- The copy's row, and all else as it was. -/
structure Hg (w0 X z : World) (g cap : Nat) (T : NL) : Prop where
  row : MAt w0 z g cap T
  size : X.heap.size ≤ z.heap.size
  rest : ∀ blk off, blk < X.heap.size → blk ≠ g → z.cell? ⟨blk, off, none⟩ = X.cell? ⟨blk, off, none⟩
theorem Hg.alloc {w0 X z : World} {g cap : Nat} {T : NL} (h : Hg w0 X z g cap T) (o : Obj) : Hg w0 X (z.alloc o) g cap T :=
  ⟨h.row.quiet (below_alloc _ _), by have := h.size; simp; omega, fun blk off h1 h2 => ((below_alloc z o).cell (p := ⟨blk, off, none⟩) (Nat.lt_of_lt_of_le h1 h.size)).trans (h.rest blk off h1 h2)⟩
theorem Hg.drew {w0 X z : World} {g cap : Nat} {T : NL} (h : Hg w0 X z g cap T) : Hg w0 X z.drew g cap T := ⟨h.row.drew, h.size, h.rest⟩
theorem Hg.setL {w0 X z : World} {g cap : Nat} {T : NL} (h : Hg w0 X z g cap T) (i : Nat) (a : Int) (hi : i < T.length) : Hg w0 X (z.setCell ⟨g, i * 6 + 4, none⟩ (.int .i64 a)) g cap (Go.Proofs.YthlhbajaogonnaaDoor.setL T i a) :=
  ⟨h.row.putL i a hi h.row.lt.1, by simpa using h.size, fun blk off h1 h2 => (World.cell?_setCell_far _ _ _ _ (Ne.symm h2)).trans (h.rest blk off h1 h2)⟩
theorem Hg.setR {w0 X z : World} {g cap : Nat} {T : NL} (h : Hg w0 X z g cap T) (i : Nat) (a : Int) (hi : i < T.length) : Hg w0 X (z.setCell ⟨g, i * 6 + 5, none⟩ (.int .i64 a)) g cap (Go.Proofs.YthlhbajaogonnaaDoor.setR T i a) :=
  ⟨h.row.putR i a hi h.row.lt.1, by simpa using h.size, fun blk off h1 h2 => (World.cell?_setCell_far _ _ _ _ (Ne.symm h2)).trans (h.rest blk off h1 h2)⟩
theorem Hg.drewN {w0 X z : World} {g cap : Nat} {T : NL} (h : Hg w0 X z g cap T) (n : Nat) : Hg w0 X (z.drewN n) g cap T := ⟨⟨h.row.own, below_drewN h.row.below _⟩, h.size, h.rest⟩
set_option maxRecDepth 100000 in
set_option maxHeartbeats 2000000 in
theorem hang_any (cb g cap : Nat) (b o c : Nat) (base : Option Addr) (t T : NL) (x top : Int) (w0 w : World) (h0 : w.cell? ⟨cb, 0, none⟩ = some (.slice base t.length c)) (h3 : w.cell? ⟨cb, 3, none⟩ = some (.int .i64 x)) (h12 : w.cell? ⟨cb, 12, none⟩ = some (.slice (some ⟨g, 0, none⟩) t.length cap)) (hl : cb < w.heap.size) (hgc : cb ≠ g) (hn : NodesAt w base b o t) (hgb : b ≠ g) (hT : T.length = t.length) (hbig : t.length ≤ 100000) (hM : MAt w0 w g cap T) :
    Calls Tryd.prog 25 #[.pointer (some ⟨cb, 0, none⟩), .int .i64 top] w fun e w' => e = .returned (.tuple #[]) ∧ Hg w0 w w' g cap (hangN t x top T t.length) := by
  have HN : Hid (NodesAt w base b o t) := hn
  have H0 : Hid (Hg w0 w w g cap T) := ⟨hM, Nat.le_refl _, fun _ _ _ _ => rfl⟩
  have HT : Hid (T.length = t.length) := hT
  clear hn hM hT
  go_enter Tryd.func25, Tryd.ntmps25
  go_wp2_with fail
  go_loopw [12] (fun i wr => ∃ j : Nat, j ≤ t.length ∧ i = .int .i64 j ∧ Hg w0 w wr g cap (hangN t x top T j)) (fun i _ => t.length - (intOf i).toNat)
  case atStart => exact ⟨0, Nat.zero_le _, rfl, H0.out⟩
  case round =>
    obtain ⟨j, hj, rfl, hH⟩ := hrel
    by_cases hlt : j < t.length
    · obtain rfl : base = some ⟨b, o, none⟩ := HN.out.base (by omega)
      have hb := HN.out.lt (by omega)
      have hT2 : j < (hangN t x top T j).length := by rw [hangN_length, HT.out]; exact hlt
      obtain ⟨c0, c1, c2, c3, c4, c5⟩ := HN.out.cells j hlt
      rw [← hH.rest b _ hb hgb] at c0 c1 c2 c3 c4 c5
      have b0 := (hH.rest cb 0 hl hgc).trans h0
      have b3 := (hH.rest cb 3 hl hgc).trans h3
      have b12 := (hH.rest cb 12 hl hgc).trans h12
      have zs := hH.size
      obtain ⟨⟨m4, f4⟩, m5, f5⟩ := hH.row.cells j hT2
      have gl := hH.row.lt.2
      have cl : cb < wr.heap.size := by omega
      have bl : b < wr.heap.size := by omega
      have j0 : (0 : Int) ≤ (j : Int) := Int.natCast_nonneg _
      have j1 : (j : Int) < (t.length : Int) := by omega
      have HS : Hid (hangN t x top T (j + 1) = if (ndAt t j).l = x then setL (hangN t x top T j) j top else if (ndAt t j).r = x then setR (hangN t x top T j) j top else hangN t x top T j) := rfl
      have HH : Hid (Hg w0 w wr g cap (hangN t x top T j)) := hH
      clear hH
      generalize hangN t x top T j = Tj at *
      generalize ndAt t j = nd at *
      obtain ⟨k0, k1, k2, k3, k4, k5⟩ := nd
      simp only at c0 c1 c2 c3 c4 c5 HS
      by_cases q4 : k4 = x
      · have d4 : (k4 == x) = true := by simp [q4]
        have HS' : Hid (hangN t x top T (j + 1) = setL Tj j top) := by show _ = _; rw [HS.out, if_pos q4]
        clear q4
        go_wp2_with fail
        go_quiet (fail)
        go_wp2_with fail
        exact ⟨⟨j + 1, by omega, by go_num, by rw [HS'.out]; exact ((HH.out.alloc _).drewN _).setL j top hT2⟩, by simp [intOf]; omega⟩
      · have d4 : (k4 == x) = false := by simp [q4]
        by_cases q5 : k5 = x
        · have d5 : (k5 == x) = true := by simp [q5]
          have HS' : Hid (hangN t x top T (j + 1) = setR Tj j top) := by show _ = _; rw [HS.out, if_neg q4, if_pos q5]
          clear q4 q5
          go_wp2_with fail
          go_quiet (fail)
          go_wp2_with fail
          generalize nq = n1 at *
          go_quiet (fail)
          go_wp2_with fail
          exact ⟨⟨j + 1, by omega, by go_num, by rw [HS'.out]; exact ((HH.out.alloc _).drewN _).setR j top hT2⟩, by simp [intOf]; omega⟩
        · have d5 : (k5 == x) = false := by simp [q5]
          have HS' : Hid (hangN t x top T (j + 1) = Tj) := by show _ = _; rw [HS.out, if_neg q4, if_neg q5]
          clear q4 q5
          go_wp2_with fail
          go_quiet (fail)
          go_wp2_with fail
          generalize nq = n1 at *
          go_quiet (fail)
          go_wp2_with fail
          exact ⟨⟨j + 1, by omega, by go_num, by rw [HS'.out]; exact (HH.out.alloc _).drewN _⟩, by simp [intOf]; omega⟩
    · obtain rfl : j = t.length := by omega
      have HH : Hid (Hg w0 w wr g cap (hangN t x top T t.length)) := hH
      clear hH
      go_wp2_with fail
      (try simp only [Exit.inBlock, Exit.then])
      first | (go_end0; exact ⟨rfl, HH.out⟩) | (refine bodyPost_end0 rfl rfl ?_; exact ⟨rfl, HH.out⟩) | (refine bodyPost_ret (v := .tuple #[]) ?_ rfl ?_; · rfl; · exact ⟨rfl, HH.out⟩)
end Go.Proofs.YthlhbajaogonnaaDoor
