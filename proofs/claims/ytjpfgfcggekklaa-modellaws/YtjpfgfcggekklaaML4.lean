/- Layer 6: what the calls of the law ModelDoes say. -/
import Derived.Test.YtjpfgfcggekklaaML3
namespace Go.Proofs.Ytjpfgfcggekklaa
open Go.RowKit

def RunQ (f : FuncId) (base : Option Addr) (c : Nat) (ps : PL) (ob : Option Addr) (oc : Nat) (os : List OpD) (E : Int) (L : PL) (R : List RetD) (w : World) : Prop :=
  Calls Try.prog f #[.slice base ps.length c, .slice ob os.length oc] w fun e w' => ∃ a1 c1 g1 a2 c2 g2, e = .returned (.tuple #[.slice a1 L.length c1, .slice a2 R.length c2, .int .i64 E]) ∧ Below w.heap.size w w' ∧ PairsAt w' a1 g1 0 L ∧ RetsAt w' a2 g2 0 R
theorem runQ_of {f : FuncId} {base : Option Addr} {c : Nat} {ps : PL} {ob : Option Addr} {oc : Nat} {os : List OpD} {w : World} (h : Calls Try.prog f #[.slice base ps.length c, .slice ob os.length oc] w fun e w' => ∃ v1 a2 c2 g2, e = .returned (.tuple #[v1, .slice a2 (runRd ps os).length c2, .int .i64 (runErr ps os)]) ∧ Below w.heap.size w w' ∧ OwnP w' w.heap.size (runLd ps os) v1 ∧ RetsAt w' a2 g2 0 (runRd ps os)) {E : Int} {L : PL} {R : List RetD} (hE : runErr ps os = E) (hL : runLd ps os = L) (hR : runRd ps os = R) : RunQ f base c ps ob oc os E L R w := by
  subst hE hL hR
  unfold RunQ
  refine h.mono ?_
  rintro e w' ⟨v1, a2, c2, g2, rfl, hb, h1, h2⟩
  obtain ⟨a1, g1, c1, rfl, _, hp1, _⟩ := h1
  exact ⟨a1, c1, g1, a2, c2, g2, rfl, hb, hp1, h2⟩
def CopQ (a : Option Addr) (c : Nat) (ps : PL) (w : World) : Prop :=
  Calls Try.prog 11 #[.slice a ps.length c] w fun e w' => ∃ base cap g, e = .returned (.slice base ps.length cap) ∧ Below w.heap.size w w' ∧ PairsAt w' base g 0 ps ∧ NilOk base ps.length cap ∧ ps.length ≤ cap ∧ cap ≤ maxLen ∧ (ps.length ≠ 0 → w.heap.size ≤ g)
def FitQ (f : FuncId) (base : Option Addr) (c : Nat) (ps : PL) (o : OpD) (r : RetD) (ra : Option Addr) (rc : Nat) (B : Bool) (E : Int) (w : World) : Prop :=
  Calls Try.prog f #[.slice base ps.length c, .agg #[.int .i64 o.kind, .int .i64 o.key, .int .i64 o.val, .int .i64 o.hi], .agg #[.bool r.ok, .int .i64 r.key, .int .i64 r.val, .slice ra r.pairs.length rc]] w fun e w' => e = .returned (.tuple #[.bool B, .int .i64 E]) ∧ Below w.heap.size w w'
theorem same_self (ba bb : Option Addr) (ga oa ca gb ob cb : Nat) (a : PL) (w : World) (ha : PairsAt w ba ga oa a) (hb : PairsAt w bb gb ob a) :
    Calls Try.prog 19 #[.slice ba a.length ca, .slice bb a.length cb] w fun e w' => e = .returned (.bool true) ∧ Below w.heap.size w w' := by
  have := samePairs_any ba bb ga oa ca gb ob cb a a w ha hb
  rw [show plEq a a = true by simp [plEq]] at this
  exact this
theorem sameRet_self (ba bb : Option Addr) (ga oa ca gb ob cb : Nat) (a : RetD) (w : World) (ha : PairsAt w ba ga oa a.pairs) (hb : PairsAt w bb gb ob a.pairs) :
    Calls Try.prog 30 #[.agg #[.bool a.ok, .int .i64 a.key, .int .i64 a.val, .slice ba a.pairs.length ca], .agg #[.bool a.ok, .int .i64 a.key, .int .i64 a.val, .slice bb a.pairs.length cb]] w fun e w' => e = .returned (.bool true) ∧ Below w.heap.size w w' := by
  have := sameRet_any ba bb ga oa ca gb ob cb a a w ha hb
  rw [retEq_refl] at this
  exact this

/-- A new answer, still zero. -/
def zeroA : Array Value := #[.bool false, .int .i64 0, .int .i64 0, .slice none 0 0]
structure NbAt (W : World) (nb : Nat) : Prop where
  lt : nb < W.heap.size
  cells : ∀ k, W.cell? ⟨nb, k, none⟩ = zeroA[k]?
  free : ∀ k, W.frozen? ⟨nb, k, none⟩ = false
theorem NbAt.made (W : World) : NbAt (W.alloc (.cells #[.bool false, .int .i64 0, .int .i64 0, .slice none 0 0] 27)) W.heap.size := ⟨by simp, fun k => cell_new W _ _ k, fun k => frozen_new W _ _ k⟩
theorem NbAt.below {W W' : World} {nb : Nat} (h : NbAt W nb) (hb : Below W.heap.size W W') : NbAt W' nb :=
  ⟨Nat.lt_of_lt_of_le h.lt hb.size, fun k => (hb.cell (p := ⟨nb, k, none⟩) h.lt).trans (h.cells k), fun k => (hb.frozen (p := ⟨nb, k, none⟩) h.lt).trans (h.free k)⟩
/-- What a statement `m, r, e := Do(..)` leaves in its three variables. -/
def Did (W3 : World) (E : Int) (L : PL) (r : RetD) (s3 s4 s5 : Value) (wx : World) : Prop :=
  ∃ a1 k1 h1 a2 k2 h2 nb, s3 = .slice a1 L.length k1 ∧ s4 = .pointer (some ⟨nb, 0, none⟩) ∧ s5 = .int .i64 E ∧ Below W3.heap.size W3 wx ∧ W3.heap.size ≤ nb ∧ nb < wx.heap.size ∧ (∀ k, wx.cell? ⟨nb, k, none⟩ = (#[.bool r.ok, .int .i64 r.key, .int .i64 r.val, .slice a2 r.pairs.length k2] : Array Value)[k]?) ∧ PairsAt wx a1 h1 0 L ∧ PairsAt wx a2 h2 0 r.pairs
theorem did_new {W3 w5 : World} {E : Int} {L : PL} {r : RetD} {a1 a2 : Option Addr} {k1 h1 k2 h2 : Nat} (hb : Below W3.heap.size W3 w5) (h1' : PairsAt w5 a1 h1 0 L) (h2' : PairsAt w5 a2 h2 0 r.pairs) :
    Did W3 E L r (.slice a1 L.length k1) (.pointer (some ⟨w5.heap.size, 0, none⟩)) (.int .i64 E) (w5.alloc (.cells #[.bool r.ok, .int .i64 r.key, .int .i64 r.val, .slice a2 r.pairs.length k2] 27)) :=
  ⟨a1, k1, h1, a2, k2, h2, w5.heap.size, rfl, rfl, rfl, hb.alloc hb.size _, hb.size, by simp, fun k => cell_new w5 _ _ k, h1'.below (below_alloc _ _), h2'.below (below_alloc _ _)⟩
theorem PairsAt.set4 {w : World} {base : Option Addr} {b o : Nat} {ps : PL} (h : PairsAt w base b o ps) {N : Nat} (hN : ps.length ≠ 0 → N < b) (v0 v1 v2 v3 : Value) : PairsAt ((((w.setCell ⟨N, 0, none⟩ v0).setCell ⟨N, 1, none⟩ v1).setCell ⟨N, 2, none⟩ v2).setCell ⟨N, 3, none⟩ v3) base b o ps := by
  by_cases hn : ps.length = 0
  · exact ⟨fun q => absurd hn q, fun q => absurd hn q, fun i hi => by omega, h.len⟩
  · have := hN hn
    exact (((h.apart (g := N) this).apart (g := N) this).apart (g := N) this).apart (g := N) this
theorem did_set {W3 w5 : World} {E : Int} {L : PL} {r : RetD} {a1 a2 : Option Addr} {k1 h1 k2 h2 nb : Nat} (hb : Below W3.heap.size W3 w5) (hn : NbAt w5 nb) (hle : W3.heap.size ≤ nb) (h1' : PairsAt w5 a1 h1 0 L) (h2' : PairsAt w5 a2 h2 0 r.pairs) (g1 : L.length ≠ 0 → nb < h1) (g2 : r.pairs.length ≠ 0 → nb < h2) :
    Did W3 E L r (.slice a1 L.length k1) (.pointer (some ⟨nb, 0, none⟩)) (.int .i64 E) ((((w5.setCell ⟨nb, 0, none⟩ (.bool r.ok)).setCell ⟨nb, 1, none⟩ (.int .i64 r.key)).setCell ⟨nb, 2, none⟩ (.int .i64 r.val)).setCell ⟨nb, 3, none⟩ (.slice a2 r.pairs.length k2)) := by
  refine ⟨a1, k1, h1, a2, k2, h2, nb, rfl, rfl, rfl, below4 hb hle _ _ _ _, hle, by simpa using hn.lt, fun k => ?_, h1'.set4 g1 _ _ _ _, h2'.set4 g2 _ _ _ _⟩
  obtain ⟨q0, q1, q2, q3⟩ := store4 (hn.cells 0) (hn.cells 1) (hn.cells 2) (hn.cells 3) (.bool r.ok) (.int .i64 r.key) (.int .i64 r.val) (.slice a2 r.pairs.length k2)
  match k with
  | 0 => exact q0
  | 1 => exact q1
  | 2 => exact q2
  | 3 => exact q3
  | k + 4 =>
    have hc := hn.cells (k + 4)
    have hne : ∀ i, i < 4 → (⟨nb, i, none⟩ : Addr) ≠ ⟨nb, k + 4, none⟩ := fun i hi q => by have := congrArg Addr.off q; simp at this; omega
    rw [World.cell?_setCell_other _ _ _ _ (hne 3 (by omega)), World.cell?_setCell_other _ _ _ _ (hne 2 (by omega)), World.cell?_setCell_other _ _ _ _ (hne 1 (by omega)), World.cell?_setCell_other _ _ _ _ (hne 0 (by omega)), hc]
    simp [zeroA]
/-- What `given := Ret{.., Pairs: copied(..)}` leaves in its variable. -/
def Did2 (W3 : World) (r : RetD) (s : Value) (wx : World) : Prop :=
  ∃ a2 k2 h2 nb, s = .pointer (some ⟨nb, 0, none⟩) ∧ Below W3.heap.size W3 wx ∧ nb < wx.heap.size ∧ (∀ k, wx.cell? ⟨nb, k, none⟩ = (#[.bool r.ok, .int .i64 r.key, .int .i64 r.val, .slice a2 r.pairs.length k2] : Array Value)[k]?) ∧ PairsAt wx a2 h2 0 r.pairs
theorem did2_new {W3 w5 : World} {r : RetD} {a2 : Option Addr} {k2 h2 : Nat} (hb : Below W3.heap.size W3 w5) (h2' : PairsAt w5 a2 h2 0 r.pairs) :
    Did2 W3 r (.pointer (some ⟨w5.heap.size, 0, none⟩)) (w5.alloc (.cells #[.bool r.ok, .int .i64 r.key, .int .i64 r.val, .slice a2 r.pairs.length k2] 27)) := by
  obtain ⟨a1, k1, h1, a2', k2', h2'', nb, _, h4, _, q1, q2, q3, q4, _, q6⟩ := did_new (E := 0) (L := []) (a1 := none) (k1 := 0) (h1 := 0) (k2 := k2) hb (pairs_none w5) h2'
  exact ⟨a2', k2', h2'', nb, h4, q1, q3, q4, q6⟩
theorem did2_set {W3 w5 : World} {r : RetD} {a2 : Option Addr} {k2 h2 nb : Nat} (hb : Below W3.heap.size W3 w5) (hn : NbAt w5 nb) (hle : W3.heap.size ≤ nb) (h2' : PairsAt w5 a2 h2 0 r.pairs) (g2 : r.pairs.length ≠ 0 → nb < h2) :
    Did2 W3 r (.pointer (some ⟨nb, 0, none⟩)) ((((w5.setCell ⟨nb, 0, none⟩ (.bool r.ok)).setCell ⟨nb, 1, none⟩ (.int .i64 r.key)).setCell ⟨nb, 2, none⟩ (.int .i64 r.val)).setCell ⟨nb, 3, none⟩ (.slice a2 r.pairs.length k2)) := by
  obtain ⟨a1, k1, h1, a2', k2', h2'', nb', _, h4, _, q1, q2, q3, q4, _, q6⟩ := did_set (E := 0) (L := []) (a1 := none) (k1 := 0) (h1 := 0) (k2 := k2) hb hn hle (pairs_none w5) h2' (fun q => absurd rfl q) g2
  exact ⟨a2', k2', h2'', nb', h4, q1, q3, q4, q6⟩
end Go.Proofs.Ytjpfgfcggekklaa
