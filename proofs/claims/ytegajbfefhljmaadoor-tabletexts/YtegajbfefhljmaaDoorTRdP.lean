
/- Layer 16: the reader: what it reads, as functions of lists; its blocks. -/

import Derived.Test.YtegajbfefhljmaaDoorTText

namespace Go.Proofs.YtegajbfefhljmaaDoor

open Go.RowKit

/-- Of the old blocks only those of S have turned. -/
structure Turn (S : Nat → Prop) (w w' : World) : Prop where
  os : w'.os = w.os
  tape : w'.tape = w.tape
  output : w'.output = w.output
  size : w.heap.size ≤ w'.heap.size
  block : ∀ k, k < w.heap.size → ¬ S k → w'.heap[k]? = w.heap[k]?
theorem Turn.refl (S : Nat → Prop) (w : World) : Turn S w w := ⟨rfl, rfl, rfl, Nat.le_refl _, fun _ _ _ => rfl⟩
theorem Turn.trans {S : Nat → Prop} {w w1 w2 : World} (h : Turn S w w1) (k : Turn S w1 w2) : Turn S w w2 :=
  ⟨k.os.trans h.os, k.tape.trans h.tape, k.output.trans h.output, Nat.le_trans h.size k.size, fun i hi hs => (k.block i (Nat.lt_of_lt_of_le hi h.size) hs).trans (h.block i hi hs)⟩
theorem Turn.mono {S S' : Nat → Prop} {w w' : World} (h : Turn S w w') (hs : ∀ k, S k → S' k) : Turn S' w w' := ⟨h.os, h.tape, h.output, h.size, fun i hi q => h.block i hi (fun r => q (hs i r))⟩
theorem Turn.ofBelow {S : Nat → Prop} {w w' : World} (h : Below w.heap.size w w') : Turn S w w' := ⟨h.os, h.tape, h.output, h.size, fun i hi _ => h.block i hi⟩
theorem Turn.setCell {S : Nat → Prop} {w w' : World} (h : Turn S w w') (b j : Nat) (v : Value) (hb : S b) : Turn S w (w'.setCell ⟨b, j, none⟩ v) :=
  ⟨h.os, h.tape, h.output, by simpa using h.size, fun i hi hs => by rw [Below.heap_setCell _ _ _ _ (fun q => hs (by simp at q; rw [q]; exact hb))]; exact h.block i hi hs⟩
theorem Turn.below {S : Nat → Prop} {B : Nat} {w w' : World} (h : Turn S w w') (hs : ∀ k, S k → B ≤ k) (hB : B ≤ w.heap.size) : Below B w w' := ⟨h.os, h.tape, h.output, h.size, fun k hk => h.block k (by omega) (fun q => by have := hs k q; omega)⟩
theorem Turn.grown {S : Nat → Prop} {w w1 w2 : World} {row : Option Nat} (h : Turn S w w1) (hg : w1.grownBy w2 row) (hr : ∀ k, row = some k → S k ∨ w.heap.size ≤ k) : Turn S w w2 :=
  ⟨hg.os.trans h.os, hg.tape.trans h.tape, hg.output.trans h.output, Nat.le_trans h.size hg.size, fun i hi hs => (hg.block i (Nat.lt_of_lt_of_le hi h.size) (fun q => by rcases hr i q.symm with r | r; exact hs r; omega)).trans (h.block i hi hs)⟩
theorem Turn.drew {S : Nat → Prop} {w w' : World} (h : Turn S w w') : Turn S w w'.drew := ⟨h.os, h.tape, h.output, h.size, h.block⟩

/-- A reader in memory: the rest of its text, its nodes, its open places. -/
structure RdAt (w : World) (B R : Nat) (l : List UInt8) (nv ov : Value) (N : NL) (O : List Nat) : Prop where
  lo : B ≤ R
  blk : w.heap[R]? = some (.cells #[.string ⟨l.toArray⟩, nv, ov] 46)
  hN : w.ownsRow B 33 6 nv N.length (ndCells N)
  hO : w.ownsRow B 3 1 ov O.length (natC O)
theorem RdAt.lt {w : World} {B R : Nat} {l : List UInt8} {nv ov : Value} {N : NL} {O : List Nat} (h : RdAt w B R l nv ov N O) : R < w.heap.size := (Array.getElem?_eq_some_iff.1 h.blk).1
theorem RdAt.cells {w : World} {B R : Nat} {l : List UInt8} {nv ov : Value} {N : NL} {O : List Nat} (h : RdAt w B R l nv ov N O) : w.cell? ⟨R, 0, none⟩ = some (.string ⟨l.toArray⟩) ∧ w.cell? ⟨R, 1, none⟩ = some nv ∧ w.cell? ⟨R, 2, none⟩ = some ov ∧ w.frozen? ⟨R, 0, none⟩ = false ∧ w.frozen? ⟨R, 1, none⟩ = false ∧ w.frozen? ⟨R, 2, none⟩ = false := by
  refine ⟨?_, ?_, ?_, ?_, ?_, ?_⟩ <;> simp [World.cell?, World.frozen?, h.blk]
theorem blk_ne {w : World} {R g : Nat} {c c' : Array Value} {e e' : TypeId} {f f' : Nat × Nat} (h : w.heap[R]? = some (.cells c e f)) (h' : w.heap[g]? = some (.cells c' e' f')) (he : e ≠ e') : g ≠ R := by
  intro q
  subst q
  rw [h] at h'
  have := Option.some.inj h'
  injection this with _ h3 _
  exact he h3
theorem RdAt.sepN {w : World} {B R : Nat} {l : List UInt8} {nv ov : Value} {N : NL} {O : List Nat} (h : RdAt w B R l nv ov N O) : ∀ g, nv.ownBlock = some g → g ≠ R := fun g q => by
  obtain ⟨c, f, h1⟩ := own_kind h.hN g q
  exact blk_ne h.blk h1 (by decide)
theorem RdAt.sepO {w : World} {B R : Nat} {l : List UInt8} {nv ov : Value} {N : NL} {O : List Nat} (h : RdAt w B R l nv ov N O) : ∀ g, ov.ownBlock = some g → g ≠ R := fun g q => by
  obtain ⟨c, f, h1⟩ := own_kind h.hO g q
  exact blk_ne h.blk h1 (by decide)
theorem owns_turn {S : Nat → Prop} {w w' : World} {B sz n : Nat} {e : TypeId} {v : Value} {xs : List Value} (h : w.ownsRow B e sz v n xs) (ht : Turn S w w') (hs : ∀ g, v.ownBlock = some g → ¬ S g) : w'.ownsRow B e sz v n xs := by
  obtain ⟨h0, h⟩ := h
  rcases h with h | ⟨g, cap, cur, hv, hg, hh, r⟩
  · exact ⟨h0, Or.inl h⟩
  · exact ⟨h0, Or.inr ⟨g, cap, cur, hv, hg, by rw [ht.block g (Array.getElem?_eq_some_iff.1 hh).1 (hs g (by rw [hv]; rfl))]; exact hh, r⟩⟩
theorem RdAt.turn {S : Nat → Prop} {w w' : World} {B R : Nat} {l : List UInt8} {nv ov : Value} {N : NL} {O : List Nat} (h : RdAt w B R l nv ov N O) (ht : Turn S w w') (hR : ¬ S R) (hN : ∀ g, nv.ownBlock = some g → ¬ S g) (hO : ∀ g, ov.ownBlock = some g → ¬ S g) : RdAt w' B R l nv ov N O :=
  ⟨h.lo, by rw [ht.block R h.lt hR]; exact h.blk, owns_turn h.hN ht hN, owns_turn h.hO ht hO⟩
theorem RdAt.quiet {w w' : World} {B R : Nat} {l : List UInt8} {nv ov : Value} {N : NL} {O : List Nat} (h : RdAt w B R l nv ov N O) (hb : Below w.heap.size w w') : RdAt w' B R l nv ov N O := h.turn (S := fun _ => False) (Turn.ofBelow hb) id (fun _ _ => id) (fun _ _ => id)
/-- The rest of its text set. -/
theorem RdAt.setRest {w : World} {B R : Nat} {l : List UInt8} {nv ov : Value} {N : NL} {O : List Nat} (h : RdAt w B R l nv ov N O) (l' : List UInt8) : RdAt (w.setCell ⟨R, 0, none⟩ (.string ⟨l'.toArray⟩)) B R l' nv ov N O := by
  have ht : Turn (fun k => k = R) w (w.setCell ⟨R, 0, none⟩ (.string ⟨l'.toArray⟩)) := (Turn.refl _ w).setCell R 0 _ rfl
  refine ⟨h.lo, ?_, owns_turn h.hN ht h.sepN, owns_turn h.hO ht h.sepO⟩
  rw [Go.Joins.block_setCell h.blk]
  rfl

/-- The variables of the library that it reads. -/
structure Laid (w : World) : Prop where
  tab : Lib.TabIs Tryd.prog w "internal/strconv.uint64pow10" .u64 Lib.pow10Tab
  syn : ∃ (tp : TypeId) (p : Value), w.var? Tryd.prog "strconv.ErrSyntax" = some #[.iface tp p]
  rng : ∃ (tp : TypeId) (p : Value), w.var? Tryd.prog "strconv.ErrRange" = some #[.iface tp p]
def LaidB (B : Nat) (w : World) : Prop := ∀ w', Below B w w' → Laid w'
theorem LaidB.here {B : Nat} {w : World} (h : LaidB B w) : Laid w := h w (Below.refl _ _)
theorem LaidB.on {B : Nat} {w w1 : World} (h : LaidB B w) (hb : Below B w w1) : LaidB B w1 := fun w' h' => h w' (hb.trans h')
theorem LaidB.tabs {B : Nat} {w : World} (h : LaidB B w) : TabB B w := fun w' h' => (h w' h').tab

/-- A number at the beginning: its signs, its value, what comes behind. -/
def numCh (c : UInt8) : Bool := c == 45 || (decide (48 ≤ c.toNat) && decide (c.toNat ≤ 57))
def numT (l : List UInt8) : List UInt8 := l.takeWhile numCh
def numR (l : List UInt8) : List UInt8 := l.dropWhile numCh
def numV (l : List UInt8) : Option Int := match Lib.atoiAll (numT l) with
  | .ok v => if Lib.itoa v = numT l then some v else none
  | _ => none
theorem num_cut : ∀ (l : List UInt8) (j : Nat), j ≤ l.length → (∀ i, i < j → numCh (l.getD i 0) = true) → (j = l.length ∨ numCh (l.getD j 0) = false) → numT l = l.take j ∧ numR l = l.drop j
  | [], j, hj, _, _ => by simp at hj; subst hj; simp [numT, numR]
  | c :: l, 0, _, _, h => by
    have hc : numCh c = false := by
      rcases h with h | h
      · simp at h
      · simpa using h
    simp [numT, numR, hc]
  | c :: l, j + 1, hj, ha, h => by
    have hc : numCh c = true := by simpa using ha 0 (by omega)
    have ih := num_cut l j (by simpa using hj) (fun i hi => by simpa using ha (i + 1) (by omega)) (by simpa using h)
    simp only [numT, numR] at ih
    simp [numT, numR, hc, ih.1, ih.2]
/-- A key, a weight. -/
def keyP (l : List UInt8) (d : NdD) : Option (NdD × List UInt8) :=
  if Lib.hasPrefix l [105, 110, 102] = true then some ({ d with inf := 1 }, Lib.trimPrefix l [105, 110, 102]) else (numV l).map fun v => ({ d with key := v }, numR l)
def weightP (l : List UInt8) (d : NdD) : Option (NdD × List UInt8) := match numV l with
  | some v => if 0 ≤ v ∧ v ≤ 1000000 then some ({ d with wt := v }, numR l) else none
  | none => none
/-- A node hung on the innermost one that is open. -/
def hangD (n : NdD) (p : Int) : NdD := if n.l = -1 then { n with l := p } else { n with r := p }
def addP (N : NL) (O : List Nat) (d : NdD) : NL := match O.getLast? with
  | none => N ++ [d]
  | some u => (N ++ [d]).set u (hangD (ndAt (N ++ [d]) u) N.length)
def valueP (l : List UInt8) (N : NL) : Option (NL × List UInt8) :=
  if Lib.hasPrefix l [61] = true then (numV (Lib.trimPrefix l [61])).map fun v => (N.set (N.length - 1) { ndAt N (N.length - 1) with val := v }, numR (Lib.trimPrefix l [61])) else none
def nd1 : NdD := ⟨0, 0, 0, 0, -1, -1⟩
/-- A node's beginning. -/
def beginP (l : List UInt8) : Option (NdD × List UInt8) :=
  if Lib.hasPrefix l [40] = true then
    match keyP (Lib.trimPrefix l [40]) nd1 with
    | some (d, l1) => if Lib.hasPrefix l1 [58] = true then weightP (Lib.trimPrefix l1 [58]) d else none
    | none => none
  else none
def nodeP (l : List UInt8) (N : NL) (O : List Nat) : Option (Bool × List UInt8 × NL × List Nat) := match beginP l with
  | none => none
  | some (d, l1) =>
    if Lib.hasPrefix l1 [32] = true then some (true, Lib.trimPrefix l1 [32], addP N O d, O ++ [N.length])
    else if d.inf = 1 then (if Lib.hasPrefix l1 [41] = true then some (false, Lib.trimPrefix l1 [41], addP N O d, O) else none)
    else match valueP l1 (addP N O d) with
      | some (N2, l2) => if Lib.hasPrefix l2 [41] = true then some (false, Lib.trimPrefix l2 [41], N2, O) else none
      | none => none
/-- Behind a side's end (fuel: the open ones). -/
def closeP : Nat → List UInt8 → NL → List Nat → Option (Bool × List UInt8 × List Nat)
  | 0, l, _, O => some (false, l, O)
  | k + 1, l, N, O => if (ndAt N (O.getD k 0)).r = -1 then (if Lib.hasPrefix l [32] = true then some (true, Lib.trimPrefix l [32], O.take (k + 1)) else none)
    else if Lib.hasPrefix l [41] = true then closeP k (Lib.trimPrefix l [41]) N (O.take k) else none
/-- The tree (fuel: the bytes). -/
def treeP : Nat → List UInt8 → NL → List Nat → Option (List UInt8 × NL)
  | 0, _, _, _ => none
  | k + 1, l, N, O => match nodeP l N O with
    | none => none
    | some (true, l1, N1, O1) => treeP k l1 N1 O1
    | some (false, l1, N1, O1) => match closeP O1.length l1 N1 O1 with
      | none => none
      | some (true, l2, O2) => treeP k l2 N1 O2
      | some (false, l2, _) => some (l2, N1)
def rdE : Option (List UInt8 × NL) → Int
  | some ([], N) => if 100000 < N.length then 2 else 0
  | _ => 7
def rdL : Option (List UInt8 × NL) → NL
  | some ([], N) => if 100000 < N.length then [] else N
  | _ => []
def readE (l : List UInt8) : Int := if 8000000 < l.length then 2 else rdE (treeP (l.length + 1) l [] [])
def readL (l : List UInt8) : NL := if 8000000 < l.length then [] else rdL (treeP (l.length + 1) l [] [])
end Go.Proofs.YtegajbfefhljmaaDoor
