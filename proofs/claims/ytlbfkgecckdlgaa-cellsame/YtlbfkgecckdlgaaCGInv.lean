/- Layer 2: CellGates' state. -/
import Derived.Test.YtlbfkgecckdlgaaCTapeZ
import Derived.Test.YtlbfkgecckdlgaaCGNum
import Derived.Test.YtlbfkgecckdlgaaCNumsLaw
import Derived.Test.YtlbfkgecckdlgaaCRound
namespace Go.Proofs.Ytlbfkgecckdlgaa
open Go.RowKit

/-- The Tape in block T, the number with a gate in T + 1, the one without in U, the list of one number in U + 1; kv the kinds so far. -/
structure GI (T U : Nat) (w wr : World) (kv : Value) (ks : List Int) (x : Int) : Prop where
  tape : ∃ tv, wr.cell? ⟨T, 0, none⟩ = some tv ∧ wr.ownsRow (U + 2) 3 1 tv ks.length (ks.map (Value.int .i64)) ∧ ∀ g, tv.ownBlock = some g → kv.ownBlock ≠ some g
  tfro : wr.frozen? ⟨T, 0, none⟩ = false
  kinds : wr.ownsRow (U + 2) 3 1 kv ks.length (ks.map (Value.int .i64))
  n1 : NSt wr (T + 1) x
  n2 : NSt wr U x
  n3 : NSt wr (U + 1) x
  tu : T + 2 ≤ U
  size : U + 2 ≤ wr.heap.size
  below : Below w.heap.size w wr
  wt : w.heap.size ≤ T

theorem NSt.kp {X : Nat → Prop} {W W' : World} {b : Nat} {x : Int} (h : NSt W b x) (hk : Kp X W W') (hX : ¬ X b) : NSt W' b x :=
  ⟨Nat.lt_of_lt_of_le h.lt hk.size, (hk.cell (p := ⟨b, 0, none⟩) h.lt hX).trans h.cell, (hk.frozen (p := ⟨b, 0, none⟩) h.lt hX).trans h.fro⟩
theorem NSt.step {X : Nat → Prop} {W W' : World} {b : Nat} {x y : Int} (h : NSt W b x) (hs : NumStep X b 0 y W W') : NSt W' b y :=
  ⟨Nat.lt_of_lt_of_le h.lt hs.kp.size, hs.cell h.cell, (hs.fro 0).trans h.fro⟩

theorem GI.kp {T U : Nat} {w wr W : World} {kv : Value} {ks : List Int} {x : Int} (h : GI T U w wr kv ks x) (hk : Kp (fun _ => False) wr W) : GI T U w W kv ks x := by
  obtain ⟨⟨tv, hc, ho, ha⟩, hf, hkd, n1, n2, n3, tu, sz, bl, wt⟩ := h
  refine ⟨⟨tv, (hk.cell (p := ⟨T, 0, none⟩) (by simp; omega) (fun h => h)).trans hc, owns_same ho (fun g _ hl => hk.block g hl (fun h => h)), ha⟩, (hk.frozen (p := ⟨T, 0, none⟩) (by simp; omega) (fun h => h)).trans hf, owns_same hkd (fun g _ hl => hk.block g hl (fun h => h)), n1.kp hk (fun h => h), n2.kp hk (fun h => h), n3.kp hk (fun h => h), tu, Nat.le_trans sz hk.size, ?_, wt⟩
  exact bl.trans (hk.to_below w.heap.size bl.size (fun _ _ h => h))

/-- The block of the Tape's list. -/
theorem GI.open {T U : Nat} {w wr : World} {kv : Value} {ks : List Int} {x : Int} (h : GI T U w wr kv ks x) : ∃ r, (r = T ∨ U + 2 ≤ r) ∧ r < wr.heap.size ∧ kv.ownBlock ≠ some r ∧ ∀ N W, wr.heap.size ≤ N → Kp (fun _ => False) wr W → N ≤ W.heap.size → TapeZ T (U + 2) N r ks W := by
  obtain ⟨⟨tv, hc, ho, ha⟩, hf, hkd, n1, n2, n3, tu, sz, bl, wt⟩ := h
  have key : ∀ r, (∀ g, tv.ownBlock = some g → g = r) → ∀ N W, wr.heap.size ≤ N → Kp (fun _ => False) wr W → N ≤ W.heap.size → TapeZ T (U + 2) N r ks W := by
    intro r hr N W hN hk hs
    exact ⟨⟨tv, (hk.cell (p := ⟨T, 0, none⟩) (by simp; omega) (fun h => h)).trans hc, owns_same ho (fun g _ hl => hk.block g hl (fun h => h)), fun g hg => Or.inl (hr g hg)⟩, (hk.frozen (p := ⟨T, 0, none⟩) (by simp; omega) (fun h => h)).trans hf, by omega, by omega, hs⟩
  cases hb : tv.ownBlock with
  | none =>
    refine ⟨T, Or.inl rfl, by omega, fun e => ?_, key T (fun g hg => by rw [hb] at hg; cases hg)⟩
    have := owns_ge hkd T e
    omega
  | some g =>
    exact ⟨g, Or.inr (owns_ge ho g hb), owns_lt ho g hb, ha g hb, key g (fun g' hg => by rw [hb] at hg; cases hg; rfl)⟩

/-- Behind the three accesses. -/
structure GM (T U N r : Nat) (w wd : World) (kv : Value) (ks : List Int) (d y : Int) : Prop where
  tz : TapeZ T (U + 2) N r (ks ++ [d]) wd
  kinds : wd.ownsRow (U + 2) 3 1 kv ks.length (ks.map (Value.int .i64))
  klt : ∀ g, kv.ownBlock = some g → g < N ∧ g ≠ r
  n1 : NSt wd (T + 1) y
  n2 : NSt wd U y
  n3 : NSt wd (U + 1) y
  below : Below w.heap.size w wd

/-- The cells of an act. -/
structure AAt (W : World) (A : Nat) (d a b : Int) : Prop where
  c0 : W.cell? ⟨A, 0, none⟩ = some (.int .i64 d)
  c1 : W.cell? ⟨A, 1, none⟩ = some (.int .i64 0)
  c2 : W.cell? ⟨A, 2, none⟩ = some (.int .i64 a)
  c3 : W.cell? ⟨A, 3, none⟩ = some (.int .i64 b)
theorem AAt.kp {X : Nat → Prop} {W W' : World} {A : Nat} {d a b : Int} (h : AAt W A d a b) (hk : Kp X W W') (hl : A < W.heap.size) (hX : ¬ X A) : AAt W' A d a b :=
  ⟨(hk.cell (p := ⟨A, 0, none⟩) hl hX).trans h.c0, (hk.cell (p := ⟨A, 1, none⟩) hl hX).trans h.c1, (hk.cell (p := ⟨A, 2, none⟩) hl hX).trans h.c2, (hk.cell (p := ⟨A, 3, none⟩) hl hX).trans h.c3⟩

theorem GI.mid {T U r : Nat} {w wr W wb wc wd : World} {kv : Value} {ks : List Int} {x d y : Int} (h : GI T U w wr kv ks x) (hr : r = T ∨ U + 2 ≤ r) (hrk : kv.ownBlock ≠ some r) (hW : Kp (fun _ => False) wr W)
    (s1 : NumStep (fun _ => False) (U + 1) 0 y W wb) (s2 : NumStep (TX T (wr.heap.size + 1) r) (T + 1) 0 y wb wc) (tz : TapeZ T (U + 2) (wr.heap.size + 1) r (ks ++ [d]) wc) (s3 : NumStep (fun _ => False) U 0 y wc wd) :
    GM T U (wr.heap.size + 1) r w wd kv ks d y := by
  have hI := h.kp hW
  have hsz := h.size
  have htu := h.tu
  have hwt := h.wt
  have hkl : ∀ g, kv.ownBlock = some g → g < wr.heap.size ∧ g ≠ r ∧ U + 2 ≤ g := fun g hg => ⟨owns_lt h.kinds g hg, fun e => hrk (e ▸ hg), owns_ge h.kinds g hg⟩
  have b1 := s1.kp.size
  have b2 := s2.kp.size
  have hk : wd.ownsRow (U + 2) 3 1 kv ks.length (ks.map (Value.int .i64)) := by
    refine owns_same hI.kinds (fun g hg hl => ?_)
    obtain ⟨q1, q2, q3⟩ := hkl g hg
    rw [s3.kp.block g (by omega) (by rintro (h | h); exact h; omega), s2.kp.block g (by omega) (by unfold TX; omega), s1.kp.block g hl (by rintro (h | h); exact h; omega)]
  refine ⟨?_, hk, fun g hg => ⟨by have := (hkl g hg).1; omega, (hkl g hg).2.1⟩, ?_, ?_, ?_, ?_⟩
  · exact (gate_tapeZ T (U + 2) (wr.heap.size + 1) r 0 (by omega)).keep _ (fun k => False ∨ k = U) _ _ tz s3.kp (fun k h => by rcases h with h | h; exact h.elim; unfold TX; omega)
  · exact ((hI.n1.kp s1.kp (by rintro (h | h); exact h; omega)).step s2).kp s3.kp (by rintro (h | h); exact h; omega)
  · exact ((hI.n2.kp s1.kp (by rintro (h | h); exact h; omega)).kp s2.kp (by unfold TX; omega)).step s3
  · exact ((hI.n3.step s1).kp s2.kp (by unfold TX; omega)).kp s3.kp (by rintro (h | h); exact h; omega)
  · refine hI.below.trans ?_
    have hs0 : w.heap.size ≤ W.heap.size := hI.below.size
    exact ((s1.kp.to_below w.heap.size hs0 (by rintro k hk (h | h); exact h; omega)).trans (s2.kp.to_below w.heap.size (by omega) (by unfold TX; omega))).trans (s3.kp.to_below w.heap.size (by omega) (by rintro k hk (h | h); exact h; omega))

/-- Behind the kinds' append. -/
theorem GM.grown {T U N r gg cap : Nat} {w wd we : World} {kv : Value} {ks : List Int} {d y : Int} {o : Obj} (h : GM T U N r w wd kv ks d y) (htu : T + 2 ≤ U) (hwt : w.heap.size ≤ T)
    (hown : we.ownsRow (U + 2) 3 1 (.slice (some ⟨gg, 0, none⟩) (ks.length + 1) cap) (ks.length + 1) (ks.map (Value.int .i64) ++ [.int .i64 d])) (hgrow : (wd.alloc o).grownBy we kv.ownBlock) (hat : kv.ownBlock = some gg ∨ gg = wd.heap.size + 1) :
    GI T U w we (.slice (some ⟨gg, 0, none⟩) (ks.length + 1) cap) (ks ++ [d]) y := by
  obtain ⟨tz, hk, klt, n1, n2, n3, bl⟩ := h
  obtain ⟨⟨tv, hc, ho, hrow⟩, hf, hlt, hmid, hsz⟩ := tz
  have hge := owns_ge hk
  have hbl : ∀ k, k < wd.heap.size → kv.ownBlock ≠ some k → we.heap[k]? = wd.heap[k]? := fun k hk hn => by
    rw [hgrow.block k (by simp; omega) (fun e => hn e.symm), Below.heap_alloc _ _ _ hk]
  have hgs := hgrow.size
  simp at hgs
  have hlow : ∀ k, k < U + 2 → we.heap[k]? = wd.heap[k]? := fun k hk => hbl k (by omega) (fun e => by have := hge k e; omega)
  have nst : ∀ b, b < U + 2 → NSt wd b y → NSt we b y := fun b hb hn => by
    refine ⟨by have := hn.lt; omega, ?_, ?_⟩
    · rw [World.cell?_of_block (w := wd) (w' := we) (a := ⟨b, 0, none⟩) (hlow b hb)]; exact hn.cell
    · rw [World.frozen?_of_block (w := wd) (w' := we) (a := ⟨b, 0, none⟩) (hlow b hb)]; exact hn.fro
  have hne : ∀ g, tv.ownBlock = some g → kv.ownBlock ≠ some g := fun g hg e => by
    have := klt g e
    rcases hrow g hg with h | h <;> omega
  refine ⟨⟨tv, ?_, ?_, ?_⟩, ?_, ?_, nst _ (by omega) n1, nst _ (by omega) n2, nst _ (by omega) n3, htu, by omega, ?_, hwt⟩
  · rw [World.cell?_of_block (w := wd) (w' := we) (a := ⟨T, 0, none⟩) (hlow T (by omega))]; exact hc
  · exact owns_same ho (fun g hg hl => hbl g hl (hne g hg))
  · intro g hg e
    simp [Value.ownBlock] at e
    subst e
    rcases hat with h | h
    · exact hne _ hg h
    · have := owns_lt ho _ hg; omega
  · rw [World.frozen?_of_block (w := wd) (w' := we) (a := ⟨T, 0, none⟩) (hlow T (by omega))]; exact hf
  · simpa using hown
  · refine bl.trans ⟨hgrow.os, hgrow.tape, hgrow.output, by omega, fun k hk => hlow k (by omega)⟩

theorem GI.at_ {T U : Nat} {w wr : World} {kv : Value} {ks : List Int} {x : Int} (h : GI T U w wr kv ks x) : TapeAt T (U + 2) ks wr := by
  obtain ⟨⟨tv, hc, ho, _⟩, hf, _, _, _, _, tu, sz, _, _⟩ := h
  exact ⟨⟨tv, hc, ho⟩, hf, by omega, sz⟩

def atL (ks : List Int) (j : Nat) : Int := ks.getD j 0
theorem map_atL (ks : List Int) : ks.map (Value.int .i64) = (List.range ks.length).map fun j => Value.int .i64 (atL ks j) := by
  apply List.ext_getElem?
  intro i
  by_cases h : i < ks.length
  · rw [List.getElem?_map, List.getElem?_map, List.getElem?_range h, List.getElem?_eq_getElem h]
    simp [atL, List.getD_eq_getElem?_getD, List.getElem?_eq_getElem h]
  · rw [List.getElem?_eq_none (by simp; omega), List.getElem?_eq_none (by simp; omega)]
theorem owns_list {w : World} {B : Nat} {v : Value} {ks : List Int} (h : w.ownsRow B 3 1 v ks.length (ks.map (Value.int .i64))) (hn : ks.length ≤ maxLen) : ∃ a c b, v = .slice a ks.length c ∧ NumsAt w a b 0 ks.length (atL ks) := by
  rw [map_atL] at h
  exact owns_nums h hn
end Go.Proofs.Ytlbfkgecckdlgaa
