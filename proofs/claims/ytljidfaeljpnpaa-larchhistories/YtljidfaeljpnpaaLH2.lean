/- LarchHistories: larchtop's at; rows of numbers that are one's own. -/
import Derived.Test.YtljidfaeljpnpaaLH1
import Derived.Test.YtljidfaeljpnpaaEOf


namespace Go.Proofs.Ytljidfaeljpnpaa

open Go.RowKit

attribute [local go_sem ↓] Go.wp_at_zero Go.wp_at_succ

structure NAt (w : World) (a : Option Addr) (g o : Nat) (l : List Int) : Prop where
  base : l.length ≠ 0 → a = some ⟨g, o, none⟩
  lt : l.length ≠ 0 → g < w.heap.size
  cells : ∀ j, j < l.length → w.cell? ⟨g, o + j, none⟩ = some (.int .i64 (l.getD j 0))
  len : l.length ≤ maxLen
theorem NAt.below {B : Nat} {w w' : World} {a : Option Addr} {g o : Nat} {l : List Int} (h : NAt w a g o l) (hB : w.heap.size ≤ B) (hb : Below B w w') : NAt w' a g o l :=
  ⟨h.base, fun q => Nat.lt_of_lt_of_le (h.lt q) hb.size, fun j hj => (hb.cell (p := ⟨g, o + j, none⟩) (by have := h.lt (by omega); show g < B; omega)).trans (h.cells j hj), h.len⟩
theorem tmod4 (x : Int) : -3 ≤ x.tmod 4 ∧ x.tmod 4 ≤ 3 := by
  have h1 := Int.tmod_lt_of_pos x (show (0 : Int) < 4 by omega)
  have h2 := Int.tmod_lt_of_pos (-x) (show (0 : Int) < 4 by omega)
  rw [Int.neg_tmod] at h2
  omega
set_option maxRecDepth 100000 in
set_option maxHeartbeats 1000000 in
theorem at_any (a : Option Addr) (g o c : Nat) (l : List Int) (i : Nat) (w : World) (h : NAt w a g o l) (hi : i ≤ 1000) :
    Calls Try.prog 74 #[.slice a l.length c, .int .i64 i, .int .i64 3] w fun e w' => e = .returned (.int .i64 (atI l i)) ∧ w' = w := by
  have i0 : (0 : Int) ≤ (i : Int) := Int.natCast_nonneg _
  have i1 : (i : Int) ≤ 1000 := by omega
  by_cases hl : i < l.length
  · obtain rfl := h.base (by omega)
    have c0 := h.cells i hl
    have il : (i : Int) < (l.length : Int) := by omega
    have HA : Hid (atI l i = (((l.getD i 0).tmod 4).natAbs : Int)) := by show _ = _; unfold atI; rw [if_pos hl]
    generalize l.getD i 0 = x at *
    obtain ⟨t1, t2⟩ := tmod4 x
    by_cases hx : x.tmod 4 < 0
    · clear h hl
      go_enter Try.func74, Try.ntmps74
      go_wp2_with fail
      go_ret
      have e : ((x.tmod 4).natAbs : Int) = -(x.tmod 4) := by omega
      exact ⟨by rw [HA.out, e]; rfl, rfl⟩
    · have hx0 : 0 ≤ x.tmod 4 := by omega
      clear h hl
      go_enter Try.func74, Try.ntmps74
      go_wp2_with fail
      go_ret
      have e : ((x.tmod 4).natAbs : Int) = x.tmod 4 := by omega
      exact ⟨by rw [HA.out, e]; rfl, rfl⟩
  · have il : (l.length : Int) ≤ (i : Int) := by omega
    have HA : Hid (atI l i = 0) := by show _ = _; unfold atI; rw [if_neg hl]
    clear h hl
    go_enter Try.func74, Try.ntmps74
    go_wp2_with fail
    go_ret
    exact ⟨by rw [HA.out]; rfl, rfl⟩

def xC (l : List Int) : List Value := l.map fun x => .int .i64 x
theorem xC_snoc (l : List Int) (x : Int) : xC (l ++ [x]) = xC l ++ [.int .i64 x] := by simp [xC]
theorem own_else {w : World} {B sz : Nat} {e : TypeId} {v : Value} {n : Nat} {xs : List Value} (h : w.ownsRow B e sz v n xs) (b j : Nat) (u : Value) (hb : v.ownBlock ≠ some b) : (w.setCell ⟨b, j, none⟩ u).ownsRow B e sz v n xs := by
  refine ⟨h.1, ?_⟩
  rcases h.2 with ⟨rfl, h0⟩ | ⟨g, cap, cur, rfl, hbg, hg, h1, h2, h3, h4⟩
  · exact Or.inl ⟨rfl, h0⟩
  · refine Or.inr ⟨g, cap, cur, rfl, hbg, ?_, h1, h2, h3, h4⟩
    rw [Below.heap_setCell _ _ _ _ (fun q => hb (by simp [Value.ownBlock, q]))]
    exact hg
theorem own_type {w : World} {B sz : Nat} {e e' : TypeId} {v : Value} {n b : Nat} {xs : List Value} {cs : Array Value} (h : w.ownsRow B e sz v n xs) (hb : w.heap[b]? = some (.cells cs e')) (he : e ≠ e') : v.ownBlock ≠ some b := by
  rcases h.2 with ⟨rfl, -⟩ | ⟨g, cap, cur, rfl, -, hg, -⟩
  · intro q; cases q
  · intro q
    obtain rfl : g = b := by simpa [Value.ownBlock] using q
    rw [hg] at hb
    injection hb with hb
    injection hb with _ q2 _
    exact he q2
theorem row_far {w : World} {B B' sz sz' n n' : Nat} {e e' : TypeId} {v v' : Value} {xs xs' : List Value} (h : w.ownsRow B e sz v n xs) (h' : w.ownsRow B' e' sz' v' n' xs') (he : e ≠ e') : v.ownBlock = none ∨ v.ownBlock ≠ v'.ownBlock := by
  rcases h.2 with ⟨rfl, -⟩ | ⟨g, cap, cur, rfl, -, hg, -⟩
  · exact Or.inl rfl
  · refine Or.inr fun q => ?_
    rcases h'.2 with ⟨rfl, -⟩ | ⟨g', cap', cur', rfl, -, hg', -⟩
    · cases q
    · obtain rfl : g = g' := by simpa [Value.ownBlock] using q
      rw [hg] at hg'
      injection hg' with hg'
      injection hg' with _ q2 _
      exact he q2
/-- The eight numbers of who is busy till when. -/
def bzC (f : Nat → Int) : Array Value := #[.int .i64 (f 0), .int .i64 (f 1), .int .i64 (f 2), .int .i64 (f 3), .int .i64 (f 4), .int .i64 (f 5), .int .i64 (f 6), .int .i64 (f 7)]
theorem bzC_set (f : Nat → Int) {k : Nat} (hk : k < 8) (x : Int) : (bzC f).setIfInBounds k (.int .i64 x) = bzC (updI f k x) := by
  rcases (by omega : k = 0 ∨ k = 1 ∨ k = 2 ∨ k = 3 ∨ k = 4 ∨ k = 5 ∨ k = 6 ∨ k = 7) with rfl | rfl | rfl | rfl | rfl | rfl | rfl | rfl <;> simp [bzC, updI]
theorem bzC_at {z : World} {b : Nat} {f : Nat → Int} {t : TypeId} (h : z.heap[b]? = some (.cells (bzC f) t)) {k : Nat} (hk : k < 8) : z.cell? ⟨b, k, none⟩ = some (.int .i64 (f k)) ∧ z.frozen? ⟨b, k, none⟩ = false := by
  rcases (by omega : k = 0 ∨ k = 1 ∨ k = 2 ∨ k = 3 ∨ k = 4 ∨ k = 5 ∨ k = 6 ∨ k = 7) with rfl | rfl | rfl | rfl | rfl | rfl | rfl | rfl <;> simp [World.cell?, World.frozen?, h, bzC]
theorem t_i8 : (3 : TypeId) ≠ 113 := by decide
theorem t_iev : (3 : TypeId) ≠ 66 := by decide
/-- Three rows of numbers, each in a block of its own, and who is busy till when; the box of what is handed in. -/
structure S1 (w z : World) (BX : Array Value) (vF vT vW : Value) (F T W : List Int) (bz : Nat → Int) : Prop where
  rowF : z.ownsRow (w.heap.size + 1) 3 1 vF F.length (xC F)
  rowT : z.ownsRow (w.heap.size + 1) 3 1 vT T.length (xC T)
  rowW : z.ownsRow (w.heap.size + 1) 3 1 vW W.length (xC W)
  ft : ∀ k, vF.ownBlock = some k → vT.ownBlock ≠ some k
  fw : ∀ k, vF.ownBlock = some k → vW.ownBlock ≠ some k
  tw : ∀ k, vT.ownBlock = some k → vW.ownBlock ≠ some k
  bk : z.heap[w.heap.size + 4]? = some (.cells (bzC bz) 113)
  bx : z.heap[w.heap.size]? = some (.cells BX 52)
  bel : Below w.heap.size w z
  sz : w.heap.size + 5 ≤ z.heap.size
theorem S1.quiet {w z y : World} {BX : Array Value} {vF vT vW : Value} {F T W : List Int} {bz : Nat → Int} (h : S1 w z BX vF vT vW F T W bz) (hb : Below z.heap.size z y) : S1 w y BX vF vT vW F T W bz := by
  have := h.sz
  exact ⟨owns_below h.rowF hb, owns_below h.rowT hb, owns_below h.rowW hb, h.ft, h.fw, h.tw, (hb.block _ (by omega)).trans h.bk, (hb.block _ (by omega)).trans h.bx, h.bel.trans (hb.mono (by omega)), Nat.le_trans h.sz hb.size⟩
theorem kept_of {w y w3 : World} {B sz n : Nat} {e : TypeId} {v : Value} {xs : List Value} {row : Option Nat} (h : w.ownsRow B e sz v n xs) (hy : Below w.heap.size w y) (hg : y.grownBy w3 row) (hx : ∀ k, v.ownBlock = some k → row ≠ some k) : w3.ownsRow B e sz v n xs :=
  (owns_below h hy).kept hg (by
    cases e : v.ownBlock with
    | none => exact Or.inl rfl
    | some k => exact Or.inr fun q => hx k e q.symm)
theorem block_of {w y w3 : World} {row : Option Nat} {k : Nat} (hy : Below w.heap.size w y) (hg : y.grownBy w3 row) (hk : k < w.heap.size) (hr : row ≠ some k) : w3.heap[k]? = w.heap[k]? := by
  have := hy.size
  rw [hg.block k (by omega) (fun q => hr q.symm)]
  exact hy.block k hk
/-- Another row grows: nothing of these is touched. -/
theorem S1.kept {w z y w3 : World} {BX : Array Value} {vF vT vW : Value} {F T W : List Int} {bz : Nat → Int} {row : Option Nat} (h : S1 w z BX vF vT vW F T W bz) (hy : Below z.heap.size z y) (hg : y.grownBy w3 row) (h0 : ∀ k, row = some k → w.heap.size + 1 ≤ k ∧ k ≠ w.heap.size + 4 ∧ vF.ownBlock ≠ some k ∧ vT.ownBlock ≠ some k ∧ vW.ownBlock ≠ some k) : S1 w w3 BX vF vT vW F T W bz := by
  have hs := h.sz
  have := hy.size
  have := hg.size
  exact ⟨kept_of h.rowF hy hg (fun k e q => (h0 k q).2.2.1 e), kept_of h.rowT hy hg (fun k e q => (h0 k q).2.2.2.1 e), kept_of h.rowW hy hg (fun k e q => (h0 k q).2.2.2.2 e), h.ft, h.fw, h.tw,
    (block_of hy hg (by omega) (fun q => (h0 _ q).2.1 rfl)).trans h.bk, (block_of hy hg (by omega) (fun q => by have := (h0 _ q).1; omega)).trans h.bx,
    Below.grown (h.bel.trans (hy.mono (by omega))) hg (by omega) (fun k q => by have := (h0 k q).1; omega), by omega⟩
theorem S1.pushF {w z y w3 : World} {BX : Array Value} {vF vT vW : Value} {F T W : List Int} {bz : Nat → Int} {gg cp : Nat} (h : S1 w z BX vF vT vW F T W bz) (hy : Below z.heap.size z y) (hg : y.grownBy w3 vF.ownBlock) (x : Int) (ho : w3.ownsRow (w.heap.size + 1) 3 1 (.slice (some ⟨gg, 0, none⟩) (F.length + 1) cp) (F.length + 1) (xC F ++ [.int .i64 x])) (hat : vF.ownBlock = some gg ∨ z.heap.size ≤ gg) :
    S1 w w3 BX (.slice (some ⟨gg, 0, none⟩) (F.length + 1) cp) vT vW (F ++ [x]) T W bz := by
  have hs := h.sz
  have h1 := hy.size
  have h2 := hg.size
  have nb : vF.ownBlock ≠ some (w.heap.size + 4) := own_type h.rowF h.bk t_i8
  have lo : ∀ k, vF.ownBlock = some k → w.heap.size + 1 ≤ k := fun k q => (owns_lt h.rowF k q).1
  refine ⟨by rw [xC_snoc, List.length_append]; exact ho, kept_of h.rowT hy hg (fun k e q => h.ft k q e), kept_of h.rowW hy hg (fun k e q => h.fw k q e), fun k q => ?_, fun k q => ?_, h.tw,
    (block_of hy hg (by omega) nb).trans h.bk, (block_of hy hg (by omega) (fun q => by have := lo _ q; omega)).trans h.bx,
    Below.grown (h.bel.trans (hy.mono (by omega))) hg (by omega) (fun k q => by have := lo k q; omega), by omega⟩
  · obtain rfl : gg = k := by simpa [Value.ownBlock] using q
    rcases hat with a | a
    · exact h.ft gg a
    · intro r; have := (owns_lt h.rowT gg r).2; omega
  · obtain rfl : gg = k := by simpa [Value.ownBlock] using q
    rcases hat with a | a
    · exact h.fw gg a
    · intro r; have := (owns_lt h.rowW gg r).2; omega
theorem S1.pushT {w z y w3 : World} {BX : Array Value} {vF vT vW : Value} {F T W : List Int} {bz : Nat → Int} {gg cp : Nat} (h : S1 w z BX vF vT vW F T W bz) (hy : Below z.heap.size z y) (hg : y.grownBy w3 vT.ownBlock) (x : Int) (ho : w3.ownsRow (w.heap.size + 1) 3 1 (.slice (some ⟨gg, 0, none⟩) (T.length + 1) cp) (T.length + 1) (xC T ++ [.int .i64 x])) (hat : vT.ownBlock = some gg ∨ z.heap.size ≤ gg) :
    S1 w w3 BX vF (.slice (some ⟨gg, 0, none⟩) (T.length + 1) cp) vW F (T ++ [x]) W bz := by
  have hs := h.sz
  have h1 := hy.size
  have h2 := hg.size
  have nb : vT.ownBlock ≠ some (w.heap.size + 4) := own_type h.rowT h.bk t_i8
  have lo : ∀ k, vT.ownBlock = some k → w.heap.size + 1 ≤ k := fun k q => (owns_lt h.rowT k q).1
  refine ⟨kept_of h.rowF hy hg (fun k e q => h.ft k e q), by rw [xC_snoc, List.length_append]; exact ho, kept_of h.rowW hy hg (fun k e q => h.tw k q e), fun k q => ?_, h.fw, fun k q => ?_,
    (block_of hy hg (by omega) nb).trans h.bk, (block_of hy hg (by omega) (fun q => by have := lo _ q; omega)).trans h.bx,
    Below.grown (h.bel.trans (hy.mono (by omega))) hg (by omega) (fun k q => by have := lo k q; omega), by omega⟩
  · intro r
    obtain rfl : gg = k := by simpa [Value.ownBlock] using r
    rcases hat with a | a
    · exact h.ft gg q a
    · have := (owns_lt h.rowF gg q).2; omega
  · obtain rfl : gg = k := by simpa [Value.ownBlock] using q
    rcases hat with a | a
    · exact h.tw gg a
    · intro r; have := (owns_lt h.rowW gg r).2; omega
theorem S1.pushW {w z y w3 : World} {BX : Array Value} {vF vT vW : Value} {F T W : List Int} {bz : Nat → Int} {gg cp : Nat} (h : S1 w z BX vF vT vW F T W bz) (hy : Below z.heap.size z y) (hg : y.grownBy w3 vW.ownBlock) (x : Int) (ho : w3.ownsRow (w.heap.size + 1) 3 1 (.slice (some ⟨gg, 0, none⟩) (W.length + 1) cp) (W.length + 1) (xC W ++ [.int .i64 x])) (hat : vW.ownBlock = some gg ∨ z.heap.size ≤ gg) :
    S1 w w3 BX vF vT (.slice (some ⟨gg, 0, none⟩) (W.length + 1) cp) F T (W ++ [x]) bz := by
  have hs := h.sz
  have h1 := hy.size
  have h2 := hg.size
  have nb : vW.ownBlock ≠ some (w.heap.size + 4) := own_type h.rowW h.bk t_i8
  have lo : ∀ k, vW.ownBlock = some k → w.heap.size + 1 ≤ k := fun k q => (owns_lt h.rowW k q).1
  refine ⟨kept_of h.rowF hy hg (fun k e q => h.fw k e q), kept_of h.rowT hy hg (fun k e q => h.tw k e q), by rw [xC_snoc, List.length_append]; exact ho, h.ft, fun k q => ?_, fun k q => ?_,
    (block_of hy hg (by omega) nb).trans h.bk, (block_of hy hg (by omega) (fun q => by have := lo _ q; omega)).trans h.bx,
    Below.grown (h.bel.trans (hy.mono (by omega))) hg (by omega) (fun k q => by have := lo k q; omega), by omega⟩
  · intro r
    obtain rfl : gg = k := by simpa [Value.ownBlock] using r
    rcases hat with a | a
    · exact h.fw gg q a
    · have := (owns_lt h.rowF gg q).2; omega
  · intro r
    obtain rfl : gg = k := by simpa [Value.ownBlock] using r
    rcases hat with a | a
    · exact h.tw gg q a
    · have := (owns_lt h.rowT gg q).2; omega
theorem S1.setB {w z : World} {BX : Array Value} {vF vT vW : Value} {F T W : List Int} {bz : Nat → Int} (h : S1 w z BX vF vT vW F T W bz) {k : Nat} (hk : k < 8) (x : Int) : S1 w (z.setCell ⟨w.heap.size + 4, k, none⟩ (.int .i64 x)) BX vF vT vW F T W (updI bz k x) := by
  have hs := h.sz
  refine ⟨own_else h.rowF _ _ _ (own_type h.rowF h.bk t_i8), own_else h.rowT _ _ _ (own_type h.rowT h.bk t_i8), own_else h.rowW _ _ _ (own_type h.rowW h.bk t_i8), h.ft, h.fw, h.tw, ?_, ?_, h.bel.setCell (p := ⟨w.heap.size + 4, k, none⟩) (by show w.heap.size ≤ w.heap.size + 4; omega) _, by simpa using hs⟩
  · rw [← bzC_set _ hk]
    simp [World.setCell, Array.getElem?_modify, h.bk]
  · rw [Below.heap_setCell _ _ _ _ (by show w.heap.size ≠ w.heap.size + 4; omega)]
    exact h.bx
end Go.Proofs.Ytljidfaeljpnpaa
