
/- Layer 17: Reds, Overs, Total. Layer 17: Overs; isLightLeaf; even. Layer 17: even, Even, Sound. Layer 17: Even, Sound. Layer 17: Sound. -/

import Derived.Test.YthdfpddijocfkaaWCopy

import Derived.Deep.RegionHeld3

import Derived.Deep.CutRange

namespace Go.Proofs.Ythdfpddijocfkaa

open Go.RowKit

attribute [local go_sem ↓] Go.wp_at_zero Go.wp_at_succ

/-- A row of numbers that is ours. -/
structure JRow (w0 x : World) (v : Value) (V : List Int) : Prop where
  own : x.ownsRow w0.heap.size 3 1 v V.length (isC V)
  below : Below w0.heap.size w0 x
theorem JRow.grown {w0 x y : World} {v v' : Value} {V : List Int} {q : Int} {o : Obj} (h : JRow w0 x v V) (hg : (x.alloc o).grownBy y v.ownBlock) (ho : y.ownsRow w0.heap.size 3 1 v' (V.length + 1) (isC V ++ [.int .i64 q])) : JRow w0 y v' (V ++ [q]) :=
  ⟨by rw [List.length_append, isC_append]; exact ho, Below.grown (h.below.alloc h.below.size o) hg (by rw [World.size_alloc]; have := h.below.size; omega) (fun k hk => (owns_lt h.own k hk).1)⟩

/-- The weights of the first m nodes. -/
def totN (K : NL) : Nat → Int
  | 0 => 0
  | m + 1 => totN K m + (ndAt K m).wt
theorem totN_le {K : NL} (h : ∀ i, i < K.length → NodeOk (ndAt K i) K.length) : ∀ m, m ≤ K.length → 0 ≤ totN K m ∧ totN K m ≤ 1000000 * (m : Int)
  | 0, _ => by simp [totN]
  | m + 1, hm => by
    have h1 := totN_le h m (by omega)
    have h2 := h m (by omega)
    have w1 := h2.2.2.1
    have w2 := h2.2.2.2
    simp only [totN]
    omega
theorem keys_bad {t : NL} (he : keyE t ≠ 0) : keysA t = [] := by
  unfold keysA
  rw [if_neg]
  intro h
  apply he
  unfold keyE
  rw [if_neg (by omega), h]
end Go.Proofs.Ythdfpddijocfkaa

namespace Go.Proofs.Ythdfpddijocfkaa

open Go.RowKit

attribute [local go_sem ↓] Go.wp_at_zero Go.wp_at_succ

/-- The keys of the overs among the first m nodes. -/
def ovsL (K : NL) : Nat → List Int
  | 0 => []
  | m + 1 => ovsL K m ++ (if overQ (ndAt K m).wt then [(ndAt K m).key] else [])
theorem ovsL_len (K : NL) : ∀ m, (ovsL K m).length ≤ m
  | 0 => by simp [ovsL]
  | m + 1 => by
    have := ovsL_len K m
    simp only [ovsL, List.length_append]
    split <;> simp <;> omega
theorem JRow.quiet {w0 x y : World} {v : Value} {V : List Int} (h : JRow w0 x v V) (hb : Below x.heap.size x y) : JRow w0 y v V := ⟨owns_below h.own hb, h.below.trans (hb.mono h.below.size)⟩
/-- The least and the greatest of the first m + 1 numbers. -/
def minN (L : List Int) : Nat → Int
  | 0 => L.getD 0 0
  | m + 1 => min (minN L m) (L.getD (m + 1) 0)
def maxN (L : List Int) : Nat → Int
  | 0 => L.getD 0 0
  | m + 1 => max (maxN L m) (L.getD (m + 1) 0)
end Go.Proofs.Ythdfpddijocfkaa

namespace Go.Proofs.Ythdfpddijocfkaa

open Go.RowKit

attribute [local go_sem ↓] Go.wp_at_zero Go.wp_at_succ
/-- even's answer. -/
def evS (L : List Int) : Int := if L.length = 0 then 0 else if minN L (L.length - 1) = maxN L (L.length - 1) then L.getD 0 0 else 0
def evB (L : List Int) : Bool := if L.length = 0 then true else decide (minN L (L.length - 1) = maxN L (L.length - 1))
end Go.Proofs.Ythdfpddijocfkaa

namespace Go.Proofs.Ythdfpddijocfkaa

open Go.RowKit

attribute [local go_sem ↓] Go.wp_at_zero Go.wp_at_succ
def lightB (n : NdD) : Bool := rleafB n && n.wt == 0
/-- Is there a light leaf among the nodes? -/
def lightN (K : NL) : Nat → Bool
  | 0 => false
  | m + 1 => lightN K m || lightB (ndAt K m)
theorem lightN_up {K : NL} {m n : Nat} (h : m ≤ n) (hq : lightN K m = true) : lightN K n = true := by
  induction n with
  | zero => obtain rfl : m = 0 := by omega
            exact hq
  | succ n ih =>
    by_cases e : m = n + 1
    · rw [← e]; exact hq
    · simp only [lightN]; rw [ih (by omega)]; rfl
end Go.Proofs.Ythdfpddijocfkaa

namespace Go.Proofs.Ythdfpddijocfkaa

open Go.RowKit

attribute [local go_sem ↓] Go.wp_at_zero Go.wp_at_succ

noncomputable def sndB (t : NL) (k : Option BT) : Bool := if keyE t ≠ 0 then false else if (keysA t).length = 0 then true else evB (sumsO k) && ((ndAt (keysA t) 0).wt == 1 && !lightN (keysA t) (keysA t).length)
end Go.Proofs.Ythdfpddijocfkaa
