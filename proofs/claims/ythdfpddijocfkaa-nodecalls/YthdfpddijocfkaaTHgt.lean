
/- Layer 16: Height of both. -/

import Derived.Test.YthdfpddijocfkaaTSrch

namespace Go.Proofs.Ythdfpddijocfkaa

open Go.RowKit

attribute [local go_sem ↓] Go.wp_at_zero Go.wp_at_succ

theorem up_pos (t : NL) (x : Nat) (hx : x ≠ 0) : ∀ i, 0 ≤ upN t i x ∧ (upN t i x = 0 ∨ upN t i x < i)
  | 0 => by simp [upN, hx]
  | i + 1 => by
    obtain ⟨h1, h2⟩ := up_pos t x hx i
    unfold upN
    by_cases h : (ndAt t i).l = (x : Int) ∨ (ndAt t i).r = (x : Int)
    · rw [if_pos h]; omega
    · rw [if_neg h]; omega
/-- How deep each place lies, behind j places of T. -/
def dpN (u : Nat → Nat) (T : List Nat) : Nat → Nat → Int
  | 0, _ => 0
  | j + 1, x => if x = T.getD j 0 then dpN u T j (u (T.getD j 0)) + 1 else dpN u T j x
def mxN (u : Nat → Nat) (T : List Nat) : Nat → Int
  | 0 => 0
  | j + 1 => max (mxN u T j) (dpN u T j (u (T.getD j 0)) + 1)
theorem dp_bound (u : Nat → Nat) (T : List Nat) : ∀ (j x : Nat), 0 ≤ dpN u T j x ∧ dpN u T j x ≤ j
  | 0, _ => by simp [dpN]
  | j + 1, x => by
    have h1 := dp_bound u T j (u (T.getD j 0))
    have h2 := dp_bound u T j x
    unfold dpN
    by_cases h : x = T.getD j 0
    · rw [if_pos h]; omega
    · rw [if_neg h]; omega
def uN (t : NL) (x : Nat) : Nat := (upN t t.length x).toNat
theorem uN_eq {t : NL} {x : Nat} (hx : x ≠ 0) : upN t t.length x = (uN t x : Int) := by
  have := (up_pos t x hx t.length).1
  unfold uN
  omega
theorem uN_lt {t : NL} {x : Nat} (hx : x ≠ 0) (hp : 0 < t.length) : uN t x < t.length := by
  have := up_pos t x hx t.length
  unfold uN
  omega
open Classical in
noncomputable def hgtA (t : NL) : Int := if formE t = 0 then mxN (uN t) (theL t 0).tail (theL t 0).tail.length else 0
theorem tail_facts {t : NL} (hf : InForm t) : ∃ T, Tree t 0 (0 :: T) ∧ theL t 0 = 0 :: T ∧ T.length + 1 = t.length ∧ ∀ j, j < T.length → T.getD j 0 ≠ 0 ∧ T.getD j 0 < t.length := by
  obtain ⟨hT, hN, hlen⟩ := theL_form hf
  obtain ⟨T, hX⟩ : ∃ T, theL t 0 = 0 :: T := by
    generalize theL t 0 = X at hT
    cases hT <;> exact ⟨_, rfl⟩
  rw [hX] at hT hN hlen
  refine ⟨T, hT, hX, by simpa using hlen, fun j hj => ?_⟩
  have hm : T.getD j 0 ∈ T := by rw [List.getD_eq_getElem?_getD, List.getElem?_eq_getElem hj]; exact List.getElem_mem hj
  exact ⟨fun q => (List.nodup_cons.1 hN).1 (q ▸ hm), hT.all _ (List.mem_cons_of_mem _ hm)⟩
theorem owns_ints {w : World} {g n c B : Nat} {L : List Nat} (h : w.ownsRow B 3 1 (.slice (some ⟨g, 0, none⟩) n c) n (natC L)) (hn : 0 < n) (hL : L.length = n) : Ints w g n (fun i => ((L.getD i 0 : Nat) : Int)) := by
  obtain ⟨g', c', hv, -, -, -, -, hc, hfr⟩ := owns_some h hn
  injection hv with h1 _ _
  injection h1 with h1
  injection h1 with h1 _ _
  subst h1
  intro j hj
  refine ⟨?_, hfr j⟩
  rw [hc j (by omega)]
  simp [natC, List.getD_eq_getElem?_getD, List.getElem?_eq_getElem (show j < L.length by omega)]

/-- What Height's loop has: the parents, the places, and how deep they lie. -/
structure HAt (w0 x : World) (gu gd gr : Nat) (t : NL) (T : List Nat) (j : Nat) : Prop where
  ups : Ints x gu t.length (fun y => upN t t.length y)
  deep : Ints x gd t.length (fun y => dpN (uN t) T j y)
  rows : Ints x gr (T.length + 1) (fun i => (((0 :: T).getD i 0 : Nat) : Int))
  lt : gr < x.heap.size
  below : Below w0.heap.size w0 x
theorem HAt.set {w0 x : World} {gu gd gr j : Nat} {t : NL} {T : List Nat} (h : HAt w0 x gu gd gr t T j) (hu : gu ≠ gd) (hr : gr ≠ gd) (hd : w0.heap.size ≤ gd) (hx : T.getD j 0 < t.length) : HAt w0 (x.setCell ⟨gd, T.getD j 0, none⟩ (.int .i64 (dpN (uN t) T j (uN t (T.getD j 0)) + 1))) gu gd gr t T (j + 1) :=
  ⟨h.ups.apart gd _ _ (Ne.symm hu), (h.deep.set _ _ hx).fn fun y _ => rfl, h.rows.apart gd _ _ (Ne.symm hr), by simpa using h.lt, h.below.setCell hd _⟩
theorem HAt.drew {w0 x : World} {gu gd gr j : Nat} {t : NL} {T : List Nat} (h : HAt w0 x gu gd gr t T j) : HAt w0 x.drew gu gd gr t T j := ⟨h.ups, h.deep, h.rows, h.lt, h.below.drew⟩

-- WALKS
end Go.Proofs.Ythdfpddijocfkaa
