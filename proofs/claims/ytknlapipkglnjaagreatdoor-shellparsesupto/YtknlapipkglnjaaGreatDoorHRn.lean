
/- Layer 28: the program's readNumbers. -/

import Derived.Test.YtknlapipkglnjaaGreatDoorHKo

import Derived.Test.YtknlapipkglnjaaGreatDoorHNb

import Derived.Test.YtknlapipkglnjaaGreatDoorHNew

namespace Go.Proofs.YtknlapipkglnjaaGreatDoor

open Go.RowKit

attribute [local go_sem ↓] Go.wp_at_zero Go.wp_at_succ

def boxC (o : OpD) : Array Value := #[.int .i64 o.kind, .int .i64 o.key, .int .i64 o.val, .int .i64 o.hi]
/-- The box of an operation that is being read. -/
structure Bx (B : Nat) (w wr : World) (k b g : Nat) (V : List Int) : Prop where
  below : Below B w wr
  lo : B ≤ b
  ne : g ≠ b
  ptr : ∀ (j f : Nat), (fldL k)[j]? = some f → wr.cell? ⟨g, j, none⟩ = some (.pointer (some ⟨b, f, none⟩))
  box : wr.heap[b]? = some (.cells (boxC (fillOp k V)) 39)
theorem Bx.on {B : Nat} {w wr wz : World} {k b g : Nat} {V : List Int} (h : Bx B w wr k b g V) (hb : Below wr.heap.size wr wz) : Bx B w wz k b g V := by
  have hlt : b < wr.heap.size := (Array.getElem?_eq_some_iff.1 h.box).1
  refine ⟨h.below.trans (hb.mono (by have := h.lo; omega)), h.lo, h.ne, fun j f q => ?_, (hb.block b hlt).trans h.box⟩
  have := h.ptr j f q
  exact (hb.cell (p := ⟨g, j, none⟩) (World.block_lt_of_cell? wr _ this)).trans this
theorem fld_fill {k f : Nat} {V : List Int} {v : Int} (h : (fldL k)[V.length]? = some f) : (boxC (fillOp k V)).setIfInBounds f (.int .i64 v) = boxC (fillOp k (V ++ [v])) := by
  unfold fldL at h
  by_cases h1 : k = 1 ∨ k = 4 ∨ k = 5 ∨ k = 6
  · rw [if_pos h1] at h
    match V, h with
    | [], h => obtain rfl : 1 = f := by simpa using h
               simp [boxC, fillOp]
    | _ :: _, h => simp at h
  · rw [if_neg h1] at h
    by_cases h2 : k = 2 ∨ k = 3
    · rw [if_pos h2] at h
      have h9 : k ≠ 9 := by omega
      match V, h with
      | [], h => obtain rfl : 1 = f := by simpa using h
                 simp [boxC, fillOp]
      | [a], h => obtain rfl : 2 = f := by simpa using h
                  simp [boxC, fillOp, h9]
      | _ :: _ :: _, h => simp at h
    · rw [if_neg h2] at h
      by_cases h3 : k = 9
      · rw [if_pos h3] at h
        match V, h with
        | [], h => obtain rfl : 1 = f := by simpa using h
                   simp [boxC, fillOp]
        | [a], h => obtain rfl : 3 = f := by simpa using h
                    simp [boxC, fillOp, h3]
        | _ :: _ :: _, h => simp at h
      · rw [if_neg h3] at h
        simp at h
theorem Bx.set {B : Nat} {w wr : World} {k b g f : Nat} {V : List Int} (h : Bx B w wr k b g V) (hf : (fldL k)[V.length]? = some f) (v : Int) : Bx B w (wr.setCell ⟨b, f, none⟩ (.int .i64 v)) k b g (V ++ [v]) := by
  refine ⟨h.below.setCell h.lo _, h.lo, h.ne, fun j f' q => ?_, ?_⟩
  · have := h.ptr j f' q
    simp only [World.cell?] at this ⊢
    rw [Below.heap_setCell _ _ _ _ (by simpa using h.ne)]
    exact this
  · rw [Go.Joins.block_setCell h.box, fld_fill hf]
theorem Bx.cell {B : Nat} {w wr : World} {k b g f : Nat} {V : List Int} (h : Bx B w wr k b g V) (hf : 1 ≤ f ∧ f ≤ 3) : (∃ x, wr.cell? ⟨b, f, none⟩ = some (.int .i64 x)) ∧ wr.frozen? ⟨b, f, none⟩ = false := by
  refine ⟨?_, by simp [World.frozen?, h.box]⟩
  simp only [World.cell?, h.box]
  rcases (by omega : f = 1 ∨ f = 2 ∨ f = 3) with rfl | rfl | rfl
  · exact ⟨_, rfl⟩
  · exact ⟨_, rfl⟩
  · exact ⟨_, rfl⟩
def RnOut (ws : List (List UInt8)) (B : Nat) (w w' : World) (k b g : Nat) (e : Ending) : Prop :=
  (∃ V : List Int, ws.length = (fldL k).length ∧ V.length = (fldL k).length ∧ (∀ m, m < V.length → numOf (ws.getD m []) = some (V.getD m 0)) ∧ e = .returned (.bool true) ∧ Bx B w w' k b g V) ∨
  ((∀ V : List Int, ¬ (ws.length = (fldL k).length ∧ V.length = (fldL k).length ∧ ∀ m, m < V.length → numOf (ws.getD m []) = some (V.getD m 0))) ∧ e = .returned (.bool false) ∧ Below B w w')
set_option maxRecDepth 100000 in
set_option maxHeartbeats 4000000 in
theorem readNumbers_any (ws : List (List UInt8)) (k b g g0 o cap B : Nat) (base wb : Option Addr) (w : World) (hbs : ws ≠ [] → base = some ⟨g0, o, none⟩) (hwb : (fldL k).length ≠ 0 → wb = some ⟨g, 0, none⟩)
    (hc : ∀ j, j < ws.length → w.cell? ⟨g0, o + j, none⟩ = some (.string ⟨(ws.getD j []).toArray⟩)) (hg0 : g0 < B) (hw : ∀ j, (ws.getD j []).length ≤ 4294967296) (hn : ws.length ≤ 4294967296) (hB : Bx B w w k b g []) (hE : HEB B w) :
    Calls Tryz.prog 69 #[.slice base ws.length cap, .slice wb (fldL k).length (fldL k).length] w fun e w' => RnOut ws B w w' k b g e := by
  have n0 : (ws.length : Int) ≤ 4294967296 := by omega
  have hF2 := fld_len k
  obtain ⟨n, hnn⟩ : ∃ n, n = (fldL k).length := ⟨_, rfl⟩
  have HNN : Hid (n = (fldL k).length) := hnn
  have HWB : Hid ((fldL k).length ≠ 0 → wb = some ⟨g, 0, none⟩) := hwb
  have HBS : Hid (ws ≠ [] → base = some ⟨g0, o, none⟩) := hbs
  have HC : Hid (∀ j, j < ws.length → w.cell? ⟨g0, o + j, none⟩ = some (.string ⟨(ws.getD j []).toArray⟩)) := hc
  have HW : Hid (∀ j, (ws.getD j []).length ≤ 4294967296) := hw
  have HB : Hid (Bx B w w k b g []) := hB
  have HE : Hid (HEB B w) := hE
  rw [← hnn] at hF2 ⊢
  clear hnn hwb hbs hc hw hB hE hn
  by_cases hl : ws.length = n
  · have HLn : Hid (ws.length = n) := hl
    rw [hl]
    clear hl n0
    have n0 : (n : Int) ≤ 2 := by omega
    go_enter Tryz.func69, Tryz.ntmps69
    go_wp2_with fail
    go_loopw [16] (fun vi wr => ∃ (i : Nat) (V : List Int), V.length = i ∧ i ≤ n ∧ vi = .int .i64 i ∧ (∀ m, m < V.length → numOf (ws.getD m []) = some (V.getD m 0)) ∧ Bx B w wr k b g V) (fun vi _ => n - (intOf vi).toNat)
    case atStart => exact ⟨0, [], rfl, Nat.zero_le _, rfl, fun m h => (by cases h), HB.out⟩
    case round =>
      obtain ⟨i, V, hVi, hin, rfl, hV, hbx⟩ := hrel
      rename World => wr
      have HV : Hid (∀ m, m < V.length → numOf (ws.getD m []) = some (V.getD m 0)) := hV
      have BX : Hid (Bx B w wr k b g V) := hbx
      have hBs : B ≤ wr.heap.size := by have h1 := (Array.getElem?_eq_some_iff.1 hbx.box).1; have h2 := hbx.lo; omega
      clear hV hbx
      have HVI : Hid (V.length = i) := hVi
      clear hVi
      by_cases hi : i < n
      · have j0 : (0 : Int) ≤ (i : Int) := Int.natCast_nonneg _
        have j1 : (i : Int) < (n : Int) := by omega
        obtain rfl := HBS.out (by intro q; have hl := HLn.out; rw [q] at hl; simp at hl; omega)
        obtain rfl := HWB.out (by rw [← HNN.out]; omega)
        obtain ⟨f, hf⟩ : ∃ f, (fldL k)[i]? = some f := ⟨_, List.getElem?_eq_getElem (by rw [← HNN.out]; exact hi)⟩
        have HF : Hid ((fldL k)[i]? = some f) := hf
        have c1 : wr.cell? ⟨g0, o + i, none⟩ = some (.string ⟨(ws.getD i []).toArray⟩) := (BX.out.below.cell (p := ⟨g0, o + i, none⟩) hg0).trans (HC.out i (by rw [HLn.out]; exact hi))
        have HEr : HEB wr.heap.size wr := ⟨fun w' h' => HE.out.1 w' (BX.out.below.trans (h'.mono hBs)), fun w' h' => HE.out.2 w' (BX.out.below.trans (h'.mono hBs))⟩
        have RD := numberOf_any (ws.getD i []) (HW.out i) wr HEr
        clear hf HEr
        cases hnum : numOf (ws.getD i []) with
        | none =>
          have RA : Hid (Calls Tryz.prog 88 #[.string ⟨(ws.getD i []).toArray⟩] wr fun e w' => (∃ x : Int, e = .returned (.tuple #[.int .i64 x, .bool false])) ∧ Below wr.heap.size wr w') := RD.mono (by rintro e w' ⟨h1, h2⟩; unfold NbOut at h1; rw [hnum] at h1; exact ⟨h1, h2⟩)
          have HN : Hid (∀ V : List Int, ¬ (ws.length = (fldL k).length ∧ V.length = (fldL k).length ∧ ∀ m, m < V.length → numOf (ws.getD m []) = some (V.getD m 0))) := fun U q => by
            have q1 := q.2.2 i (by rw [q.2.1, ← HNN.out]; exact hi)
            rw [hnum] at q1
            cases q1
          clear RD hnum
          generalize ws.getD i [] = L at *
          go_wp2_with (first | (go_at_call 88; refine RA.out.mono ?_; rintro e w2 ⟨⟨x, rfl⟩, hb2⟩; have B2 : Hid (Below B w w2) := BX.out.below.trans (hb2.mono hBs); clear hb2))
          go_ret
          exact Or.inr ⟨HN.out, rfl, B2.out⟩
        | some v =>
          have RA : Hid (Calls Tryz.prog 88 #[.string ⟨(ws.getD i []).toArray⟩] wr fun e w' => e = .returned (.tuple #[.int .i64 v, .bool true]) ∧ Below wr.heap.size wr w') := RD.mono (by rintro e w' ⟨h1, h2⟩; unfold NbOut at h1; rw [hnum] at h1; exact ⟨h1, h2⟩)
          have HS : Hid (∀ m, m < (V ++ [v]).length → numOf (ws.getD m []) = some ((V ++ [v]).getD m 0)) := fun m hm => by
            by_cases e : m < V.length
            · rw [HV.out m e, List.getD_eq_getElem?_getD, List.getD_eq_getElem?_getD, List.getElem?_append_left e]
            · have : m = V.length := by simp at hm; omega
              subst this
              rw [HVI.out, hnum, ← HVI.out]
              simp
          clear RD hnum
          generalize ws.getD i [] = L at *
          go_wp2_with (first | (go_at_call 88; refine RA.out.mono ?_; rintro e w2 ⟨rfl, hb2⟩; have T2 : Hid (Bx B w w2 k b g V) := BX.out.on hb2; have c2 := T2.out.ptr i f HF.out; obtain ⟨⟨y, c3⟩, c4⟩ := T2.out.cell (fld_le k f (List.mem_of_getElem? HF.out)); clear hb2))
          exact ⟨⟨i + 1, V ++ [v], by have := HVI.out; simp; omega, by omega, by go_num, HS.out, T2.out.set (by rw [HVI.out]; exact HF.out) v⟩, by simp [intOf]; omega⟩
      · obtain rfl : i = n := by omega
        clear hi
        go_wp2_with fail
        go_ret
        exact Or.inl ⟨V, by rw [HLn.out, HNN.out], by rw [HVI.out, HNN.out], HV.out, rfl, BX.out⟩
  · have hl' : ((ws.length : Int) == (n : Int)) = false := beq_eq_false_iff_ne.2 (by omega)
    have HN : Hid (∀ V : List Int, ¬ (ws.length = (fldL k).length ∧ V.length = (fldL k).length ∧ ∀ m, m < V.length → numOf (ws.getD m []) = some (V.getD m 0))) := fun V q => hl (by rw [q.1, HNN.out])
    clear hl
    go_enter Tryz.func69, Tryz.ntmps69
    go_wp2_with fail
    go_ret
    exact Or.inr ⟨HN.out, rfl, Below.refl _ _⟩
end Go.Proofs.YtknlapipkglnjaaGreatDoor
