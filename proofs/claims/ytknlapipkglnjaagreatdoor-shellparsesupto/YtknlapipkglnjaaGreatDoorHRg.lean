
/- Layer 28: the program's readNumbers, into whatever numbers are wanted. -/

import Derived.Test.YtknlapipkglnjaaGreatDoorHRn

namespace Go.Proofs.YtknlapipkglnjaaGreatDoor

open Go.RowKit

attribute [local go_sem ↓] Go.wp_at_zero Go.wp_at_succ

/-- The numbers stored, one behind the other. -/
def setAll (w : World) : List (Nat × Nat) → List Int → World
  | p :: P, v :: V => setAll (w.setCell ⟨p.1, p.2, none⟩ (.int .i64 v)) P V
  | _, _ => w
theorem setAll_snoc (p : Nat × Nat) (v : Int) : ∀ (P : List (Nat × Nat)) (V : List Int) (w : World) (Q : List (Nat × Nat)), P.length = V.length → setAll w (P ++ p :: Q) (V ++ [v]) = (setAll w P V).setCell ⟨p.1, p.2, none⟩ (.int .i64 v)
  | [], [], w, Q, _ => by cases Q <;> rfl
  | [], _ :: _, _, _, h => by simp at h
  | _ :: _, [], _, _, h => by simp at h
  | a :: P, b :: V, w, Q, h => setAll_snoc p v P V (w.setCell ⟨a.1, a.2, none⟩ (.int .i64 b)) Q (by simpa using h)
theorem setAll_take : ∀ (P : List (Nat × Nat)) (V : List Int) (w : World), V.length ≤ P.length → setAll w P V = setAll w (P.take V.length) V
  | _, [], w, _ => by cases ‹List (Nat × Nat)› <;> rfl
  | [], _ :: _, _, h => by simp at h
  | a :: P, b :: V, w, h => setAll_take P V (w.setCell ⟨a.1, a.2, none⟩ (.int .i64 b)) (by simpa using h)
theorem setAll_next (P : List (Nat × Nat)) (V : List Int) (w : World) (p : Nat × Nat) (v : Int) (h : P[V.length]? = some p) : setAll w P (V ++ [v]) = (setAll w P V).setCell ⟨p.1, p.2, none⟩ (.int .i64 v) := by
  have hl : V.length < P.length := by
    rcases Nat.lt_or_ge V.length P.length with q | q
    · exact q
    · rw [List.getElem?_eq_none q] at h; cases h
  have e : P = P.take V.length ++ p :: P.drop (V.length + 1) := by
    conv => lhs; rw [← List.take_append_drop V.length P]
    congr 1
    rw [List.drop_eq_getElem_cons hl]
    rw [List.getElem?_eq_getElem hl] at h
    injection h with h
    rw [h]
  have hP := setAll_take P V w (by omega)
  rw [hP]
  conv => lhs; rw [e]
  rw [setAll_snoc p v _ V w _ (by simp; omega)]
theorem setAll_size : ∀ (P : List (Nat × Nat)) (V : List Int) (w : World), (setAll w P V).heap.size = w.heap.size
  | [], _, w => by cases ‹List Int› <;> rfl
  | _ :: _, [], w => rfl
  | a :: P, b :: V, w => by
    show (setAll (w.setCell ⟨a.1, a.2, none⟩ (.int .i64 b)) P V).heap.size = _
    rw [setAll_size P V]
    simp [World.setCell]
theorem setAll_below {B : Nat} : ∀ (P : List (Nat × Nat)) (V : List Int) (w : World), (∀ p ∈ P, B ≤ p.1) → Below B w (setAll w P V)
  | [], _, w, _ => by cases ‹List Int› <;> exact Below.refl _ _
  | _ :: _, [], w, _ => Below.refl _ _
  | a :: P, b :: V, w, h => ((Below.refl B w).setCell (p := ⟨a.1, a.2, none⟩) (h a (by simp)) _).trans (setAll_below P V _ fun p hp => h p (by simp [hp]))
theorem setAll_other (g : Nat) : ∀ (P : List (Nat × Nat)) (V : List Int) (w : World), (∀ p ∈ P, p.1 ≠ g) → (setAll w P V).heap[g]? = w.heap[g]?
  | [], _, w, _ => by cases ‹List Int› <;> rfl
  | _ :: _, [], w, _ => rfl
  | a :: P, b :: V, w, h => (setAll_other g P V _ fun p hp => h p (by simp [hp])).trans (Below.heap_setCell _ _ _ _ (fun q => h a (by simp) q.symm))
/-- A place that holds a number. -/
def IsI (w : World) (p : Nat × Nat) : Prop := ∃ cs t, w.heap[p.1]? = some (.cells cs t) ∧ ∃ x, cs[p.2]? = some (.int .i64 x)
theorem IsI.set {w : World} {p : Nat × Nat} (h : IsI w p) (q : Nat × Nat) (v : Int) : IsI (w.setCell ⟨q.1, q.2, none⟩ (.int .i64 v)) p := by
  obtain ⟨cs, t, hb, x, hx⟩ := h
  by_cases e : p.1 = q.1
  · rw [e] at hb
    refine ⟨_, t, by rw [e]; exact Go.Joins.block_setCell hb _, ?_⟩
    by_cases e2 : q.2 = p.2
    · refine ⟨v, ?_⟩
      rw [e2, Array.getElem?_setIfInBounds_self_of_lt (Array.getElem?_eq_some_iff.1 hx).1]
    · exact ⟨x, by rw [Array.getElem?_setIfInBounds_ne e2]; exact hx⟩
  · exact ⟨cs, t, (Below.heap_setCell _ _ _ _ e).trans hb, x, hx⟩
theorem IsI.all {p : Nat × Nat} : ∀ (P : List (Nat × Nat)) (V : List Int) (w : World), IsI w p → IsI (setAll w P V) p
  | [], _, w, h => by cases ‹List Int› <;> exact h
  | _ :: _, [], w, h => h
  | a :: P, b :: V, w, h => IsI.all P V _ (h.set a b)
theorem IsI.on {w z : World} {n : Nat} {p : Nat × Nat} (h : IsI w p) (hb : Below n w z) (hn : p.1 < n) : IsI z p := by
  obtain ⟨cs, t, hq, x⟩ := h
  exact ⟨cs, t, (hb.block _ hn).trans hq, x⟩
theorem IsI.cell {w : World} {p : Nat × Nat} (h : IsI w p) : (∃ x, w.cell? ⟨p.1, p.2, none⟩ = some (.int .i64 x)) ∧ w.frozen? ⟨p.1, p.2, none⟩ = false := by
  obtain ⟨cs, t, hb, x, hx⟩ := h
  exact ⟨⟨x, by simp only [World.cell?, hb]; exact hx⟩, by simp [World.frozen?, hb]⟩
theorem below_both {n : Nat} {A z : World} (h : Below n A z) (p : Nat × Nat) (v : Value) : Below n (A.setCell ⟨p.1, p.2, none⟩ v) (z.setCell ⟨p.1, p.2, none⟩ v) := by
  refine ⟨h.os, h.tape, h.output, ?_, fun b hb => ?_⟩
  · have := h.size
    simpa [World.setCell] using this
  · have := h.block b hb
    by_cases e : b = p.1
    · subst e
      simp only [World.setCell, Array.getElem?_modify]
      rw [this]
    · rw [Below.heap_setCell _ _ _ _ e, Below.heap_setCell _ _ _ _ e]
      exact this
/-- What is wanted: pointers to numbers in blocks of B and above. -/
structure Wnt (B : Nat) (w : World) (g : Nat) (P : List (Nat × Nat)) : Prop where
  ptr : ∀ (j : Nat) (p : Nat × Nat), P[j]? = some p → w.cell? ⟨g, j, none⟩ = some (.pointer (some ⟨p.1, p.2, none⟩))
  ne : ∀ p ∈ P, p.1 ≠ g
  lo : ∀ p ∈ P, B ≤ p.1
  lt : ∀ p ∈ P, p.1 < w.heap.size
  int : ∀ p ∈ P, IsI w p
/-- So far, V has been stored. -/
structure Pts (B : Nat) (w wr : World) (g : Nat) (P : List (Nat × Nat)) (V : List Int) : Prop where
  wnt : Wnt B w g P
  now : Below w.heap.size (setAll w P V) wr
theorem Pts.below {B g : Nat} {w wr : World} {P : List (Nat × Nat)} {V : List Int} (h : Pts B w wr g P V) (hB : B ≤ w.heap.size) : Below B w wr := (setAll_below P V w h.wnt.lo).trans (h.now.mono hB)
theorem Pts.on {B g : Nat} {w wr wz : World} {P : List (Nat × Nat)} {V : List Int} (h : Pts B w wr g P V) (hb : Below wr.heap.size wr wz) : Pts B w wz g P V := ⟨h.wnt, h.now.trans (hb.mono (by have := h.now.size; rw [setAll_size] at this; exact this))⟩
theorem Pts.ptr {B g : Nat} {w wr : World} {P : List (Nat × Nat)} {V : List Int} (h : Pts B w wr g P V) (j : Nat) (p : Nat × Nat) (hj : P[j]? = some p) : wr.cell? ⟨g, j, none⟩ = some (.pointer (some ⟨p.1, p.2, none⟩)) := by
  have h1 := h.wnt.ptr j p hj
  have hg : g < w.heap.size := World.block_lt_of_cell? w _ h1
  have h2 := (h.now.block g hg).trans (setAll_other g P V w h.wnt.ne)
  exact (World.cell?_of_block (a := ⟨g, j, none⟩) h2).trans h1
theorem Pts.cell {B g : Nat} {w wr : World} {P : List (Nat × Nat)} {V : List Int} (h : Pts B w wr g P V) (p : Nat × Nat) (hp : p ∈ P) : (∃ x, wr.cell? ⟨p.1, p.2, none⟩ = some (.int .i64 x)) ∧ wr.frozen? ⟨p.1, p.2, none⟩ = false :=
  (((h.wnt.int p hp).all P V).on h.now (h.wnt.lt p hp)).cell
theorem Pts.set {B g : Nat} {w wr : World} {P : List (Nat × Nat)} {V : List Int} (h : Pts B w wr g P V) {p : Nat × Nat} (hp : P[V.length]? = some p) (v : Int) : Pts B w (wr.setCell ⟨p.1, p.2, none⟩ (.int .i64 v)) g P (V ++ [v]) := by
  refine ⟨h.wnt, ?_⟩
  rw [setAll_next P V w p v hp]
  exact below_both h.now p _
def RgOut (ws : List (List UInt8)) (B : Nat) (w w' : World) (P : List (Nat × Nat)) (e : Ending) : Prop :=
  (∃ V : List Int, ws.length = P.length ∧ V.length = P.length ∧ (∀ m, m < V.length → numOf (ws.getD m []) = some (V.getD m 0)) ∧ e = .returned (.bool true) ∧ Below w.heap.size (setAll w P V) w') ∨
  ((∀ V : List Int, ¬ (ws.length = P.length ∧ V.length = P.length ∧ ∀ m, m < V.length → numOf (ws.getD m []) = some (V.getD m 0))) ∧ e = .returned (.bool false) ∧ Below B w w')
set_option maxRecDepth 100000 in
set_option maxHeartbeats 4000000 in
theorem readNumbers_gen (ws : List (List UInt8)) (P : List (Nat × Nat)) (g g0 o cap pcap B : Nat) (base wb : Option Addr) (w : World) (hbs : ws ≠ [] → base = some ⟨g0, o, none⟩) (hwb : P.length ≠ 0 → wb = some ⟨g, 0, none⟩)
    (hc : ∀ j, j < ws.length → w.cell? ⟨g0, o + j, none⟩ = some (.string ⟨(ws.getD j []).toArray⟩)) (hg0 : g0 < B) (hw : ∀ j, (ws.getD j []).length ≤ 4294967296) (hn : ws.length ≤ 4294967296) (hB : Wnt B w g P) (hBs : B ≤ w.heap.size) (hF2 : P.length ≤ 2) (hpc : P.length ≤ pcap) (hE : HEB B w) :
    Calls Tryz.prog 69 #[.slice base ws.length cap, .slice wb P.length pcap] w fun e w' => RgOut ws B w w' P e := by
  have n0 : (ws.length : Int) ≤ 4294967296 := by omega
  obtain ⟨n, hnn⟩ : ∃ n, n = P.length := ⟨_, rfl⟩
  have HNN : Hid (n = P.length) := hnn
  have HWB : Hid (P.length ≠ 0 → wb = some ⟨g, 0, none⟩) := hwb
  have HBS : Hid (ws ≠ [] → base = some ⟨g0, o, none⟩) := hbs
  have HC : Hid (∀ j, j < ws.length → w.cell? ⟨g0, o + j, none⟩ = some (.string ⟨(ws.getD j []).toArray⟩)) := hc
  have HW : Hid (∀ j, (ws.getD j []).length ≤ 4294967296) := hw
  have HB : Hid (Pts B w w g P []) := ⟨hB, by cases P <;> exact Below.refl _ _⟩
  have HE : Hid (HEB B w) := hE
  have HPC : Hid (P.length ≤ pcap) := hpc
  rw [← hnn] at hF2 ⊢
  clear hnn hwb hbs hc hw hB hE hn hpc
  by_cases hl : ws.length = n
  · have HLn : Hid (ws.length = n) := hl
    rw [hl]
    clear hl n0
    have n0 : (n : Int) ≤ 2 := by omega
    go_enter Tryz.func69, Tryz.ntmps69
    go_wp2_with fail
    go_loopw [16] (fun vi wr => ∃ (i : Nat) (V : List Int), V.length = i ∧ i ≤ n ∧ vi = .int .i64 i ∧ (∀ m, m < V.length → numOf (ws.getD m []) = some (V.getD m 0)) ∧ Pts B w wr g P V) (fun vi _ => n - (intOf vi).toNat)
    case atStart => exact ⟨0, [], rfl, Nat.zero_le _, rfl, fun m h => (by cases h), HB.out⟩
    case round =>
      obtain ⟨i, V, hVi, hin, rfl, hV, hbx⟩ := hrel
      rename World => wr
      have HV : Hid (∀ m, m < V.length → numOf (ws.getD m []) = some (V.getD m 0)) := hV
      have BX : Hid (Pts B w wr g P V) := hbx
      have hBw : B ≤ wr.heap.size := by have h1 := hbx.now.size; rw [setAll_size] at h1; omega
      clear hV hbx
      have HVI : Hid (V.length = i) := hVi
      clear hVi
      by_cases hi : i < n
      · have j0 : (0 : Int) ≤ (i : Int) := Int.natCast_nonneg _
        have j1 : (i : Int) < (n : Int) := by omega
        obtain rfl := HBS.out (by intro q; have hl := HLn.out; rw [q] at hl; simp at hl; omega)
        obtain rfl := HWB.out (by rw [← HNN.out]; omega)
        obtain ⟨f, hf⟩ : ∃ f, P[i]? = some f := ⟨_, List.getElem?_eq_getElem (by rw [← HNN.out]; exact hi)⟩
        have HF : Hid (P[i]? = some f) := hf
        have c1 : wr.cell? ⟨g0, o + i, none⟩ = some (.string ⟨(ws.getD i []).toArray⟩) := ((BX.out.below hBs).cell (p := ⟨g0, o + i, none⟩) hg0).trans (HC.out i (by rw [HLn.out]; exact hi))
        have HEr : HEB wr.heap.size wr := ⟨fun w' h' => HE.out.1 w' ((BX.out.below hBs).trans (h'.mono hBw)), fun w' h' => HE.out.2 w' ((BX.out.below hBs).trans (h'.mono hBw))⟩
        have RD := numberOf_any (ws.getD i []) (HW.out i) wr HEr
        clear hf HEr
        cases hnum : numOf (ws.getD i []) with
        | none =>
          have RA : Hid (Calls Tryz.prog 88 #[.string ⟨(ws.getD i []).toArray⟩] wr fun e w' => (∃ x : Int, e = .returned (.tuple #[.int .i64 x, .bool false])) ∧ Below wr.heap.size wr w') := RD.mono (by rintro e w' ⟨h1, h2⟩; unfold NbOut at h1; rw [hnum] at h1; exact ⟨h1, h2⟩)
          have HN : Hid (∀ V : List Int, ¬ (ws.length = P.length ∧ V.length = P.length ∧ ∀ m, m < V.length → numOf (ws.getD m []) = some (V.getD m 0))) := fun U q => by
            have q1 := q.2.2 i (by rw [q.2.1, ← HNN.out]; exact hi)
            rw [hnum] at q1
            cases q1
          clear RD hnum
          generalize ws.getD i [] = L at *
          go_wp2_with (first | (go_at_call 88; refine RA.out.mono ?_; rintro e w2 ⟨⟨x, rfl⟩, hb2⟩; have B2 : Hid (Below B w w2) := (BX.out.below hBs).trans (hb2.mono hBw); clear hb2))
          go_ret
          exact Or.inr ⟨HN.out, rfl, B2.out⟩
        | some v =>
          have RA : Hid (Calls Tryz.prog 88 #[.string ⟨(ws.getD i []).toArray⟩] wr fun e w' => e = .returned (.tuple #[.int .i64 v, .bool true]) ∧ Below wr.heap.size wr w') := RD.mono (by rintro e w' ⟨h1, h2⟩; unfold NbOut at h1; rw [hnum] at h1; exact ⟨h1, h2⟩)
          have HS : Hid (∀ m, m < (V ++ [v]).length → numOf (ws.getD m []) = some ((V ++ [v]).getD m 0)) := fun m hm => by
            by_cases e : m < V.length
            · rw [HV.out m e, List.getD_eq_getElem?_getD, List.getD_eq_getElem?_getD, List.getElem?_append_left e]
            · have : m = V.length := by simp at hm; omega
              subst this
              rw [HVI.out, hnum, ← HVI.out]
              simp
          clear RD hnum
          generalize ws.getD i [] = L at *
          go_wp2_with (first | (go_at_call 88; refine RA.out.mono ?_; rintro e w2 ⟨rfl, hb2⟩; have T2 : Hid (Pts B w w2 g P V) := BX.out.on hb2; have c2 := T2.out.ptr i f HF.out; obtain ⟨⟨y, c3⟩, c4⟩ := T2.out.cell f (List.mem_of_getElem? HF.out); clear hb2))
          exact ⟨⟨i + 1, V ++ [v], by have := HVI.out; simp; omega, by omega, by go_num, HS.out, T2.out.set (by rw [HVI.out]; exact HF.out) v⟩, by simp [intOf]; omega⟩
      · obtain rfl : i = n := by omega
        clear hi
        go_wp2_with fail
        go_ret
        exact Or.inl ⟨V, by rw [HLn.out, HNN.out], by rw [HVI.out, HNN.out], HV.out, rfl, BX.out.now⟩
  · have hl' : ((ws.length : Int) == (n : Int)) = false := beq_eq_false_iff_ne.2 (by omega)
    have HN : Hid (∀ V : List Int, ¬ (ws.length = P.length ∧ V.length = P.length ∧ ∀ m, m < V.length → numOf (ws.getD m []) = some (V.getD m 0))) := fun V q => hl (by rw [q.1, HNN.out])
    clear hl
    go_enter Tryz.func69, Tryz.ntmps69
    go_wp2_with fail
    go_ret
    exact Or.inr ⟨HN.out, rfl, Below.refl _ _⟩
end Go.Proofs.YtknlapipkglnjaaGreatDoor
