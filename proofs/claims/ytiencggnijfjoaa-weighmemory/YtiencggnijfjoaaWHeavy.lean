
/- Layer 17: Heavy. -/

import Derived.Test.YtiencggnijfjoaaWVio

namespace Go.Proofs.Ytiencggnijfjoaa

open Go.RowKit

attribute [local go_sem ↓] Go.wp_at_zero Go.wp_at_succ

/-- A slice of numbers, handed in. -/
structure WsAt (w : World) (base : Option Addr) (g o : Nat) (L : List Int) : Prop where
  base : L.length ≠ 0 → base = some ⟨g, o, none⟩
  lt : L.length ≠ 0 → g < w.heap.size
  cells : ∀ i, i < L.length → w.cell? ⟨g, o + i, none⟩ = some (.int .i64 (L.getD i 0))
  len : L.length ≤ maxLen
theorem WsAt.below {w w' : World} {base : Option Addr} {g o : Nat} {L : List Int} (h : WsAt w base g o L) (hb : Below w.heap.size w w') : WsAt w' base g o L :=
  ⟨h.base, fun hn => Nat.lt_of_lt_of_le (h.lt hn) hb.size, fun i hi => (hb.cell (p := ⟨g, o + i, none⟩) (h.lt (by omega))).trans (h.cells i hi), h.len⟩
theorem isC_get (L : List Int) (i : Nat) (h : i < L.length) : (isC L)[i]? = some (.int .i64 (L.getD i 0)) := by
  simp [isC, List.getElem?_map, List.getD_eq_getElem?_getD, List.getElem?_eq_getElem h]
theorem ws_of_owns {w : World} {B : Nat} {e : TypeId} {v : Value} {L : List Int} (h : w.ownsRow B e 1 v L.length (isC L)) :
    ∃ base cap g, v = .slice base L.length cap ∧ (L.length ≠ 0 → B ≤ g) ∧ (base = none → L.length = 0 ∧ cap = 0) ∧ WsAt w base g 0 L := by
  obtain ⟨_, h⟩ := h
  rcases h with ⟨rfl, h0⟩ | ⟨g, cap, cur, rfl, hg, hh, h1, h2, h3, h4⟩
  · exact ⟨none, 0, 0, by rw [h0], fun h => absurd h0 h, fun _ => ⟨h0, rfl⟩, fun h => absurd h0 h, fun h => absurd h0 h, fun i hi => by omega, by rw [h0]; omega⟩
  · refine ⟨_, _, g, rfl, fun _ => hg, (fun h => by cases h), fun _ => rfl, fun _ => (Array.getElem?_eq_some_iff.1 hh).1, fun i hi => ?_, by omega⟩
    rw [← isC_get L i hi, ← h4, List.getElem?_take, if_pos (by omega), Nat.zero_add]
    simp [World.cell?, hh]
def noW (k : Int) : Bool := decide (k < 0) || decide (1000000 < k)
set_option maxRecDepth 100000 in
theorem isNoWeight_any (k : Int) (w : World) :
    Calls Try.prog 62 #[.int .i64 k] w fun e w' => e = .returned (.bool (noW k)) ∧ Below w.heap.size w w' := by
  by_cases h : k < 0
  · have d : decide (k < 0) = true := by simp [h]
    have F : Hid (noW k = true) := by show noW k = _; unfold noW; rw [d]; rfl
    clear h
    go_enter Try.func62, Try.ntmps62
    go_wp2
    go_ret
    exact ⟨by rw [F.out]; rfl, Below.refl _ _⟩
  · have d : decide (k < 0) = false := by simp [h]
    have F : Hid (noW k = decide (1000000 < k)) := by show noW k = _; unfold noW; rw [d]; rfl
    clear h
    go_enter Try.func62, Try.ntmps62
    go_wp2
    go_ret
    exact ⟨by rw [F.out]; rfl, Below.refl _ _⟩
set_option maxRecDepth 100000 in
set_option maxHeartbeats 1000000 in
theorem indexW_any (a1 : Option Addr) (g o c1 : Nat) (L : List Int) (w : World) (hx : WsAt w a1 g o L) :
    Calls Try.prog 79 #[.slice a1 L.length c1, .func (.func 62) #[] #[]] w fun e w' => ∃ r : Int, e = .returned (.int .i64 r) ∧ Below w.heap.size w w' ∧ decide (0 ≤ r) = L.any noW := by
  have lx := hx.len
  unfold maxLen at lx
  have HX : Hid (WsAt _ _ _ _ _) := hx
  clear hx
  go_enter Try.func79, Try.ntmps79
  go_wp2_with fail
  go_loopw [8] (fun i wr => ∃ j : Nat, j ≤ L.length ∧ i = .int .i64 j ∧ (∀ k, k < j → noW (L.getD k 0) = false) ∧ Below w.heap.size w wr) (fun i _ => L.length - (intOf i).toNat)
  case atStart => exact ⟨0, Nat.zero_le _, rfl, fun k hk => by omega, Below.refl _ _⟩
  case round =>
    obtain ⟨j, hj, rfl, hall, hbw⟩ := hrel
    have HAL : Hid _ := hall
    have HW : Hid (Below _ _ _) := hbw
    clear hall
    by_cases hlt : j < L.length
    · obtain rfl : a1 = some ⟨g, o, none⟩ := HX.out.base (by omega)
      have EX := HX.out.below hbw
      have zx : g < wr.heap.size := EX.lt (by omega)
      have s0 := EX.cells j hlt
      have j0 : (0 : Int) ≤ (j : Int) := Int.natCast_nonneg _
      have j1 : (j : Int) < (L.length : Int) := by omega
      have HM : Hid (L.getD j 0 ∈ L) := by show _ ∈ _; rw [List.getD_eq_getElem?_getD, List.getElem?_eq_getElem hlt]; exact List.getElem_mem hlt
      have HE : Hid (∀ y, L.getD j 0 = y → noW (L.getD j 0) = noW y) := fun y hy => by rw [hy]
      clear EX hbw
      generalize hy : L.getD j 0 = y at s0 HM
      have HY : Hid _ := hy
      clear hy
      go_wp2_with fail
      refine (isNoWeight_any y _).mono ?_
      rintro e w2 ⟨rfl, hb2⟩
      have B2 : Hid (Below w.heap.size w w2) := HW.out.trans (hb2.mono HW.out.size)
      clear hb2 s0
      cases hq : noW y
      · have HQ : Hid (noW (L.getD j 0) = false) := by show _ = _; rw [HY.out, hq]
        go_wp2_with fail
        refine ⟨⟨j + 1, by omega, by go_num, fun k hk => ?_, B2.out⟩, by simp [intOf]; omega⟩
        by_cases e : k = j
        · subst e; exact HQ.out
        · exact HAL.out k (by omega)
      · have HQ : Hid (L.any noW = true) := by show _ = _; exact List.any_eq_true.2 ⟨y, HM.out, hq⟩
        go_wp2_with fail
        go_ret
        exact ⟨_, rfl, B2.out, by rw [HQ.out]; simp⟩
    · obtain rfl : j = L.length := by omega
      have HQ : Hid (L.any noW = false) := by
        show _ = _
        rw [List.any_eq_false]
        intro y hy
        obtain ⟨i, hi, rfl⟩ := List.getElem_of_mem hy
        have := HAL.out i hi
        rw [List.getD_eq_getElem?_getD, List.getElem?_eq_getElem hi] at this
        simpa using this
      clear hbw
      go_wp2_with fail
      go_ret
      exact ⟨_, rfl, HW.out, by rw [HQ.out]; rfl⟩
set_option maxRecDepth 100000 in
theorem containsW_any (a1 : Option Addr) (g o c1 : Nat) (L : List Int) (w : World) (hx : WsAt w a1 g o L) :
    Calls Try.prog 61 #[.slice a1 L.length c1, .func (.func 62) #[] #[]] w fun e w' => e = .returned (.bool (L.any noW)) ∧ Below w.heap.size w w' := by
  have HX : Hid (WsAt _ _ _ _ _) := hx
  clear hx
  go_enter Try.func61, Try.ntmps61
  go_wp2_with (first | (go_at_call 79; refine (indexW_any a1 g o c1 L _ HX.out).mono ?_; rintro e w1 ⟨r, rfl, hb1, hr1⟩; have B1 : Hid (Below w.heap.size w w1) := hb1; have HR : Hid (_ = L.any noW) := hr1; clear hb1 hr1))
  go_ret
  exact ⟨by rw [← HR.out]; rfl, B1.out⟩

/-- A node's weight set. -/
def setW (T : NL) (i : Nat) (a : Int) : NL := T.set i ⟨(ndAt T i).key, (ndAt T i).inf, a, (ndAt T i).val, (ndAt T i).l, (ndAt T i).r⟩
theorem setW_length (T : NL) (i : Nat) (a : Int) : (setW T i a).length = T.length := by simp [setW]
def wtN (N : NL) (W : List Int) : Nat → NL
  | 0 => N
  | m + 1 => setW (wtN N W m) (2 + m) (W.getD m 0)
theorem wtN_length (N : NL) (W : List Int) : ∀ m, (wtN N W m).length = N.length
  | 0 => rfl
  | m + 1 => by simp only [wtN]; rw [setW_length, wtN_length N W m]
noncomputable def heavyE (t : NL) (W : List Int) : Int := if keyE t ≠ 0 then keyE t else if W.length ≠ (keysA t).length ∨ W.any noW = true then 1 else 0
noncomputable def heavyA (t : NL) (W : List Int) : NL := if heavyE t W = 0 then wtN (normL t) W W.length else []
theorem keys_room {t : NL} (h : (rootR t).2 = 0) : (keysA t).length + 2 ≤ t.length := by
  have he := rootR_form h
  obtain ⟨-, hf⟩ := formE_ok he
  obtain ⟨x, b, hx, hxl, hb, hk, -, -⟩ := keys_lay h
  obtain ⟨L', hL', hl'⟩ := hb.tree
  rw [hk, BT.lay_length, ← hl']
  obtain ⟨L, h1, -, h3⟩ := hf.tree
  unfold rootR at hx
  rw [if_neg (by simp [he])] at hx
  split at hx
  · simp at hx
  · rename_i q1
    split at hx
    · simp at hx
    · split at hx
      · simp at hx
      · rename_i q2 q3
        split at hx
        · have e := congrArg Prod.fst hx
          simp only at e
          have k1 : leafB (ndAt t 0) = false := by
            unfold archB at q1
            cases q : leafB (ndAt t 0)
            · rfl
            · rw [q] at q1; simp at q1
          obtain ⟨l, r, hl, hr, hll, hrl⟩ := inner_lr hf hf.pos k1
          rw [hl, Int.toNat_natCast] at q3 e
          have k2 : leafB (ndAt t l) = false := by
            unfold archB at q3
            cases q : leafB (ndAt t l)
            · rfl
            · rw [q] at q3; simp at q3
          cases h1 with
          | leaf _ a _ => rw [a] at hl; omega
          | @inner _ l2 r2 L1 R1 _ a1 a2 t1 t2 =>
            have : l2 = l := by rw [a1] at hl; omega
            subst this
            cases t1 with
            | leaf _ a _ => rw [a] at e; omega
            | @inner _ l3 r3 L2 R2 _ a3 a4 t3 t4 =>
              have : l3 = x := by rw [a3] at e; omega
              subst this
              have := (namL_tree t3).det hL'
              subst this
              simp at h3
              omega
        · simp at hx
theorem MAt.wt {w0 x : World} {g cap : Nat} {T : NL} (h : MAt w0 x g cap T) (i : Nat) (hi : i < T.length) : x.cell? ⟨g, i * 6 + 2, none⟩ = some (.int .i64 (ndAt T i).wt) ∧ x.frozen? ⟨g, i * 6 + 2, none⟩ = false := by
  obtain ⟨g', cap', hv, -, -, -, -, hc, hfr⟩ := owns_some h.own (by omega)
  injection hv with e1 _ _
  injection e1 with e1
  injection e1 with e1 _ _
  subst e1
  obtain ⟨-, -, b2, -⟩ := ndCells_get T i hi
  exact ⟨(hc _ (by omega)).trans b2, hfr _⟩
theorem MAt.putW {w0 x : World} {g cap : Nat} {T : NL} (h : MAt w0 x g cap T) (i : Nat) (a : Int) (hi : i < T.length) (hg : w0.heap.size ≤ g) : MAt w0 (x.setCell ⟨g, i * 6 + 2, none⟩ (.int .i64 a)) g cap (setW T i a) := by
  refine ⟨?_, h.below.setCell hg _⟩
  unfold setW
  rw [ndCells_setK 2 (.int .i64 a) T i _ hi (by omega) (fun j hj hn => by
    have c : j = 0 ∨ j = 1 ∨ j = 3 ∨ j = 4 ∨ j = 5 := by omega
    rcases c with rfl | rfl | rfl | rfl | rfl <;> rfl) rfl, List.length_set]
  exact owns_put h.own _ _
end Go.Proofs.Ytiencggnijfjoaa
