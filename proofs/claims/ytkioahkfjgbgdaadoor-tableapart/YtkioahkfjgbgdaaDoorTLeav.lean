
/- Layer 16: Leaves of both: slices.IndexFunc and slices.DeleteFunc at places, by the program's question. -/

import Derived.Test.YtkioahkfjgbgdaaDoorTHgt

import Derived.Lib.SliceRun

import Derived.Laws.IdiomCopy

namespace Go.Proofs.YtkioahkfjgbgdaaDoor

open Go.RowKit

attribute [local go_sem ↓] Go.wp_at_zero Go.wp_at_succ

def lfB (t : NL) (x : Nat) : Bool := decide ((ndAt t x).l = -1)
/-- The leaves among places. -/
def lvL (t : NL) (L : List Nat) : List Nat := L.filter (lfB t)
theorem lv_snoc (t : NL) (L : List Nat) (x : Nat) : lvL t (L ++ [x]) = if lfB t x then lvL t L ++ [x] else lvL t L := by
  unfold lvL
  rw [List.filter_append]
  by_cases h : lfB t x = true
  · rw [if_pos h, List.filter_cons_of_pos h, List.filter_nil]
  · rw [if_neg h, List.filter_cons_of_neg h, List.filter_nil, List.append_nil]
theorem take_snocL {L : List Nat} {j : Nat} (h : j < L.length) : L.take (j + 1) = L.take j ++ [L.getD j 0] := by
  rw [List.take_succ_eq_append_getElem h, List.getD_eq_getElem?_getD, List.getElem?_eq_getElem h]
  rfl
theorem lv_all {t : NL} {L : List Nat} (h : ∀ k, k < L.length → lfB t (L.getD k 0) = true) : ∀ j, j ≤ L.length → lvL t (L.take j) = L.take j
  | 0, _ => by simp [lvL]
  | j + 1, hj => by rw [take_snocL (by omega), lv_snoc, if_pos (h j (by omega)), lv_all h j (by omega)]
/-- A place is one of the table, and a leaf or an inner node. -/
def PlOk (t : NL) (x : Nat) : Prop := x < t.length ∧ (((ndAt t x).l = -1 ∧ (ndAt t x).r = -1) ∨ (ndAt t x).l ≠ -1)
theorem pl_leaf {t : NL} {x : Nat} (h : PlOk t x) : leafB (ndAt t x) = lfB t x := by
  rcases h.2 with ⟨h1, h2⟩ | h1
  · rw [leafB_yes h1 h2]; simp [lfB, h1]
  · rw [leafB_no h1]; simp [lfB, h1]
/-- The box that holds the table. -/
structure BoxAt (w : World) (bx : Nat) (b o c : Nat) (t : NL) : Prop where
  cell : w.cell? ⟨bx, 0, none⟩ = some (.slice (some ⟨b, o, none⟩) t.length c)
  lt : bx < w.heap.size
  blt : b < w.heap.size
  nodes : NodesAt w (some ⟨b, o, none⟩) b o t

theorem BoxAt.below {w w' : World} {B bx b o c : Nat} {t : NL} (h : BoxAt w bx b o c t) (hb : Below B w w') (h1 : bx < B) (h2 : b < B) : BoxAt w' bx b o c t :=
  ⟨(hb.cell (p := ⟨bx, 0, none⟩) h1).trans h.cell, Nat.lt_of_lt_of_le h.lt hb.size, Nat.lt_of_lt_of_le h.blt hb.size, h.nodes.belowB hb (fun _ => h2)⟩
set_option maxRecDepth 100000 in
theorem leaves1_any (bx b o c x : Nat) (t : NL) (w : World) (h : BoxAt w bx b o c t) (hx : PlOk t x) :
    Calls Tryd.prog 42 #[.int .i64 (x : Int), .pointer (some ⟨bx, 0, none⟩)] w fun e w' => e = .returned (.bool (!lfB t x)) ∧ Below w.heap.size w w' := by
  have HLF : Hid (leafB (ndAt t x) = lfB t x) := pl_leaf hx
  have hx1 := hx.1
  have b0 := h.cell
  have b1 := h.lt
  have b2 := h.blt
  have HC : Hid _ := h.nodes.cells x hx1
  have s0 : (0 : Int) ≤ (x : Int) := Int.natCast_nonneg _
  have s1 : (x : Int) < (t.length : Int) := by omega
  clear h hx
  generalize lfB t x = q at HLF
  generalize ndAt t x = nd at HC HLF
  obtain ⟨k0, k1, k2, k3, k4, k5⟩ := nd
  simp only at HC
  obtain ⟨c0, c1, c2, c3, c4, c5⟩ := HC.out
  go_enter Tryd.func42, Tryd.ntmps42
  go_wp2_with (first | (go_at_call 36; refine (isLeaf_any _ _ _ _ _ _ _).mono ?_; rintro e w3 ⟨rfl, hb3⟩; rw [HLF.out]; have HB3 : Hid (Below w.heap.size w w3) := hb3; clear hb3))
  go_ret
  exact ⟨rfl, HB3.out⟩

set_option maxRecDepth 100000 in
set_option maxHeartbeats 1000000 in
theorem indexP_any (a1 : Option Addr) (g c1 bx b o c : Nat) (t : NL) (L : List Nat) (w : World) (hx : PlsAt w a1 g L) (hb : BoxAt w bx b o c t) (hok : ∀ j, j < L.length → PlOk t (L.getD j 0)) :
    Calls Tryd.prog 49 #[.slice a1 L.length c1, .func (.func 42) #[] #[.pointer (some ⟨bx, 0, none⟩)]] w fun e w' => ∃ r : Int, e = .returned (.int .i64 r) ∧ Below w.heap.size w w' ∧ ((r = -1 ∧ ∀ k, k < L.length → lfB t (L.getD k 0) = true) ∨ ∃ k : Nat, r = k ∧ k < L.length ∧ lfB t (L.getD k 0) = false ∧ ∀ m, m < k → lfB t (L.getD m 0) = true) := by
  have lx := hx.len
  unfold maxLen at lx
  have HX : Hid _ := hx
  have HBX : Hid _ := hb
  have HOK : Hid (∀ j, j < L.length → PlOk t (L.getD j 0)) := hok
  clear hx hb hok
  go_enter Tryd.func49, Tryd.ntmps49
  go_wp2_with fail
  go_loopw [8] (fun i wr => ∃ j : Nat, j ≤ L.length ∧ i = .int .i64 j ∧ (∀ k, k < j → lfB t (L.getD k 0) = true) ∧ Below w.heap.size w wr) (fun i _ => L.length - (intOf i).toNat)
  case atStart => exact ⟨0, Nat.zero_le _, rfl, fun k hk => by omega, Below.refl _ _⟩
  case round =>
    obtain ⟨j, hj, rfl, hall, hbw⟩ := hrel
    have HAL : Hid _ := hall
    have HW : Hid _ := hbw
    clear hall
    by_cases hlt : j < L.length
    · obtain rfl : a1 = some ⟨g, 0, none⟩ := HX.out.base (by omega)
      have EX := HX.out.below hbw
      have zx : g < wr.heap.size := EX.lt (by omega)
      have s0 := EX.cells j hlt
      have j0 : (0 : Int) ≤ (j : Int) := Int.natCast_nonneg _
      have j1 : (j : Int) < (L.length : Int) := by omega
      have HBW : Hid _ := HBX.out.below hbw HBX.out.lt HBX.out.blt
      have HP : Hid _ := HOK.out j hlt
      have HE : Hid (∀ y, L.getD j 0 = y → lfB t (L.getD j 0) = lfB t y) := fun y hy => by rw [hy]
      clear EX hbw
      generalize hy : L.getD j 0 = y at s0 HP
      have HY : Hid _ := hy
      clear hy
      go_wp2_with fail
      refine (leaves1_any bx b o c y t _ HBW.out HP.out).mono ?_
      rintro e w2 ⟨rfl, hb2⟩
      have B2 : Hid (Below w.heap.size w w2) := HW.out.trans (hb2.mono HW.out.size)
      clear hb2 s0
      cases hq : lfB t y
      · have HQ : Hid (lfB t (L.getD j 0) = false) := by show _ = _; rw [HY.out, hq]
        go_wp2_with fail
        go_ret
        exact ⟨_, rfl, B2.out, Or.inr ⟨j, rfl, hlt, HQ.out, HAL.out⟩⟩
      · have HQ : Hid (lfB t (L.getD j 0) = true) := by show _ = _; rw [HY.out, hq]
        go_wp2_with fail
        refine ⟨⟨j + 1, by omega, by go_num, fun k hk => ?_, B2.out⟩, by simp [intOf]; omega⟩
        by_cases e : k = j
        · subst e; exact HQ.out
        · exact HAL.out k (by omega)
    · obtain rfl : j = L.length := by omega
      clear hbw
      go_wp2_with fail
      go_ret
      exact ⟨_, rfl, HW.out, Or.inl ⟨rfl, HAL.out⟩⟩

theorem run_clear_one {P : Program} (w : World) (t e ty : TypeId) (ht : P.underlying t = some (.slice e)) (hv : ∀ w, (zeroValue e).run P w = .ok (.int .i64 0) w) (b o n c : Nat) (hn : 0 < n)
    (hc : ∀ j, j < n → (w.cell? ⟨b, o + j, none⟩).isSome = true) (hf : ∀ j, j < n → w.frozen? ⟨b, o + j, none⟩ = false) :
    (Builtin.clear_ #[t] ty #[.slice (some ⟨b, o, none⟩) n c]).run P w = .ok (.tuple #[]) (w.setCells b o (List.replicate n (.int .i64 0))) := by
  have hzc : (Builtin.zeroCells (Value.int .i64 0).cells n).toList = List.replicate n (.int .i64 0) := by
    have hcs : (Value.int .i64 0).cells = #[.int .i64 0] := rfl
    rw [hcs]
    simp [Builtin.zeroCells]
    apply List.ext_getElem
    · simp
    · intro i h1 h2
      simp [Nat.mod_one]
  have hst := run_storeCells_cells (P := P) b o (List.replicate n (.int .i64 0)) 0 w (by simpa using hc) (by simpa using hf) (by intro v hv'; rw [List.eq_of_mem_replicate hv']; rfl)
  simp only [Nat.add_zero] at hst
  obtain ⟨m, rfl⟩ : ∃ m, n = m + 1 := ⟨n - 1, by omega⟩
  simp [Builtin.clear_, run_underlying ht, hv, hzc, hst]
theorem below_setCells {B : Nat} {w0 : World} (g : Nat) (hg : B ≤ g) : ∀ (vs : List Value) (o : Nat) (w : World), Below B w0 w → Below B w0 (w.setCells g o vs)
  | [], _, _, h => h
  | v :: vs, o, w, h => below_setCells g hg vs (o + 1) _ (h.setCell (by simpa using hg) v)
theorem getD_snoc (l : List Nat) (x i : Nat) : (l ++ [x]).getD i 0 = if i < l.length then l.getD i 0 else if i = l.length then x else 0 := by
  by_cases h : i < l.length
  · rw [if_pos h, List.getD_eq_getElem?_getD, List.getElem?_append_left h, ← List.getD_eq_getElem?_getD]
  · rw [if_neg h, List.getD_eq_getElem?_getD, List.getElem?_append_right (by omega)]
    by_cases e : i = l.length
    · rw [if_pos e, e]; simp
    · rw [if_neg e, List.getElem?_eq_none (by simp; omega)]; rfl
theorem lv_first {t : NL} {L : List Nat} {k : Nat} (hk : k < L.length) (h1 : lfB t (L.getD k 0) = false) (h2 : ∀ m, m < k → lfB t (L.getD m 0) = true) : lvL t (L.take (k + 1)) = L.take k := by
  have h3 : ∀ j, j ≤ k → lvL t (L.take j) = L.take j := by
    intro j
    induction j with
    | zero => intro _; simp [lvL]
    | succ j ih => intro hj; rw [take_snocL (by omega), lv_snoc, if_pos (h2 j (by omega)), ih (by omega)]
  rw [take_snocL hk, lv_snoc, if_neg (by rw [h1]; exact Bool.false_ne_true), h3 k (Nat.le_refl _)]

set_option maxRecDepth 100000 in
set_option maxHeartbeats 2000000 in
theorem deleteP_any (B : Nat) (v : Value) (bx b o c : Nat) (t : NL) (L : List Nat) (w : World) (h : w.ownsRow B 3 1 v L.length (natC L)) (hB : B ≤ w.heap.size) (hb : BoxAt w bx b o c t) (h1 : bx < B) (h2 : b < B) (hok : ∀ j, j < L.length → PlOk t (L.getD j 0)) :
    Calls Tryd.prog 41 #[v, .func (.func 42) #[] #[.pointer (some ⟨bx, 0, none⟩)]] w fun e w' => ∃ base cap g, e = .returned (.slice base (lvL t L).length cap) ∧ PlsAt w' base g (lvL t L) ∧ Below B w w' := by
  obtain ⟨base, cap, g, rfl, hg, hnil, hpl⟩ := pls_of_owns h
  have HS : Hid _ := hpl
  have HO : Hid (World.ownsRow _ _ _ _ _ _ _) := h
  have HBX : Hid _ := hb
  have HOK : Hid (∀ j, j < L.length → PlOk t (L.getD j 0)) := hok
  have lx := hpl.len
  unfold maxLen at lx
  clear hpl h hb hok
  go_enter Tryd.func41, Tryd.ntmps41
  go_wp2_with fail
  refine (indexP_any base g cap bx b o c t L _ HS.out HBX.out HOK.out).mono ?_
  rintro e w1 ⟨r, rfl, hb1, hr⟩
  have B1 : Hid _ := hb1
  clear hb1
  rcases hr with ⟨rfl, hall⟩ | ⟨k, rfl, hk, hpk, hbef⟩
  · have HR : Hid (lvL t L = L) := by show _ = _; have := lv_all hall L.length (Nat.le_refl _); rwa [List.take_length] at this
    clear hall
    go_wp2_with fail
    go_ret
    rw [HR.out]
    exact ⟨base, cap, g, rfl, HS.out.below B1.out, B1.out.mono hB⟩
  · have hn0 : 0 < L.length := by omega
    obtain rfl : base = some ⟨g, 0, none⟩ := HS.out.base (by omega)
    obtain ⟨g', cap', e', hg1, hg2, hcap1, hcap2, -, -⟩ := owns_some HO.out hn0
    cases e'
    have z1 := B1.out.size
    have V1 : Hid (Ints w1 g L.length (fun x => ((L.getD x 0 : Nat) : Int))) := (owns_ints HO.out hn0 rfl).below hg2 B1.out
    have HR0 : Hid ((lvL t (L.take (k + 1))).length = k ∧ ∀ x, x < k → (lvL t (L.take (k + 1))).getD x 0 = L.getD x 0) := by
      rw [lv_first hk hpk hbef]
      refine ⟨by simp; omega, fun x hx => ?_⟩
      rw [List.getD_eq_getElem?_getD, List.getD_eq_getElem?_getD, List.getElem?_take, if_pos hx]
    have hki : ((k : Int) == -1) = false := by rw [beq_eq_false_iff_ne]; omega
    have hgB : Hid (B ≤ g) := hg1
    unfold maxLen at hcap2
    clear hpk hbef hnil hg hn0 HO
    go_wp2_with fail
    go_loopw [5, 6] (fun iv jv wr => ∃ (j i : Nat) (F : Nat → Int), j ≤ L.length ∧ jv = .int .i64 j ∧ iv = .int .i64 i ∧ i < j ∧ (lvL t (L.take j)).length = i ∧ Ints wr g L.length F ∧ (∀ x, x < i → F x = ((lvL t (L.take j)).getD x 0 : Nat)) ∧ (∀ x, j ≤ x → x < L.length → F x = (L.getD x 0 : Nat)) ∧ Below B w wr ∧ g < wr.heap.size ∧ B ≤ wr.heap.size) (fun _ jv _ => L.length - (intOf jv).toNat)
    case atStart => exact ⟨k + 1, k, _, by omega, by go_num, rfl, by omega, HR0.out.1, V1.out, fun x hx => by rw [HR0.out.2 x hx], fun x _ _ => rfl, B1.out.mono hB, by omega, by omega⟩
    case round =>
      clear V1 HR0 hki B1 z1
      obtain ⟨j, i, F, hj, rfl, rfl, hij, hlen, hV, hF1, hF2, hbw, hgw, hBw⟩ := hrel
      have HV : Hid (Ints _ _ _ _) := hV
      have H1 : Hid _ := hF1
      have H2 : Hid _ := hF2
      have HB : Hid _ := hbw
      have HL : Hid _ := hlen
      by_cases hlt : j < L.length
      · have c0 := (hV j hlt).1
        rw [hF2 j (Nat.le_refl _) hlt] at c0
        have j0 : (0 : Int) ≤ (j : Int) := Int.natCast_nonneg _
        have j1 : (j : Int) < (L.length : Int) := by omega
        have i0 : (0 : Int) ≤ (i : Int) := Int.natCast_nonneg _
        have i1 : (i : Int) < (L.length : Int) := by omega
        have HN : Hid (lvL t (L.take (j + 1)) = if lfB t (L.getD j 0) then lvL t (L.take j) ++ [L.getD j 0] else lvL t (L.take j)) := by show _ = _; rw [take_snocL hlt, lv_snoc]
        have HP : Hid _ := HOK.out j hlt
        have HBW : Hid _ := HBX.out.below hbw h1 h2
        clear hV hF1 hF2 hbw hlen
        generalize L.getD j 0 = y at c0 HP HN
        go_wp2_with fail
        refine (leaves1_any bx b o c y t _ HBW.out HP.out).mono ?_
        rintro e w2 ⟨rfl, hb2⟩
        have z2 := hb2.size
        have B2 : Hid (Below B w w2) := HB.out.trans (hb2.mono hBw)
        have V2 : Hid (Ints w2 g L.length F) := HV.out.below hgw hb2
        have m0 := (V2.out i (by omega)).1
        have m1 := (V2.out i (by omega)).2
        clear hb2 c0
        cases hq : lfB t y
        · have HN' : Hid (lvL t (L.take (j + 1)) = lvL t (L.take j)) := by show _ = _; rw [HN.out, hq]; rfl
          go_wp2_with fail
          exact ⟨⟨j + 1, i, F, by omega, by go_num, rfl, by omega, by rw [HN'.out]; exact HL.out, V2.out, by rw [HN'.out]; exact H1.out, fun x hx hx2 => H2.out x (by omega) hx2, B2.out, by omega, by omega⟩, by simp [intOf]; omega⟩
        · have HN' : Hid (lvL t (L.take (j + 1)) = lvL t (L.take j) ++ [y]) := by show _ = _; rw [HN.out, hq]; rfl
          go_wp2_with fail
          refine ⟨⟨j + 1, i + 1, _, by omega, by go_num, by go_num, by omega, by rw [HN'.out]; simp [HL.out], V2.out.set i _ (by omega), ?_, ?_, B2.out.setCell (by simpa using hgB.out) _, by simp; omega, by simp; omega⟩, by simp [intOf]; omega⟩
          · rw [HN'.out]
            intro x hx
            show (if x = i then (y : Int) else F x) = _
            rw [getD_snoc, HL.out]
            by_cases e : x = i
            · rw [if_pos e, if_neg (by omega), if_pos e]
            · rw [if_neg e, if_pos (by omega), H1.out x (by omega)]
          · intro x hx hx2
            show (if x = i then (y : Int) else F x) = _
            rw [if_neg (by omega), H2.out x (by omega) hx2]
      · obtain rfl : j = L.length := by omega
        have hcl : ∀ ty, (Builtin.clear_ #[ 29 ] ty #[.slice (some ⟨g, i, none⟩) (L.length - i) (cap - i)]).run Tryd.prog wr = .ok (.tuple #[]) (wr.setCells g i (List.replicate (L.length - i) (.int .i64 0))) := fun ty => run_clear_one wr _ _ ty ins_under Tryd.zeroValue3 g i (L.length - i) (cap - i) (by omega)
          (fun x hx => by rw [(hV (i + x) (by omega)).1]; rfl) (fun x hx => (hV (i + x) (by omega)).2)
        have q1 : i ≤ L.length := by omega
        have q2 : i ≤ cap := by omega
        have q3 : ¬ cap = i := by omega
        have q4 : (i : Int) ≤ (L.length : Int) := by omega
        have q5 : (i : Int) ≤ (cap : Int) := by omega
        have q6 : (0 : Int) ≤ (i : Int) := Int.natCast_nonneg _
        rw [List.take_length] at hlen hF1
        have HL' : Hid _ := hlen
        have H1' : Hid _ := hF1
        clear hV hF1 hF2 hbw hlen
        go_wp2_with fail
        go_ret
        refine ⟨_, cap, g, by rw [HL'.out]; rfl, ⟨fun _ => rfl, fun _ => ?_, fun x hx => ?_, ?_⟩, below_setCells g hgB.out _ _ _ HB.out⟩
        · have := below_setCells (w0 := wr) (B := 0) g (Nat.zero_le _) (List.replicate (L.length - i) (.int .i64 0)) i wr (Below.refl _ _)
          exact Nat.lt_of_lt_of_le hgw this.size
        · rw [HL'.out] at hx
          rw [World.cell?_setCells_out g _ _ _ ⟨g, x, none⟩ (fun _ _ => Or.inl (by show x < i; omega)), (HV.out x (by omega)).1, H1'.out x hx]
        · rw [HL'.out]; unfold maxLen; omega
end Go.Proofs.YtkioahkfjgbgdaaDoor
