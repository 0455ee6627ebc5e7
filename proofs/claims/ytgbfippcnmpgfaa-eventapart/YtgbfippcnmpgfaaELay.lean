
/- Layer 5: the program's lay. -/

import Derived.Test.YtgbfippcnmpgfaaEHist

namespace Go.Proofs.Ytgbfippcnmpgfaa

open Go.RowKit

attribute [local go_sem ↓] Go.wp_at_zero Go.wp_at_succ

/-- The cells of an event, v its list of pairs. -/
def evC (e : EvD) (v : Value) : List Value := [.int .i64 e.th, .bool e.ret, .int .i64 e.op.kind, .int .i64 e.op.key, .int .i64 e.op.val, .int .i64 e.op.hi, .bool e.rt.ok, .int .i64 e.rt.key, .int .i64 e.rt.val, v]
theorem ev_info : (Try.prog.info? 55).map (fun i => (i.zero, i.size, i.bytes)) = some (some (.agg #[.int .i64 0, .bool false, .int .i64 0, .int .i64 0, .int .i64 0, .int .i64 0, .bool false, .int .i64 0, .int .i64 0, .slice none 0 0]), 10, 96) := by kernel_rfl
theorem evs_under : Try.prog.underlying 22 = some (.slice 55) := by kernel_rfl
/-- The world behind a put. -/
def putW (w : World) (g n : Nat) (p : Int) (e : EvD) (v : Value) : World := if 0 ≤ p ∧ p < n then (setMany g w (p.toNat * 10) (evC e v)).alloc (.cells (evC e v).toArray 55) else w.alloc (.cells (evC e v).toArray 55)
theorem putW_in {w : World} {g n : Nat} {k : Nat} {e : EvD} {v : Value} (h : k < n) : putW w g n (k : Int) e v = (setMany g w (k * 10) (evC e v)).alloc (.cells (evC e v).toArray 55) := by
  unfold putW; rw [if_pos (by omega), Int.toNat_natCast]
theorem putW_out {w : World} {g n : Nat} {p : Int} {e : EvD} {v : Value} (h : ¬ (0 ≤ p ∧ p < n)) : putW w g n p e v = w.alloc (.cells (evC e v).toArray 55) := by
  unfold putW; rw [if_neg h]

set_option maxRecDepth 100000 in
set_option maxHeartbeats 1000000 in
theorem put_any (p : Int) (e : EvD) (vb : Option Addr) (vn vc : Nat) (q g n : Nat) (F : Nat → Value) (w : World) (hq : w.cell? ⟨q, 0, none⟩ = some (.slice (some ⟨g, 0, none⟩) n n)) (hql : q < w.heap.size) (hgl : g < w.heap.size) (hV : Vals w g (n * 10) F) :
    Calls Try.prog 44 #[.int .i64 p, .agg #[.int .i64 e.th, .bool e.ret, .int .i64 e.op.kind, .int .i64 e.op.key, .int .i64 e.op.val, .int .i64 e.op.hi, .bool e.rt.ok, .int .i64 e.rt.key, .int .i64 e.rt.val, .slice vb vn vc], .pointer (some ⟨q, 0, none⟩)] w fun e' w' => e' = .returned (.tuple #[]) ∧ w' = putW w g n p e (.slice vb vn vc) := by
  have HV : Hid (Vals w g (n * 10) F) := hV
  clear hV
  by_cases h0 : 0 ≤ p
  · obtain ⟨k, rfl⟩ : ∃ k : Nat, p = k := ⟨p.toNat, by omega⟩
    by_cases h1 : (k : Int) < n
    · have k0 : k < n := by omega
      have a0 := HV.out (k * 10) (by omega)
      have a1 := HV.out (k * 10 + 1) (by omega)
      have a2 := HV.out (k * 10 + 2) (by omega)
      have a3 := HV.out (k * 10 + 3) (by omega)
      have a4 := HV.out (k * 10 + 4) (by omega)
      have a5 := HV.out (k * 10 + 5) (by omega)
      have a6 := HV.out (k * 10 + 6) (by omega)
      have a7 := HV.out (k * 10 + 7) (by omega)
      have a8 := HV.out (k * 10 + 8) (by omega)
      have a9 := HV.out (k * 10 + 9) (by omega)
      go_enter Try.func44, Try.ntmps44
      go_wp2_with fail
      go_end0
      exact ⟨rfl, (putW_in k0).symm⟩
    · go_enter Try.func44, Try.ntmps44
      go_wp2_with fail
      go_end0
      exact ⟨rfl, (putW_out (by omega)).symm⟩
  · go_enter Try.func44, Try.ntmps44
    go_wp2_with fail
    go_end0
    exact ⟨rfl, (putW_out (by omega)).symm⟩

theorem putW_size {w : World} {g n : Nat} {p : Int} {e : EvD} {v : Value} : (putW w g n p e v).heap.size = w.heap.size + 1 := by
  unfold putW
  split
  · simp [setMany_size]
  · simp
theorem putW_cell {w : World} {g n b i : Nat} {p : Int} {e : EvD} {v u : Value} (hb : b ≠ g) (hl : b < w.heap.size) (h : w.cell? ⟨b, i, none⟩ = some u) : (putW w g n p e v).cell? ⟨b, i, none⟩ = some u := by
  unfold putW
  split
  · have := setMany_other (g := g) hb (evC e v) (b := p.toNat * 10) h
    have q := (below_alloc (setMany g w (p.toNat * 10) (evC e v)) (.cells (evC e v).toArray 55)).cell (p := ⟨b, i, none⟩) (by rw [setMany_size]; exact hl)
    exact q.trans this
  · exact ((below_alloc w _).cell (p := ⟨b, i, none⟩) hl).trans h
theorem putW_below {w w0 : World} {B g n : Nat} {p : Int} {e : EvD} {v : Value} (hg : B ≤ g) (hB : B ≤ w.heap.size) (h : Below B w0 w) : Below B w0 (putW w g n p e v) := by
  unfold putW
  split
  · have := setMany_below hg (evC e v) (b := p.toNat * 10) h
    exact this.alloc (by rw [setMany_size]; exact hB) _
  · exact h.alloc hB _
/-- Events in a row of the walk's own, their lists of pairs in an elder world. -/
def RowAt (w : World) (g n : Nat) (w1 : World) (hs : List EvD) : Prop :=
  ∃ (F : Nat → Value) (pb : Nat → Option Addr) (pc pg po : Nat → Nat), Vals w g (n * 10) F ∧ (∀ i, i < n → ∀ k, k < 10 → some (F (i * 10 + k)) = (evC (evAt hs i) (.slice (pb i) (evAt hs i).rt.pairs.length (pc i)))[k]?) ∧
    ∀ i, i < n → PairsAt w1 (pb i) (pg i) (po i) (evAt hs i).rt.pairs ∧ (pb i = none → (evAt hs i).rt.pairs.length = 0 ∧ pc i = 0) ∧ (evAt hs i).rt.pairs.length * 16 ≤ 140737488355328
theorem RowAt.put {w w1 : World} {g n : Nat} {hs : List EvD} (h : RowAt w g n w1 hs) (hn : hs.length = n) (hg : g < w.heap.size) (p : Int) (e : EvD) (eb : Option Addr) (ec eg eo : Nat) (hp : PairsAt w1 eb eg eo e.rt.pairs ∧ (eb = none → e.rt.pairs.length = 0 ∧ ec = 0) ∧ e.rt.pairs.length * 16 ≤ 140737488355328) :
    RowAt (putW w g n p e (.slice eb e.rt.pairs.length ec)) g n w1 (putE hs p e) := by
  obtain ⟨F, pb, pc, pg, po, hV, hF, hP⟩ := h
  by_cases hk : 0 ≤ p ∧ p < n
  · obtain ⟨k, rfl⟩ : ∃ k : Nat, p = k := ⟨p.toNat, by omega⟩
    have hk2 : k < n := by omega
    rw [putW_in hk2]
    have hE : ∀ i, i < n → evAt (putE hs (k : Int) e) i = if (k : Int) = i then e else evAt hs i := fun i hi => evAt_put hs k e i (by omega)
    refine ⟨putMany F (k * 10) (evC e (.slice eb e.rt.pairs.length ec)), fun i => if k = i then eb else pb i, fun i => if k = i then ec else pc i, fun i => if k = i then eg else pg i, fun i => if k = i then eo else po i, (setMany_vals _ hV).below (by rw [setMany_size]; exact hg) (below_alloc _ _), fun i hi j hj => ?_, fun i hi => ?_⟩
    · rw [hE i hi]
      by_cases q : k = i
      · subst q
        simp only [if_true]
        exact putMany_in _ (by simpa [evC] using hj)
      · rw [if_neg (by omega), putMany_out _ (by simp [evC]; omega)]
        simp only [if_neg q]
        exact hF i hi j hj
    · rw [hE i hi]
      by_cases q : k = i
      · subst q
        simp only [if_true]
        exact hp
      · rw [if_neg (by omega)]
        simp only [if_neg q]
        exact hP i hi
  · rw [putW_out hk]
    have : putE hs p e = hs := by unfold putE; rw [if_neg (by rw [hn]; exact hk)]
    rw [this]
    exact ⟨F, pb, pc, pg, po, hV.below hg (below_alloc _ _), hF, hP⟩
theorem RowAt.below {w w' w1 : World} {g n : Nat} {hs : List EvD} (h : RowAt w g n w1 hs) (hg : g < w.heap.size) (hb : Below w.heap.size w w') : RowAt w' g n w1 hs := by
  obtain ⟨F, pb, pc, pg, po, hV, hF, hP⟩ := h
  exact ⟨F, pb, pc, pg, po, hV.below hg hb, hF, hP⟩
theorem evAt_empties (l : List CD) (i : Nat) : evAt (empties l) i = ev0 := by
  unfold evAt empties
  rw [List.getD_eq_getElem?_getD, List.getElem?_replicate]
  split <;> rfl
theorem RowAt.made (w w1 : World) (l : List CD) (n : Nat) (T : TypeId) : RowAt (w.alloc (.cells (madeCells #[.int .i64 0, .bool false, .int .i64 0, .int .i64 0, .int .i64 0, .int .i64 0, .bool false, .int .i64 0, .int .i64 0, .slice none 0 0] (n * 10)) T)) w.heap.size n w1 (empties l) := by
  refine ⟨fun j => #[.int .i64 0, .bool false, .int .i64 0, .int .i64 0, .int .i64 0, .int .i64 0, .bool false, .int .i64 0, .int .i64 0, .slice none 0 0][j % 10]!, fun _ => none, fun _ => 0, fun _ => 0, fun _ => 0, fun j hj => ⟨?_, by simp⟩, fun i hi k hk => ?_, fun i hi => ?_⟩
  · rw [cell_new]
    simp [madeCells, hj]
  · rw [evAt_empties]
    simp only [show (i * 10 + k) % 10 = k by omega]
    match k, hk with
    | 0, _ => rfl
    | 1, _ => rfl
    | 2, _ => rfl
    | 3, _ => rfl
    | 4, _ => rfl
    | 5, _ => rfl
    | 6, _ => rfl
    | 7, _ => rfl
    | 8, _ => rfl
    | 9, _ => rfl
  · rw [evAt_empties]
    exact ⟨pairs_none _, fun _ => ⟨rfl, rfl⟩, by simp [ev0, RetD.zero]⟩

set_option maxRecDepth 100000 in
set_option maxHeartbeats 2000000 in
theorem lay_any (a1 : Option Addr) (b1 o1 c1 : Nat) (l : List CD) (pb : Nat → Option Addr) (pc pg po : Nat → Nat) (w : World) (hx : CdsAt w a1 b1 o1 l pb pc pg po) (hsm : l.length ≤ 100000) :
    Calls Try.prog 29 #[.slice a1 l.length c1] w fun e w' => ∃ g, e = .returned (.slice (some ⟨g, 0, none⟩) (cntN l l.length) (cntN l l.length)) ∧ w.heap.size ≤ g ∧ g < w'.heap.size ∧ Below w.heap.size w w' ∧ RowAt w' g (cntN l l.length) w (layL l) := by
  have HX : Hid _ := hx
  clear hx
  have hcn := cntN_le l l.length
  obtain ⟨n, hn⟩ : ∃ n, n = cntN l l.length := ⟨_, rfl⟩
  have HN : Hid _ := hn
  have hm1 : ∀ w : World, (Instr.makeSlice 22 (.int .i64 n) (.int .i64 n)).run Try.prog w = .ok (.slice (some ⟨w.heap.size, 0, none⟩) n n) (w.alloc (.cells (madeCells #[.int .i64 0, .bool false, .int .i64 0, .int .i64 0, .int .i64 0, .int .i64 0, .bool false, .int .i64 0, .int .i64 0, .slice none 0 0] (n * 10)) 55)) := fun w => run_make_known (P := Try.prog) 22 55 (.agg #[.int .i64 0, .bool false, .int .i64 0, .int .i64 0, .int .i64 0, .int .i64 0, .bool false, .int .i64 0, .int .i64 0, .slice none 0 0]) 10 96 evs_under ev_info n (by omega) (by omega) w
  have hmf : ∀ (fn : Fn) (first cap : Array Value) (w : World), (Instr.makeFunc fn first cap).run Try.prog w = .ok (.func fn first cap) w := fun _ _ _ _ => rfl
  have CE := countEvents_any a1 b1 o1 c1 l pb pc pg po w HX.out hsm
  rw [← hn] at CE hcn ⊢
  have HCE : Hid (Calls Try.prog _ _ _ _) := CE
  clear CE hn
  go_enter Try.func29, Try.ntmps29
  go_wp2_with fail
  refine HCE.out.mono ?_
  rintro e w1 ⟨rfl, hb1⟩
  have HB : Hid _ := hb1
  clear hb1
  go_wp2_with fail
  go_loopw [13] (fun i wr => ∃ j : Nat, j ≤ l.length ∧ i = .int .i64 j ∧ Below w.heap.size w wr ∧ w1.heap.size + 1 < wr.heap.size ∧ wr.cell? ⟨w1.heap.size + 1, 0, none⟩ = some (.slice (some ⟨w1.heap.size, 0, none⟩) n n) ∧ RowAt wr w1.heap.size n w (layN l (empties l) j)) (fun i _ => l.length - (intOf i).toNat)
  case atStart =>
    refine ⟨0, Nat.zero_le _, rfl, ?_, by simp, ?_, ?_⟩
    · have := HB.out.size
      exact (HB.out.alloc HB.out.size _).alloc (by simp; omega) _
    · simp
    · exact (RowAt.made w1 w l n _).below (by simp) (below_alloc _ _)
  case round =>
    obtain ⟨j, hj, rfl, hbw, hsz, hq, hrow⟩ := hrel
    have HW : Hid _ := hbw
    have HR : Hid (RowAt _ _ _ _ _) := hrow
    by_cases hlt : j < l.length
    · obtain rfl : a1 = some ⟨b1, o1, none⟩ := HX.out.base (by omega)
      have EX := HX.out.below hbw
      have zx : b1 < wr.heap.size := EX.lt (by omega)
      obtain ⟨d0, d1, d2, d3, d4⟩ := EX.c0 j hlt
      obtain ⟨d5, d6, d7, d8⟩ := EX.c1 j hlt
      obtain ⟨d9, d10⟩ := EX.c2 j hlt
      have j0 : (0 : Int) ≤ (j : Int) := Int.natCast_nonneg _
      have j1 : (j : Int) < (l.length : Int) := by omega
      have hpr := HX.out.prs j hlt
      have HPR : Hid _ := hpr
      obtain ⟨W0, hW0⟩ : ∃ W0, W0 = wr.alloc (.cells #[.int .i64 (cdAt l j).th, .int .i64 (cdAt l j).op.kind, .int .i64 (cdAt l j).op.key, .int .i64 (cdAt l j).op.val, .int .i64 (cdAt l j).op.hi, .bool (cdAt l j).rt.ok, .int .i64 (cdAt l j).rt.key, .int .i64 (cdAt l j).rt.val, .slice (pb j) (cdAt l j).rt.pairs.length (pc j), .int .i64 (cdAt l j).fr, .int .i64 (cdAt l j).to] 44) := ⟨_, rfl⟩
      have hc : ∀ k, W0.cell? ⟨wr.heap.size, k, none⟩ = #[.int .i64 (cdAt l j).th, .int .i64 (cdAt l j).op.kind, .int .i64 (cdAt l j).op.key, .int .i64 (cdAt l j).op.val, .int .i64 (cdAt l j).op.hi, .bool (cdAt l j).rt.ok, .int .i64 (cdAt l j).rt.key, .int .i64 (cdAt l j).rt.val, .slice (pb j) (cdAt l j).rt.pairs.length (pc j), .int .i64 (cdAt l j).fr, .int .i64 (cdAt l j).to][k]? := fun k => by rw [hW0]; exact cell_new wr _ _ k
      have hb0 : Below wr.heap.size wr W0 := by rw [hW0]; exact below_alloc _ _
      have z0 : W0.heap.size = wr.heap.size + 1 := by rw [hW0]; simp
      have q0 : W0.cell? ⟨w1.heap.size + 1, 0, none⟩ = some (.slice (some ⟨w1.heap.size, 0, none⟩) n n) := (hb0.cell (p := ⟨w1.heap.size + 1, 0, none⟩) hsz).trans hq
      have R0 : Hid (RowAt W0 w1.heap.size n w (layN l (empties l) j)) := HR.out.below (by omega) hb0
      have B0 : Hid (Below w.heap.size w W0) := HW.out.trans (hb0.mono HW.out.size)
      have HC : Hid _ := hc
      have HQ0 : Hid _ := q0
      have ll : (layN l (empties l) j).length = n := by rw [layN_length]; unfold empties; rw [List.length_replicate, ← HN.out]
      have HLL : Hid _ := ll
      have hws := HB.out.size
      clear EX hbw hrow hpr hc hb0 q0 ll hq
      go_wp2_with fail
      rw [← hW0]
      clear hW0 d0 d1 d2 d3 d4 d5 d6 d7 d8 d9 d10
      obtain ⟨F, _, _, _, _, hV, _, _⟩ := R0.out
      refine (put_any (cdAt l j).fr (invE (cdAt l j)) none 0 0 (w1.heap.size + 1) w1.heap.size n F _ HQ0.out (by omega) (by omega) hV).mono ?_
      rintro e w2 ⟨rfl, hw2⟩
      have z2 : w2.heap.size = W0.heap.size + 1 := by rw [hw2]; exact putW_size
      have q2 : w2.cell? ⟨w1.heap.size + 1, 0, none⟩ = some (.slice (some ⟨w1.heap.size, 0, none⟩) n n) := by rw [hw2]; exact putW_cell (by omega) (by omega) HQ0.out
      have R2 : Hid (RowAt w2 w1.heap.size n w (putE (layN l (empties l) j) (cdAt l j).fr (invE (cdAt l j)))) := by rw [hw2]; exact R0.out.put HLL.out (by omega) _ _ none 0 0 0 ⟨pairs_none _, fun _ => ⟨rfl, rfl⟩, by simp [invE, RetD.zero]⟩
      have B2 : Hid (Below w.heap.size w w2) := by rw [hw2]; exact putW_below hws (by omega) B0.out
      have k0 : w2.cell? ⟨wr.heap.size, 0, none⟩ = some (.int .i64 (cdAt l j).th) := by rw [hw2]; exact putW_cell (by omega) (by omega) (HC.out 0)
      have k1 : w2.cell? ⟨wr.heap.size, 1, none⟩ = some (.int .i64 (cdAt l j).op.kind) := by rw [hw2]; exact putW_cell (by omega) (by omega) (HC.out 1)
      have k2 : w2.cell? ⟨wr.heap.size, 2, none⟩ = some (.int .i64 (cdAt l j).op.key) := by rw [hw2]; exact putW_cell (by omega) (by omega) (HC.out 2)
      have k3 : w2.cell? ⟨wr.heap.size, 3, none⟩ = some (.int .i64 (cdAt l j).op.val) := by rw [hw2]; exact putW_cell (by omega) (by omega) (HC.out 3)
      have k4 : w2.cell? ⟨wr.heap.size, 4, none⟩ = some (.int .i64 (cdAt l j).op.hi) := by rw [hw2]; exact putW_cell (by omega) (by omega) (HC.out 4)
      have k5 : w2.cell? ⟨wr.heap.size, 5, none⟩ = some (.bool (cdAt l j).rt.ok) := by rw [hw2]; exact putW_cell (by omega) (by omega) (HC.out 5)
      have k6 : w2.cell? ⟨wr.heap.size, 6, none⟩ = some (.int .i64 (cdAt l j).rt.key) := by rw [hw2]; exact putW_cell (by omega) (by omega) (HC.out 6)
      have k7 : w2.cell? ⟨wr.heap.size, 7, none⟩ = some (.int .i64 (cdAt l j).rt.val) := by rw [hw2]; exact putW_cell (by omega) (by omega) (HC.out 7)
      have k8 : w2.cell? ⟨wr.heap.size, 8, none⟩ = some (.slice (pb j) (cdAt l j).rt.pairs.length (pc j)) := by rw [hw2]; exact putW_cell (by omega) (by omega) (HC.out 8)
      have k10 : w2.cell? ⟨wr.heap.size, 10, none⟩ = some (.int .i64 (cdAt l j).to) := by rw [hw2]; exact putW_cell (by omega) (by omega) (HC.out 10)
      have HQ2 : Hid _ := q2
      clear hw2 hV q2
      by_cases ht : (cdAt l j).to = -1
      · have hd : ((cdAt l j).to != -1) = false := by simp [ht]
        have e1 : Hid (layN l (empties l) (j + 1) = putE (layN l (empties l) j) (cdAt l j).fr (invE (cdAt l j))) := by show layOne _ _ = _; unfold layOne; rw [if_pos ht]
        clear ht
        go_wp2_with fail
        exact ⟨⟨j + 1, by omega, by go_num, B2.out, by omega, HQ2.out, by rw [e1.out]; exact R2.out⟩, by simp [intOf]; omega⟩
      · have hd : ((cdAt l j).to != -1) = true := by simp [ht]
        have e1 : Hid (layN l (empties l) (j + 1) = putE (putE (layN l (empties l) j) (cdAt l j).fr (invE (cdAt l j))) (cdAt l j).to (retE (cdAt l j))) := by show layOne _ _ = _; unfold layOne; rw [if_neg ht]
        clear ht
        go_wp2_with fail
        obtain ⟨F2, _, _, _, _, hV, _, _⟩ := R2.out
        refine (put_any (cdAt l j).to (retE (cdAt l j)) (pb j) (cdAt l j).rt.pairs.length (pc j) (w1.heap.size + 1) w1.heap.size n F2 _ HQ2.out (by omega) (by omega) hV).mono ?_
        rintro e w3 ⟨rfl, hw3⟩
        have z3 : w3.heap.size = w2.heap.size + 1 := by rw [hw3]; exact putW_size
        have HQ3 : Hid (w3.cell? ⟨w1.heap.size + 1, 0, none⟩ = some (.slice (some ⟨w1.heap.size, 0, none⟩) n n)) := by show w3.cell? _ = _; rw [hw3]; exact putW_cell (by omega) (by omega) HQ2.out
        have R3 : Hid (RowAt w3 w1.heap.size n w (putE (putE (layN l (empties l) j) (cdAt l j).fr (invE (cdAt l j))) (cdAt l j).to (retE (cdAt l j)))) := by rw [hw3]; exact R2.out.put (by rw [putE_length]; exact HLL.out) (by omega) _ (retE (cdAt l j)) (pb j) (pc j) (pg j) (po j) HPR.out
        have B3 : Hid (Below w.heap.size w w3) := by rw [hw3]; exact putW_below hws (by omega) B2.out
        clear hw3 hV k0 k1 k2 k3 k4 k5 k6 k7 k8 k10
        go_wp2_with fail
        exact ⟨⟨j + 1, by omega, by go_num, B3.out, by omega, HQ3.out, by rw [e1.out]; exact R3.out⟩, by simp [intOf]; omega⟩
    · obtain rfl : j = l.length := by omega
      clear hbw hrow
      go_wp2_with fail
      go_ret
      exact ⟨w1.heap.size, rfl, HB.out.size, by omega, HW.out, HR.out⟩
end Go.Proofs.Ytgbfippcnmpgfaa
