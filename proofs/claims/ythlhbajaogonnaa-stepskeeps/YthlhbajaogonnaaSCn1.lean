
/- Layer 18: the reference's can. Made by mk_scan.py. -/

import Derived.Test.YthlhbajaogonnaaSPt2

namespace Go.Proofs.Ythlhbajaogonnaa

open Go.RowKit

attribute [local go_sem ↓] Go.wp_at_zero Go.wp_at_succ

set_option maxRecDepth 100000 in
theorem left_det {B : Nat} {o : Option PT} {v : Value} {w : World} (h : POAt w B o v) : ∃ u, POAt w B (plO o) u ∧ ∀ z, Below w.heap.size w z → Calls Try.prog 60 #[v] z fun e w' => e = .returned u ∧ Below z.heap.size z w' := by
  cases o with
  | none =>
    obtain rfl : v = .pointer none := h
    refine ⟨_, rfl, fun z hz => ?_⟩
    clear hz
    go_enter Try.func60, Try.ntmps60
    go_wp2_with fail
    go_ret
    exact ⟨rfl, Below.refl _ _⟩
  | some P =>
    obtain ⟨g, rfl, hP⟩ := h
    obtain ⟨vl, vr, hb, hL, -⟩ := hP.block
    refine ⟨vl, hL, fun z hz => ?_⟩
    have hb' := (hz.block g (Array.getElem?_eq_some_iff.1 hb).1).trans hb
    have c6 : z.cell? ⟨g, 6, none⟩ = some vl := (cell_of hb' 6 _ rfl).1
    have hl := (Array.getElem?_eq_some_iff.1 hb').1
    clear hb hb' hP hL hz
    go_enter Try.func60, Try.ntmps60
    go_wp2_with fail
    go_ret
    exact ⟨rfl, Below.refl _ _⟩
set_option maxRecDepth 100000 in
theorem right_det {B : Nat} {o : Option PT} {v : Value} {w : World} (h : POAt w B o v) : ∃ u, POAt w B (prO o) u ∧ ∀ z, Below w.heap.size w z → Calls Try.prog 61 #[v] z fun e w' => e = .returned u ∧ Below z.heap.size z w' := by
  cases o with
  | none =>
    obtain rfl : v = .pointer none := h
    refine ⟨_, rfl, fun z hz => ?_⟩
    clear hz
    go_enter Try.func61, Try.ntmps61
    go_wp2_with fail
    go_ret
    exact ⟨rfl, Below.refl _ _⟩
  | some P =>
    obtain ⟨g, rfl, hP⟩ := h
    obtain ⟨vl, vr, hb, -, hL⟩ := hP.block
    refine ⟨vr, hL, fun z hz => ?_⟩
    have hb' := (hz.block g (Array.getElem?_eq_some_iff.1 hb).1).trans hb
    have c7 : z.cell? ⟨g, 7, none⟩ = some vr := (cell_of hb' 7 _ rfl).1
    have hl := (Array.getElem?_eq_some_iff.1 hb').1
    clear hb hb' hP hL hz
    go_enter Try.func61, Try.ntmps61
    go_wp2_with fail
    go_ret
    exact ⟨rfl, Below.refl _ _⟩
/-- What w, left, right, inner answer of a value, from a world on. -/
structure WV (w : World) (v : Value) (q : Int) : Prop where
  out : ∀ z, Below w.heap.size w z → Calls Try.prog 62 #[v] z fun e w' => e = .returned (.int .i64 q) ∧ Below z.heap.size z w'
structure LV (w : World) (v u : Value) : Prop where
  out : ∀ z, Below w.heap.size w z → Calls Try.prog 60 #[v] z fun e w' => e = .returned u ∧ Below z.heap.size z w'
structure RV (w : World) (v u : Value) : Prop where
  out : ∀ z, Below w.heap.size w z → Calls Try.prog 61 #[v] z fun e w' => e = .returned u ∧ Below z.heap.size z w'
structure IV (w : World) (v : Value) (q : Int) (i : Bool) : Prop where
  out : ∀ z, (q == 0) = true → Below w.heap.size w z → Calls Try.prog 63 #[v] z fun e w' => e = .returned (.bool i) ∧ Below z.heap.size z w'
theorem inner_det {B : Nat} {o : Option PT} {v : Value} {w : World} (h : POAt w B o v) (z : World) (hq : (pwO o == 0) = true) (hz : Below w.heap.size w z) : Calls Try.prog 63 #[v] z fun e w' => e = .returned (.bool (inO (Option.map PT.bt o))) ∧ Below z.heap.size z w' := by
  cases o with
  | none => simp [pwO] at hq
  | some P => exact inner_any B P v z (h.below hz)
set_option maxRecDepth 100000 in
set_option maxHeartbeats 4000000 in
theorem rcan11 (B : Nat) (o : Option PT) (v : Value) (root : Bool) (w : World) (h : POAt w B o v) :
    Calls Try.prog 28 #[v, .int .i64 11, .bool root] w fun e w' => e = .returned (.bool ((decide (1 < pwO (plO o)) && decide (1 < pwO (prO o))))) ∧ Below w.heap.size w w' := by
  obtain ⟨vl, hl, cl⟩ := left_det h
  obtain ⟨vr, hr, cr⟩ := right_det h
  obtain ⟨vll, hll, cll⟩ := left_det hl
  obtain ⟨vlr, hlr, clr⟩ := right_det hl
  obtain ⟨vrl, hrl, crl⟩ := left_det hr
  obtain ⟨vrr, hrr, crr⟩ := right_det hr
  obtain ⟨vrll, hrll, crll⟩ := left_det hrl
  obtain ⟨vrlr, hrlr, crlr⟩ := right_det hrl
  have Cl : LV w v vl := ⟨cl⟩
  have Cr : RV w v vr := ⟨cr⟩
  have Cll : LV w vl vll := ⟨cll⟩
  have Clr : RV w vl vlr := ⟨clr⟩
  have Crl : LV w vr vrl := ⟨crl⟩
  have Crr : RV w vr vrr := ⟨crr⟩
  have Crll : LV w vrl vrll := ⟨crll⟩
  have Crlr : RV w vrl vrlr := ⟨crlr⟩
  have Wx : WV w v (pwO o) := ⟨fun z hz => w_any B _ _ z (h.below hz)⟩
  have Wl : WV w vl (pwO (plO o)) := ⟨fun z hz => w_any B _ _ z (hl.below hz)⟩
  have Wr : WV w vr (pwO (prO o)) := ⟨fun z hz => w_any B _ _ z (hr.below hz)⟩
  have Wll : WV w vll (pwO (plO (plO o))) := ⟨fun z hz => w_any B _ _ z (hll.below hz)⟩
  have Wlr : WV w vlr (pwO (prO (plO o))) := ⟨fun z hz => w_any B _ _ z (hlr.below hz)⟩
  have Wrl : WV w vrl (pwO (plO (prO o))) := ⟨fun z hz => w_any B _ _ z (hrl.below hz)⟩
  have Wrr : WV w vrr (pwO (prO (prO o))) := ⟨fun z hz => w_any B _ _ z (hrr.below hz)⟩
  have Wrll : WV w vrll (pwO (plO (plO (prO o)))) := ⟨fun z hz => w_any B _ _ z (hrll.below hz)⟩
  have Wrlr : WV w vrlr (pwO (prO (plO (prO o)))) := ⟨fun z hz => w_any B _ _ z (hrlr.below hz)⟩
  have B0 : Hid (Below w.heap.size w w) := Below.refl _ _
  clear cl cr cll clr crl crr crll crlr h hl hr hll hlr hrl hrr hrll hrlr
  generalize pwO (prO (plO (prO o))) = qrlr at *
  generalize pwO (plO (plO (prO o))) = qrll at *
  generalize pwO (prO (prO o)) = qrr at *
  generalize pwO (plO (prO o)) = qrl at *
  generalize pwO (prO (plO o)) = qlr at *
  generalize pwO (plO (plO o)) = qll at *
  generalize pwO (prO o) = qr at *
  generalize pwO (plO o) = ql at *
  generalize pwO o = qx at *
  obtain ⟨E, hE⟩ : ∃ E : Bool, E = ((decide (1 < ql) && decide (1 < qr))) := ⟨_, rfl⟩
  rw [← hE]
  have HF : Hid (E = ((decide (1 < ql) && decide (1 < qr)))) := hE
  clear hE
  cases e1 : decide (1 < ql)
  · rw [e1] at HF
    go_enter Try.func28, Try.ntmps28
    go_wp2_with (first | (go_at_call 62; refine (WV.out (w := w) (by first | (with_reducible exact Wx) | (with_reducible exact Wl) | (with_reducible exact Wr) | (with_reducible exact Wll) | (with_reducible exact Wlr) | (with_reducible exact Wrl) | (with_reducible exact Wrr) | (with_reducible exact Wrll) | (with_reducible exact Wrlr)) _ B0.out).mono ?_; rintro e w1 ⟨rfl, hb1⟩; have B' : Hid (Below w.heap.size w w1) := B0.out.trans (hb1.mono B0.out.size); clear hb1 B0; have B0 : Hid (Below w.heap.size w w1) := B'.out; clear B') | (go_at_call 60; refine (LV.out (w := w) (by first | (with_reducible exact Cl) | (with_reducible exact Cll) | (with_reducible exact Crl) | (with_reducible exact Crll)) _ B0.out).mono ?_; rintro e w1 ⟨rfl, hb1⟩; have B' : Hid (Below w.heap.size w w1) := B0.out.trans (hb1.mono B0.out.size); clear hb1 B0; have B0 : Hid (Below w.heap.size w w1) := B'.out; clear B') | (go_at_call 61; refine (RV.out (w := w) (by first | (with_reducible exact Cr) | (with_reducible exact Clr) | (with_reducible exact Crr) | (with_reducible exact Crlr)) _ B0.out).mono ?_; rintro e w1 ⟨rfl, hb1⟩; have B' : Hid (Below w.heap.size w w1) := B0.out.trans (hb1.mono B0.out.size); clear hb1 B0; have B0 : Hid (Below w.heap.size w w1) := B'.out; clear B'))
    go_ret
    exact ⟨by rw [HF.out]; rfl, B0.out⟩
  · rw [e1] at HF
    cases e2 : decide (1 < qr)
    · rw [e2] at HF
      go_enter Try.func28, Try.ntmps28
      go_wp2_with (first | (go_at_call 62; refine (WV.out (w := w) (by first | (with_reducible exact Wx) | (with_reducible exact Wl) | (with_reducible exact Wr) | (with_reducible exact Wll) | (with_reducible exact Wlr) | (with_reducible exact Wrl) | (with_reducible exact Wrr) | (with_reducible exact Wrll) | (with_reducible exact Wrlr)) _ B0.out).mono ?_; rintro e w1 ⟨rfl, hb1⟩; have B' : Hid (Below w.heap.size w w1) := B0.out.trans (hb1.mono B0.out.size); clear hb1 B0; have B0 : Hid (Below w.heap.size w w1) := B'.out; clear B') | (go_at_call 60; refine (LV.out (w := w) (by first | (with_reducible exact Cl) | (with_reducible exact Cll) | (with_reducible exact Crl) | (with_reducible exact Crll)) _ B0.out).mono ?_; rintro e w1 ⟨rfl, hb1⟩; have B' : Hid (Below w.heap.size w w1) := B0.out.trans (hb1.mono B0.out.size); clear hb1 B0; have B0 : Hid (Below w.heap.size w w1) := B'.out; clear B') | (go_at_call 61; refine (RV.out (w := w) (by first | (with_reducible exact Cr) | (with_reducible exact Clr) | (with_reducible exact Crr) | (with_reducible exact Crlr)) _ B0.out).mono ?_; rintro e w1 ⟨rfl, hb1⟩; have B' : Hid (Below w.heap.size w w1) := B0.out.trans (hb1.mono B0.out.size); clear hb1 B0; have B0 : Hid (Below w.heap.size w w1) := B'.out; clear B'))
      go_ret
      exact ⟨by rw [HF.out]; rfl, B0.out⟩
    · rw [e2] at HF
      go_enter Try.func28, Try.ntmps28
      go_wp2_with (first | (go_at_call 62; refine (WV.out (w := w) (by first | (with_reducible exact Wx) | (with_reducible exact Wl) | (with_reducible exact Wr) | (with_reducible exact Wll) | (with_reducible exact Wlr) | (with_reducible exact Wrl) | (with_reducible exact Wrr) | (with_reducible exact Wrll) | (with_reducible exact Wrlr)) _ B0.out).mono ?_; rintro e w1 ⟨rfl, hb1⟩; have B' : Hid (Below w.heap.size w w1) := B0.out.trans (hb1.mono B0.out.size); clear hb1 B0; have B0 : Hid (Below w.heap.size w w1) := B'.out; clear B') | (go_at_call 60; refine (LV.out (w := w) (by first | (with_reducible exact Cl) | (with_reducible exact Cll) | (with_reducible exact Crl) | (with_reducible exact Crll)) _ B0.out).mono ?_; rintro e w1 ⟨rfl, hb1⟩; have B' : Hid (Below w.heap.size w w1) := B0.out.trans (hb1.mono B0.out.size); clear hb1 B0; have B0 : Hid (Below w.heap.size w w1) := B'.out; clear B') | (go_at_call 61; refine (RV.out (w := w) (by first | (with_reducible exact Cr) | (with_reducible exact Clr) | (with_reducible exact Crr) | (with_reducible exact Crlr)) _ B0.out).mono ?_; rintro e w1 ⟨rfl, hb1⟩; have B' : Hid (Below w.heap.size w w1) := B0.out.trans (hb1.mono B0.out.size); clear hb1 B0; have B0 : Hid (Below w.heap.size w w1) := B'.out; clear B'))
      go_ret
      exact ⟨by rw [HF.out]; rfl, B0.out⟩
end Go.Proofs.Ythlhbajaogonnaa
