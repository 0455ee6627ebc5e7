
/- Layer 18: the reference's can. Made by mk_scan.py. -/

import Derived.Test.YthlhbajaogonnaaSCn1

namespace Go.Proofs.Ythlhbajaogonnaa

open Go.RowKit

attribute [local go_sem ↓] Go.wp_at_zero Go.wp_at_succ

set_option maxRecDepth 100000 in
set_option maxHeartbeats 4000000 in
theorem rcan1 (B : Nat) (o : Option PT) (v : Value) (root : Bool) (w : World) (h : POAt w B o v) :
    Calls Try.prog 28 #[v, .int .i64 1, .bool root] w fun e w' => e = .returned (.bool (((pwO (plO o) == 0) && ((pwO (prO o) == 0) && (decide (0 < pwO o) && ((pwO (plO (plO o)) == 0) || ((pwO (prO (plO o)) == 0) || ((pwO (plO (prO o)) == 0) || (pwO (prO (prO o)) == 0))))))))) ∧ Below w.heap.size w w' := by
  obtain ⟨vl, hl, cl⟩ := left_det h
  obtain ⟨vr, hr, cr⟩ := right_det h
  obtain ⟨vll, hll, cll⟩ := left_det hl
  obtain ⟨vlr, hlr, clr⟩ := right_det hl
  obtain ⟨vrl, hrl, crl⟩ := left_det hr
  obtain ⟨vrr, hrr, crr⟩ := right_det hr
  obtain ⟨vrll, hrll, crll⟩ := left_det hrl
  obtain ⟨vrlr, hrlr, crlr⟩ := right_det hrl
  have Cl : LV w v vl := ⟨cl⟩
  have Cr : RV w v vr := ⟨cr⟩
  have Cll : LV w vl vll := ⟨cll⟩
  have Clr : RV w vl vlr := ⟨clr⟩
  have Crl : LV w vr vrl := ⟨crl⟩
  have Crr : RV w vr vrr := ⟨crr⟩
  have Crll : LV w vrl vrll := ⟨crll⟩
  have Crlr : RV w vrl vrlr := ⟨crlr⟩
  have Wx : WV w v (pwO o) := ⟨fun z hz => w_any B _ _ z (h.below hz)⟩
  have Wl : WV w vl (pwO (plO o)) := ⟨fun z hz => w_any B _ _ z (hl.below hz)⟩
  have Wr : WV w vr (pwO (prO o)) := ⟨fun z hz => w_any B _ _ z (hr.below hz)⟩
  have Wll : WV w vll (pwO (plO (plO o))) := ⟨fun z hz => w_any B _ _ z (hll.below hz)⟩
  have Wlr : WV w vlr (pwO (prO (plO o))) := ⟨fun z hz => w_any B _ _ z (hlr.below hz)⟩
  have Wrl : WV w vrl (pwO (plO (prO o))) := ⟨fun z hz => w_any B _ _ z (hrl.below hz)⟩
  have Wrr : WV w vrr (pwO (prO (prO o))) := ⟨fun z hz => w_any B _ _ z (hrr.below hz)⟩
  have Wrll : WV w vrll (pwO (plO (plO (prO o)))) := ⟨fun z hz => w_any B _ _ z (hrll.below hz)⟩
  have Wrlr : WV w vrlr (pwO (prO (plO (prO o)))) := ⟨fun z hz => w_any B _ _ z (hrlr.below hz)⟩
  have B0 : Hid (Below w.heap.size w w) := Below.refl _ _
  clear cl cr cll clr crl crr crll crlr h hl hr hll hlr hrl hrr hrll hrlr
  generalize pwO (prO (plO (prO o))) = qrlr at *
  generalize pwO (plO (plO (prO o))) = qrll at *
  generalize pwO (prO (prO o)) = qrr at *
  generalize pwO (plO (prO o)) = qrl at *
  generalize pwO (prO (plO o)) = qlr at *
  generalize pwO (plO (plO o)) = qll at *
  generalize pwO (prO o) = qr at *
  generalize pwO (plO o) = ql at *
  generalize pwO o = qx at *
  obtain ⟨E, hE⟩ : ∃ E : Bool, E = (((ql == 0) && ((qr == 0) && (decide (0 < qx) && ((qll == 0) || ((qlr == 0) || ((qrl == 0) || (qrr == 0)))))))) := ⟨_, rfl⟩
  rw [← hE]
  have HF : Hid (E = (((ql == 0) && ((qr == 0) && (decide (0 < qx) && ((qll == 0) || ((qlr == 0) || ((qrl == 0) || (qrr == 0))))))))) := hE
  clear hE
  cases e1 : (qll == 0)
  · rw [e1] at HF
    cases e2 : (qlr == 0)
    · rw [e2] at HF
      cases e3 : (qrl == 0)
      · rw [e3] at HF
        cases e4 : (qrr == 0)
        · rw [e4] at HF
          cases e5 : (ql == 0)
          · rw [e5] at HF
            go_enter Try.func28, Try.ntmps28
            go_wp2_with (first | (go_at_call 62; refine (WV.out (w := w) (by first | (with_reducible exact Wx) | (with_reducible exact Wl) | (with_reducible exact Wr) | (with_reducible exact Wll) | (with_reducible exact Wlr) | (with_reducible exact Wrl) | (with_reducible exact Wrr) | (with_reducible exact Wrll) | (with_reducible exact Wrlr)) _ B0.out).mono ?_; rintro e w1 ⟨rfl, hb1⟩; have B' : Hid (Below w.heap.size w w1) := B0.out.trans (hb1.mono B0.out.size); clear hb1 B0; have B0 : Hid (Below w.heap.size w w1) := B'.out; clear B') | (go_at_call 60; refine (LV.out (w := w) (by first | (with_reducible exact Cl) | (with_reducible exact Cll) | (with_reducible exact Crl) | (with_reducible exact Crll)) _ B0.out).mono ?_; rintro e w1 ⟨rfl, hb1⟩; have B' : Hid (Below w.heap.size w w1) := B0.out.trans (hb1.mono B0.out.size); clear hb1 B0; have B0 : Hid (Below w.heap.size w w1) := B'.out; clear B') | (go_at_call 61; refine (RV.out (w := w) (by first | (with_reducible exact Cr) | (with_reducible exact Clr) | (with_reducible exact Crr) | (with_reducible exact Crlr)) _ B0.out).mono ?_; rintro e w1 ⟨rfl, hb1⟩; have B' : Hid (Below w.heap.size w w1) := B0.out.trans (hb1.mono B0.out.size); clear hb1 B0; have B0 : Hid (Below w.heap.size w w1) := B'.out; clear B'))
            go_ret
            exact ⟨by rw [HF.out]; rfl, B0.out⟩
          · rw [e5] at HF
            cases e6 : (qr == 0)
            · rw [e6] at HF
              go_enter Try.func28, Try.ntmps28
              go_wp2_with (first | (go_at_call 62; refine (WV.out (w := w) (by first | (with_reducible exact Wx) | (with_reducible exact Wl) | (with_reducible exact Wr) | (with_reducible exact Wll) | (with_reducible exact Wlr) | (with_reducible exact Wrl) | (with_reducible exact Wrr) | (with_reducible exact Wrll) | (with_reducible exact Wrlr)) _ B0.out).mono ?_; rintro e w1 ⟨rfl, hb1⟩; have B' : Hid (Below w.heap.size w w1) := B0.out.trans (hb1.mono B0.out.size); clear hb1 B0; have B0 : Hid (Below w.heap.size w w1) := B'.out; clear B') | (go_at_call 60; refine (LV.out (w := w) (by first | (with_reducible exact Cl) | (with_reducible exact Cll) | (with_reducible exact Crl) | (with_reducible exact Crll)) _ B0.out).mono ?_; rintro e w1 ⟨rfl, hb1⟩; have B' : Hid (Below w.heap.size w w1) := B0.out.trans (hb1.mono B0.out.size); clear hb1 B0; have B0 : Hid (Below w.heap.size w w1) := B'.out; clear B') | (go_at_call 61; refine (RV.out (w := w) (by first | (with_reducible exact Cr) | (with_reducible exact Clr) | (with_reducible exact Crr) | (with_reducible exact Crlr)) _ B0.out).mono ?_; rintro e w1 ⟨rfl, hb1⟩; have B' : Hid (Below w.heap.size w w1) := B0.out.trans (hb1.mono B0.out.size); clear hb1 B0; have B0 : Hid (Below w.heap.size w w1) := B'.out; clear B'))
              go_ret
              exact ⟨by rw [HF.out]; rfl, B0.out⟩
            · rw [e6] at HF
              cases e7 : decide (0 < qx)
              · rw [e7] at HF
                go_enter Try.func28, Try.ntmps28
                go_wp2_with (first | (go_at_call 62; refine (WV.out (w := w) (by first | (with_reducible exact Wx) | (with_reducible exact Wl) | (with_reducible exact Wr) | (with_reducible exact Wll) | (with_reducible exact Wlr) | (with_reducible exact Wrl) | (with_reducible exact Wrr) | (with_reducible exact Wrll) | (with_reducible exact Wrlr)) _ B0.out).mono ?_; rintro e w1 ⟨rfl, hb1⟩; have B' : Hid (Below w.heap.size w w1) := B0.out.trans (hb1.mono B0.out.size); clear hb1 B0; have B0 : Hid (Below w.heap.size w w1) := B'.out; clear B') | (go_at_call 60; refine (LV.out (w := w) (by first | (with_reducible exact Cl) | (with_reducible exact Cll) | (with_reducible exact Crl) | (with_reducible exact Crll)) _ B0.out).mono ?_; rintro e w1 ⟨rfl, hb1⟩; have B' : Hid (Below w.heap.size w w1) := B0.out.trans (hb1.mono B0.out.size); clear hb1 B0; have B0 : Hid (Below w.heap.size w w1) := B'.out; clear B') | (go_at_call 61; refine (RV.out (w := w) (by first | (with_reducible exact Cr) | (with_reducible exact Clr) | (with_reducible exact Crr) | (with_reducible exact Crlr)) _ B0.out).mono ?_; rintro e w1 ⟨rfl, hb1⟩; have B' : Hid (Below w.heap.size w w1) := B0.out.trans (hb1.mono B0.out.size); clear hb1 B0; have B0 : Hid (Below w.heap.size w w1) := B'.out; clear B'))
                go_ret
                exact ⟨by rw [HF.out]; rfl, B0.out⟩
              · rw [e7] at HF
                go_enter Try.func28, Try.ntmps28
                go_wp2_with (first | (go_at_call 62; refine (WV.out (w := w) (by first | (with_reducible exact Wx) | (with_reducible exact Wl) | (with_reducible exact Wr) | (with_reducible exact Wll) | (with_reducible exact Wlr) | (with_reducible exact Wrl) | (with_reducible exact Wrr) | (with_reducible exact Wrll) | (with_reducible exact Wrlr)) _ B0.out).mono ?_; rintro e w1 ⟨rfl, hb1⟩; have B' : Hid (Below w.heap.size w w1) := B0.out.trans (hb1.mono B0.out.size); clear hb1 B0; have B0 : Hid (Below w.heap.size w w1) := B'.out; clear B') | (go_at_call 60; refine (LV.out (w := w) (by first | (with_reducible exact Cl) | (with_reducible exact Cll) | (with_reducible exact Crl) | (with_reducible exact Crll)) _ B0.out).mono ?_; rintro e w1 ⟨rfl, hb1⟩; have B' : Hid (Below w.heap.size w w1) := B0.out.trans (hb1.mono B0.out.size); clear hb1 B0; have B0 : Hid (Below w.heap.size w w1) := B'.out; clear B') | (go_at_call 61; refine (RV.out (w := w) (by first | (with_reducible exact Cr) | (with_reducible exact Clr) | (with_reducible exact Crr) | (with_reducible exact Crlr)) _ B0.out).mono ?_; rintro e w1 ⟨rfl, hb1⟩; have B' : Hid (Below w.heap.size w w1) := B0.out.trans (hb1.mono B0.out.size); clear hb1 B0; have B0 : Hid (Below w.heap.size w w1) := B'.out; clear B'))
                go_ret
                exact ⟨by rw [HF.out]; rfl, B0.out⟩
        · rw [e4] at HF
          cases e8 : (ql == 0)
          · rw [e8] at HF
            go_enter Try.func28, Try.ntmps28
            go_wp2_with (first | (go_at_call 62; refine (WV.out (w := w) (by first | (with_reducible exact Wx) | (with_reducible exact Wl) | (with_reducible exact Wr) | (with_reducible exact Wll) | (with_reducible exact Wlr) | (with_reducible exact Wrl) | (with_reducible exact Wrr) | (with_reducible exact Wrll) | (with_reducible exact Wrlr)) _ B0.out).mono ?_; rintro e w1 ⟨rfl, hb1⟩; have B' : Hid (Below w.heap.size w w1) := B0.out.trans (hb1.mono B0.out.size); clear hb1 B0; have B0 : Hid (Below w.heap.size w w1) := B'.out; clear B') | (go_at_call 60; refine (LV.out (w := w) (by first | (with_reducible exact Cl) | (with_reducible exact Cll) | (with_reducible exact Crl) | (with_reducible exact Crll)) _ B0.out).mono ?_; rintro e w1 ⟨rfl, hb1⟩; have B' : Hid (Below w.heap.size w w1) := B0.out.trans (hb1.mono B0.out.size); clear hb1 B0; have B0 : Hid (Below w.heap.size w w1) := B'.out; clear B') | (go_at_call 61; refine (RV.out (w := w) (by first | (with_reducible exact Cr) | (with_reducible exact Clr) | (with_reducible exact Crr) | (with_reducible exact Crlr)) _ B0.out).mono ?_; rintro e w1 ⟨rfl, hb1⟩; have B' : Hid (Below w.heap.size w w1) := B0.out.trans (hb1.mono B0.out.size); clear hb1 B0; have B0 : Hid (Below w.heap.size w w1) := B'.out; clear B'))
            go_ret
            exact ⟨by rw [HF.out]; rfl, B0.out⟩
          · rw [e8] at HF
            cases e9 : (qr == 0)
            · rw [e9] at HF
              go_enter Try.func28, Try.ntmps28
              go_wp2_with (first | (go_at_call 62; refine (WV.out (w := w) (by first | (with_reducible exact Wx) | (with_reducible exact Wl) | (with_reducible exact Wr) | (with_reducible exact Wll) | (with_reducible exact Wlr) | (with_reducible exact Wrl) | (with_reducible exact Wrr) | (with_reducible exact Wrll) | (with_reducible exact Wrlr)) _ B0.out).mono ?_; rintro e w1 ⟨rfl, hb1⟩; have B' : Hid (Below w.heap.size w w1) := B0.out.trans (hb1.mono B0.out.size); clear hb1 B0; have B0 : Hid (Below w.heap.size w w1) := B'.out; clear B') | (go_at_call 60; refine (LV.out (w := w) (by first | (with_reducible exact Cl) | (with_reducible exact Cll) | (with_reducible exact Crl) | (with_reducible exact Crll)) _ B0.out).mono ?_; rintro e w1 ⟨rfl, hb1⟩; have B' : Hid (Below w.heap.size w w1) := B0.out.trans (hb1.mono B0.out.size); clear hb1 B0; have B0 : Hid (Below w.heap.size w w1) := B'.out; clear B') | (go_at_call 61; refine (RV.out (w := w) (by first | (with_reducible exact Cr) | (with_reducible exact Clr) | (with_reducible exact Crr) | (with_reducible exact Crlr)) _ B0.out).mono ?_; rintro e w1 ⟨rfl, hb1⟩; have B' : Hid (Below w.heap.size w w1) := B0.out.trans (hb1.mono B0.out.size); clear hb1 B0; have B0 : Hid (Below w.heap.size w w1) := B'.out; clear B'))
              go_ret
              exact ⟨by rw [HF.out]; rfl, B0.out⟩
            · rw [e9] at HF
              cases e10 : decide (0 < qx)
              · rw [e10] at HF
                go_enter Try.func28, Try.ntmps28
                go_wp2_with (first | (go_at_call 62; refine (WV.out (w := w) (by first | (with_reducible exact Wx) | (with_reducible exact Wl) | (with_reducible exact Wr) | (with_reducible exact Wll) | (with_reducible exact Wlr) | (with_reducible exact Wrl) | (with_reducible exact Wrr) | (with_reducible exact Wrll) | (with_reducible exact Wrlr)) _ B0.out).mono ?_; rintro e w1 ⟨rfl, hb1⟩; have B' : Hid (Below w.heap.size w w1) := B0.out.trans (hb1.mono B0.out.size); clear hb1 B0; have B0 : Hid (Below w.heap.size w w1) := B'.out; clear B') | (go_at_call 60; refine (LV.out (w := w) (by first | (with_reducible exact Cl) | (with_reducible exact Cll) | (with_reducible exact Crl) | (with_reducible exact Crll)) _ B0.out).mono ?_; rintro e w1 ⟨rfl, hb1⟩; have B' : Hid (Below w.heap.size w w1) := B0.out.trans (hb1.mono B0.out.size); clear hb1 B0; have B0 : Hid (Below w.heap.size w w1) := B'.out; clear B') | (go_at_call 61; refine (RV.out (w := w) (by first | (with_reducible exact Cr) | (with_reducible exact Clr) | (with_reducible exact Crr) | (with_reducible exact Crlr)) _ B0.out).mono ?_; rintro e w1 ⟨rfl, hb1⟩; have B' : Hid (Below w.heap.size w w1) := B0.out.trans (hb1.mono B0.out.size); clear hb1 B0; have B0 : Hid (Below w.heap.size w w1) := B'.out; clear B'))
                go_ret
                exact ⟨by rw [HF.out]; rfl, B0.out⟩
              · rw [e10] at HF
                go_enter Try.func28, Try.ntmps28
                go_wp2_with (first | (go_at_call 62; refine (WV.out (w := w) (by first | (with_reducible exact Wx) | (with_reducible exact Wl) | (with_reducible exact Wr) | (with_reducible exact Wll) | (with_reducible exact Wlr) | (with_reducible exact Wrl) | (with_reducible exact Wrr) | (with_reducible exact Wrll) | (with_reducible exact Wrlr)) _ B0.out).mono ?_; rintro e w1 ⟨rfl, hb1⟩; have B' : Hid (Below w.heap.size w w1) := B0.out.trans (hb1.mono B0.out.size); clear hb1 B0; have B0 : Hid (Below w.heap.size w w1) := B'.out; clear B') | (go_at_call 60; refine (LV.out (w := w) (by first | (with_reducible exact Cl) | (with_reducible exact Cll) | (with_reducible exact Crl) | (with_reducible exact Crll)) _ B0.out).mono ?_; rintro e w1 ⟨rfl, hb1⟩; have B' : Hid (Below w.heap.size w w1) := B0.out.trans (hb1.mono B0.out.size); clear hb1 B0; have B0 : Hid (Below w.heap.size w w1) := B'.out; clear B') | (go_at_call 61; refine (RV.out (w := w) (by first | (with_reducible exact Cr) | (with_reducible exact Clr) | (with_reducible exact Crr) | (with_reducible exact Crlr)) _ B0.out).mono ?_; rintro e w1 ⟨rfl, hb1⟩; have B' : Hid (Below w.heap.size w w1) := B0.out.trans (hb1.mono B0.out.size); clear hb1 B0; have B0 : Hid (Below w.heap.size w w1) := B'.out; clear B'))
                go_ret
                exact ⟨by rw [HF.out]; rfl, B0.out⟩
      · rw [e3] at HF
        cases e11 : (ql == 0)
        · rw [e11] at HF
          go_enter Try.func28, Try.ntmps28
          go_wp2_with (first | (go_at_call 62; refine (WV.out (w := w) (by first | (with_reducible exact Wx) | (with_reducible exact Wl) | (with_reducible exact Wr) | (with_reducible exact Wll) | (with_reducible exact Wlr) | (with_reducible exact Wrl) | (with_reducible exact Wrr) | (with_reducible exact Wrll) | (with_reducible exact Wrlr)) _ B0.out).mono ?_; rintro e w1 ⟨rfl, hb1⟩; have B' : Hid (Below w.heap.size w w1) := B0.out.trans (hb1.mono B0.out.size); clear hb1 B0; have B0 : Hid (Below w.heap.size w w1) := B'.out; clear B') | (go_at_call 60; refine (LV.out (w := w) (by first | (with_reducible exact Cl) | (with_reducible exact Cll) | (with_reducible exact Crl) | (with_reducible exact Crll)) _ B0.out).mono ?_; rintro e w1 ⟨rfl, hb1⟩; have B' : Hid (Below w.heap.size w w1) := B0.out.trans (hb1.mono B0.out.size); clear hb1 B0; have B0 : Hid (Below w.heap.size w w1) := B'.out; clear B') | (go_at_call 61; refine (RV.out (w := w) (by first | (with_reducible exact Cr) | (with_reducible exact Clr) | (with_reducible exact Crr) | (with_reducible exact Crlr)) _ B0.out).mono ?_; rintro e w1 ⟨rfl, hb1⟩; have B' : Hid (Below w.heap.size w w1) := B0.out.trans (hb1.mono B0.out.size); clear hb1 B0; have B0 : Hid (Below w.heap.size w w1) := B'.out; clear B'))
          go_ret
          exact ⟨by rw [HF.out]; rfl, B0.out⟩
        · rw [e11] at HF
          cases e12 : (qr == 0)
          · rw [e12] at HF
            go_enter Try.func28, Try.ntmps28
            go_wp2_with (first | (go_at_call 62; refine (WV.out (w := w) (by first | (with_reducible exact Wx) | (with_reducible exact Wl) | (with_reducible exact Wr) | (with_reducible exact Wll) | (with_reducible exact Wlr) | (with_reducible exact Wrl) | (with_reducible exact Wrr) | (with_reducible exact Wrll) | (with_reducible exact Wrlr)) _ B0.out).mono ?_; rintro e w1 ⟨rfl, hb1⟩; have B' : Hid (Below w.heap.size w w1) := B0.out.trans (hb1.mono B0.out.size); clear hb1 B0; have B0 : Hid (Below w.heap.size w w1) := B'.out; clear B') | (go_at_call 60; refine (LV.out (w := w) (by first | (with_reducible exact Cl) | (with_reducible exact Cll) | (with_reducible exact Crl) | (with_reducible exact Crll)) _ B0.out).mono ?_; rintro e w1 ⟨rfl, hb1⟩; have B' : Hid (Below w.heap.size w w1) := B0.out.trans (hb1.mono B0.out.size); clear hb1 B0; have B0 : Hid (Below w.heap.size w w1) := B'.out; clear B') | (go_at_call 61; refine (RV.out (w := w) (by first | (with_reducible exact Cr) | (with_reducible exact Clr) | (with_reducible exact Crr) | (with_reducible exact Crlr)) _ B0.out).mono ?_; rintro e w1 ⟨rfl, hb1⟩; have B' : Hid (Below w.heap.size w w1) := B0.out.trans (hb1.mono B0.out.size); clear hb1 B0; have B0 : Hid (Below w.heap.size w w1) := B'.out; clear B'))
            go_ret
            exact ⟨by rw [HF.out]; rfl, B0.out⟩
          · rw [e12] at HF
            cases e13 : decide (0 < qx)
            · rw [e13] at HF
              go_enter Try.func28, Try.ntmps28
              go_wp2_with (first | (go_at_call 62; refine (WV.out (w := w) (by first | (with_reducible exact Wx) | (with_reducible exact Wl) | (with_reducible exact Wr) | (with_reducible exact Wll) | (with_reducible exact Wlr) | (with_reducible exact Wrl) | (with_reducible exact Wrr) | (with_reducible exact Wrll) | (with_reducible exact Wrlr)) _ B0.out).mono ?_; rintro e w1 ⟨rfl, hb1⟩; have B' : Hid (Below w.heap.size w w1) := B0.out.trans (hb1.mono B0.out.size); clear hb1 B0; have B0 : Hid (Below w.heap.size w w1) := B'.out; clear B') | (go_at_call 60; refine (LV.out (w := w) (by first | (with_reducible exact Cl) | (with_reducible exact Cll) | (with_reducible exact Crl) | (with_reducible exact Crll)) _ B0.out).mono ?_; rintro e w1 ⟨rfl, hb1⟩; have B' : Hid (Below w.heap.size w w1) := B0.out.trans (hb1.mono B0.out.size); clear hb1 B0; have B0 : Hid (Below w.heap.size w w1) := B'.out; clear B') | (go_at_call 61; refine (RV.out (w := w) (by first | (with_reducible exact Cr) | (with_reducible exact Clr) | (with_reducible exact Crr) | (with_reducible exact Crlr)) _ B0.out).mono ?_; rintro e w1 ⟨rfl, hb1⟩; have B' : Hid (Below w.heap.size w w1) := B0.out.trans (hb1.mono B0.out.size); clear hb1 B0; have B0 : Hid (Below w.heap.size w w1) := B'.out; clear B'))
              go_ret
              exact ⟨by rw [HF.out]; rfl, B0.out⟩
            · rw [e13] at HF
              go_enter Try.func28, Try.ntmps28
              go_wp2_with (first | (go_at_call 62; refine (WV.out (w := w) (by first | (with_reducible exact Wx) | (with_reducible exact Wl) | (with_reducible exact Wr) | (with_reducible exact Wll) | (with_reducible exact Wlr) | (with_reducible exact Wrl) | (with_reducible exact Wrr) | (with_reducible exact Wrll) | (with_reducible exact Wrlr)) _ B0.out).mono ?_; rintro e w1 ⟨rfl, hb1⟩; have B' : Hid (Below w.heap.size w w1) := B0.out.trans (hb1.mono B0.out.size); clear hb1 B0; have B0 : Hid (Below w.heap.size w w1) := B'.out; clear B') | (go_at_call 60; refine (LV.out (w := w) (by first | (with_reducible exact Cl) | (with_reducible exact Cll) | (with_reducible exact Crl) | (with_reducible exact Crll)) _ B0.out).mono ?_; rintro e w1 ⟨rfl, hb1⟩; have B' : Hid (Below w.heap.size w w1) := B0.out.trans (hb1.mono B0.out.size); clear hb1 B0; have B0 : Hid (Below w.heap.size w w1) := B'.out; clear B') | (go_at_call 61; refine (RV.out (w := w) (by first | (with_reducible exact Cr) | (with_reducible exact Clr) | (with_reducible exact Crr) | (with_reducible exact Crlr)) _ B0.out).mono ?_; rintro e w1 ⟨rfl, hb1⟩; have B' : Hid (Below w.heap.size w w1) := B0.out.trans (hb1.mono B0.out.size); clear hb1 B0; have B0 : Hid (Below w.heap.size w w1) := B'.out; clear B'))
              go_ret
              exact ⟨by rw [HF.out]; rfl, B0.out⟩
    · rw [e2] at HF
      cases e14 : (ql == 0)
      · rw [e14] at HF
        go_enter Try.func28, Try.ntmps28
        go_wp2_with (first | (go_at_call 62; refine (WV.out (w := w) (by first | (with_reducible exact Wx) | (with_reducible exact Wl) | (with_reducible exact Wr) | (with_reducible exact Wll) | (with_reducible exact Wlr) | (with_reducible exact Wrl) | (with_reducible exact Wrr) | (with_reducible exact Wrll) | (with_reducible exact Wrlr)) _ B0.out).mono ?_; rintro e w1 ⟨rfl, hb1⟩; have B' : Hid (Below w.heap.size w w1) := B0.out.trans (hb1.mono B0.out.size); clear hb1 B0; have B0 : Hid (Below w.heap.size w w1) := B'.out; clear B') | (go_at_call 60; refine (LV.out (w := w) (by first | (with_reducible exact Cl) | (with_reducible exact Cll) | (with_reducible exact Crl) | (with_reducible exact Crll)) _ B0.out).mono ?_; rintro e w1 ⟨rfl, hb1⟩; have B' : Hid (Below w.heap.size w w1) := B0.out.trans (hb1.mono B0.out.size); clear hb1 B0; have B0 : Hid (Below w.heap.size w w1) := B'.out; clear B') | (go_at_call 61; refine (RV.out (w := w) (by first | (with_reducible exact Cr) | (with_reducible exact Clr) | (with_reducible exact Crr) | (with_reducible exact Crlr)) _ B0.out).mono ?_; rintro e w1 ⟨rfl, hb1⟩; have B' : Hid (Below w.heap.size w w1) := B0.out.trans (hb1.mono B0.out.size); clear hb1 B0; have B0 : Hid (Below w.heap.size w w1) := B'.out; clear B'))
        go_ret
        exact ⟨by rw [HF.out]; rfl, B0.out⟩
      · rw [e14] at HF
        cases e15 : (qr == 0)
        · rw [e15] at HF
          go_enter Try.func28, Try.ntmps28
          go_wp2_with (first | (go_at_call 62; refine (WV.out (w := w) (by first | (with_reducible exact Wx) | (with_reducible exact Wl) | (with_reducible exact Wr) | (with_reducible exact Wll) | (with_reducible exact Wlr) | (with_reducible exact Wrl) | (with_reducible exact Wrr) | (with_reducible exact Wrll) | (with_reducible exact Wrlr)) _ B0.out).mono ?_; rintro e w1 ⟨rfl, hb1⟩; have B' : Hid (Below w.heap.size w w1) := B0.out.trans (hb1.mono B0.out.size); clear hb1 B0; have B0 : Hid (Below w.heap.size w w1) := B'.out; clear B') | (go_at_call 60; refine (LV.out (w := w) (by first | (with_reducible exact Cl) | (with_reducible exact Cll) | (with_reducible exact Crl) | (with_reducible exact Crll)) _ B0.out).mono ?_; rintro e w1 ⟨rfl, hb1⟩; have B' : Hid (Below w.heap.size w w1) := B0.out.trans (hb1.mono B0.out.size); clear hb1 B0; have B0 : Hid (Below w.heap.size w w1) := B'.out; clear B') | (go_at_call 61; refine (RV.out (w := w) (by first | (with_reducible exact Cr) | (with_reducible exact Clr) | (with_reducible exact Crr) | (with_reducible exact Crlr)) _ B0.out).mono ?_; rintro e w1 ⟨rfl, hb1⟩; have B' : Hid (Below w.heap.size w w1) := B0.out.trans (hb1.mono B0.out.size); clear hb1 B0; have B0 : Hid (Below w.heap.size w w1) := B'.out; clear B'))
          go_ret
          exact ⟨by rw [HF.out]; rfl, B0.out⟩
        · rw [e15] at HF
          cases e16 : decide (0 < qx)
          · rw [e16] at HF
            go_enter Try.func28, Try.ntmps28
            go_wp2_with (first | (go_at_call 62; refine (WV.out (w := w) (by first | (with_reducible exact Wx) | (with_reducible exact Wl) | (with_reducible exact Wr) | (with_reducible exact Wll) | (with_reducible exact Wlr) | (with_reducible exact Wrl) | (with_reducible exact Wrr) | (with_reducible exact Wrll) | (with_reducible exact Wrlr)) _ B0.out).mono ?_; rintro e w1 ⟨rfl, hb1⟩; have B' : Hid (Below w.heap.size w w1) := B0.out.trans (hb1.mono B0.out.size); clear hb1 B0; have B0 : Hid (Below w.heap.size w w1) := B'.out; clear B') | (go_at_call 60; refine (LV.out (w := w) (by first | (with_reducible exact Cl) | (with_reducible exact Cll) | (with_reducible exact Crl) | (with_reducible exact Crll)) _ B0.out).mono ?_; rintro e w1 ⟨rfl, hb1⟩; have B' : Hid (Below w.heap.size w w1) := B0.out.trans (hb1.mono B0.out.size); clear hb1 B0; have B0 : Hid (Below w.heap.size w w1) := B'.out; clear B') | (go_at_call 61; refine (RV.out (w := w) (by first | (with_reducible exact Cr) | (with_reducible exact Clr) | (with_reducible exact Crr) | (with_reducible exact Crlr)) _ B0.out).mono ?_; rintro e w1 ⟨rfl, hb1⟩; have B' : Hid (Below w.heap.size w w1) := B0.out.trans (hb1.mono B0.out.size); clear hb1 B0; have B0 : Hid (Below w.heap.size w w1) := B'.out; clear B'))
            go_ret
            exact ⟨by rw [HF.out]; rfl, B0.out⟩
          · rw [e16] at HF
            go_enter Try.func28, Try.ntmps28
            go_wp2_with (first | (go_at_call 62; refine (WV.out (w := w) (by first | (with_reducible exact Wx) | (with_reducible exact Wl) | (with_reducible exact Wr) | (with_reducible exact Wll) | (with_reducible exact Wlr) | (with_reducible exact Wrl) | (with_reducible exact Wrr) | (with_reducible exact Wrll) | (with_reducible exact Wrlr)) _ B0.out).mono ?_; rintro e w1 ⟨rfl, hb1⟩; have B' : Hid (Below w.heap.size w w1) := B0.out.trans (hb1.mono B0.out.size); clear hb1 B0; have B0 : Hid (Below w.heap.size w w1) := B'.out; clear B') | (go_at_call 60; refine (LV.out (w := w) (by first | (with_reducible exact Cl) | (with_reducible exact Cll) | (with_reducible exact Crl) | (with_reducible exact Crll)) _ B0.out).mono ?_; rintro e w1 ⟨rfl, hb1⟩; have B' : Hid (Below w.heap.size w w1) := B0.out.trans (hb1.mono B0.out.size); clear hb1 B0; have B0 : Hid (Below w.heap.size w w1) := B'.out; clear B') | (go_at_call 61; refine (RV.out (w := w) (by first | (with_reducible exact Cr) | (with_reducible exact Clr) | (with_reducible exact Crr) | (with_reducible exact Crlr)) _ B0.out).mono ?_; rintro e w1 ⟨rfl, hb1⟩; have B' : Hid (Below w.heap.size w w1) := B0.out.trans (hb1.mono B0.out.size); clear hb1 B0; have B0 : Hid (Below w.heap.size w w1) := B'.out; clear B'))
            go_ret
            exact ⟨by rw [HF.out]; rfl, B0.out⟩
  · rw [e1] at HF
    cases e17 : (ql == 0)
    · rw [e17] at HF
      go_enter Try.func28, Try.ntmps28
      go_wp2_with (first | (go_at_call 62; refine (WV.out (w := w) (by first | (with_reducible exact Wx) | (with_reducible exact Wl) | (with_reducible exact Wr) | (with_reducible exact Wll) | (with_reducible exact Wlr) | (with_reducible exact Wrl) | (with_reducible exact Wrr) | (with_reducible exact Wrll) | (with_reducible exact Wrlr)) _ B0.out).mono ?_; rintro e w1 ⟨rfl, hb1⟩; have B' : Hid (Below w.heap.size w w1) := B0.out.trans (hb1.mono B0.out.size); clear hb1 B0; have B0 : Hid (Below w.heap.size w w1) := B'.out; clear B') | (go_at_call 60; refine (LV.out (w := w) (by first | (with_reducible exact Cl) | (with_reducible exact Cll) | (with_reducible exact Crl) | (with_reducible exact Crll)) _ B0.out).mono ?_; rintro e w1 ⟨rfl, hb1⟩; have B' : Hid (Below w.heap.size w w1) := B0.out.trans (hb1.mono B0.out.size); clear hb1 B0; have B0 : Hid (Below w.heap.size w w1) := B'.out; clear B') | (go_at_call 61; refine (RV.out (w := w) (by first | (with_reducible exact Cr) | (with_reducible exact Clr) | (with_reducible exact Crr) | (with_reducible exact Crlr)) _ B0.out).mono ?_; rintro e w1 ⟨rfl, hb1⟩; have B' : Hid (Below w.heap.size w w1) := B0.out.trans (hb1.mono B0.out.size); clear hb1 B0; have B0 : Hid (Below w.heap.size w w1) := B'.out; clear B'))
      go_ret
      exact ⟨by rw [HF.out]; rfl, B0.out⟩
    · rw [e17] at HF
      cases e18 : (qr == 0)
      · rw [e18] at HF
        go_enter Try.func28, Try.ntmps28
        go_wp2_with (first | (go_at_call 62; refine (WV.out (w := w) (by first | (with_reducible exact Wx) | (with_reducible exact Wl) | (with_reducible exact Wr) | (with_reducible exact Wll) | (with_reducible exact Wlr) | (with_reducible exact Wrl) | (with_reducible exact Wrr) | (with_reducible exact Wrll) | (with_reducible exact Wrlr)) _ B0.out).mono ?_; rintro e w1 ⟨rfl, hb1⟩; have B' : Hid (Below w.heap.size w w1) := B0.out.trans (hb1.mono B0.out.size); clear hb1 B0; have B0 : Hid (Below w.heap.size w w1) := B'.out; clear B') | (go_at_call 60; refine (LV.out (w := w) (by first | (with_reducible exact Cl) | (with_reducible exact Cll) | (with_reducible exact Crl) | (with_reducible exact Crll)) _ B0.out).mono ?_; rintro e w1 ⟨rfl, hb1⟩; have B' : Hid (Below w.heap.size w w1) := B0.out.trans (hb1.mono B0.out.size); clear hb1 B0; have B0 : Hid (Below w.heap.size w w1) := B'.out; clear B') | (go_at_call 61; refine (RV.out (w := w) (by first | (with_reducible exact Cr) | (with_reducible exact Clr) | (with_reducible exact Crr) | (with_reducible exact Crlr)) _ B0.out).mono ?_; rintro e w1 ⟨rfl, hb1⟩; have B' : Hid (Below w.heap.size w w1) := B0.out.trans (hb1.mono B0.out.size); clear hb1 B0; have B0 : Hid (Below w.heap.size w w1) := B'.out; clear B'))
        go_ret
        exact ⟨by rw [HF.out]; rfl, B0.out⟩
      · rw [e18] at HF
        cases e19 : decide (0 < qx)
        · rw [e19] at HF
          go_enter Try.func28, Try.ntmps28
          go_wp2_with (first | (go_at_call 62; refine (WV.out (w := w) (by first | (with_reducible exact Wx) | (with_reducible exact Wl) | (with_reducible exact Wr) | (with_reducible exact Wll) | (with_reducible exact Wlr) | (with_reducible exact Wrl) | (with_reducible exact Wrr) | (with_reducible exact Wrll) | (with_reducible exact Wrlr)) _ B0.out).mono ?_; rintro e w1 ⟨rfl, hb1⟩; have B' : Hid (Below w.heap.size w w1) := B0.out.trans (hb1.mono B0.out.size); clear hb1 B0; have B0 : Hid (Below w.heap.size w w1) := B'.out; clear B') | (go_at_call 60; refine (LV.out (w := w) (by first | (with_reducible exact Cl) | (with_reducible exact Cll) | (with_reducible exact Crl) | (with_reducible exact Crll)) _ B0.out).mono ?_; rintro e w1 ⟨rfl, hb1⟩; have B' : Hid (Below w.heap.size w w1) := B0.out.trans (hb1.mono B0.out.size); clear hb1 B0; have B0 : Hid (Below w.heap.size w w1) := B'.out; clear B') | (go_at_call 61; refine (RV.out (w := w) (by first | (with_reducible exact Cr) | (with_reducible exact Clr) | (with_reducible exact Crr) | (with_reducible exact Crlr)) _ B0.out).mono ?_; rintro e w1 ⟨rfl, hb1⟩; have B' : Hid (Below w.heap.size w w1) := B0.out.trans (hb1.mono B0.out.size); clear hb1 B0; have B0 : Hid (Below w.heap.size w w1) := B'.out; clear B'))
          go_ret
          exact ⟨by rw [HF.out]; rfl, B0.out⟩
        · rw [e19] at HF
          go_enter Try.func28, Try.ntmps28
          go_wp2_with (first | (go_at_call 62; refine (WV.out (w := w) (by first | (with_reducible exact Wx) | (with_reducible exact Wl) | (with_reducible exact Wr) | (with_reducible exact Wll) | (with_reducible exact Wlr) | (with_reducible exact Wrl) | (with_reducible exact Wrr) | (with_reducible exact Wrll) | (with_reducible exact Wrlr)) _ B0.out).mono ?_; rintro e w1 ⟨rfl, hb1⟩; have B' : Hid (Below w.heap.size w w1) := B0.out.trans (hb1.mono B0.out.size); clear hb1 B0; have B0 : Hid (Below w.heap.size w w1) := B'.out; clear B') | (go_at_call 60; refine (LV.out (w := w) (by first | (with_reducible exact Cl) | (with_reducible exact Cll) | (with_reducible exact Crl) | (with_reducible exact Crll)) _ B0.out).mono ?_; rintro e w1 ⟨rfl, hb1⟩; have B' : Hid (Below w.heap.size w w1) := B0.out.trans (hb1.mono B0.out.size); clear hb1 B0; have B0 : Hid (Below w.heap.size w w1) := B'.out; clear B') | (go_at_call 61; refine (RV.out (w := w) (by first | (with_reducible exact Cr) | (with_reducible exact Clr) | (with_reducible exact Crr) | (with_reducible exact Crlr)) _ B0.out).mono ?_; rintro e w1 ⟨rfl, hb1⟩; have B' : Hid (Below w.heap.size w w1) := B0.out.trans (hb1.mono B0.out.size); clear hb1 B0; have B0 : Hid (Below w.heap.size w w1) := B'.out; clear B'))
          go_ret
          exact ⟨by rw [HF.out]; rfl, B0.out⟩
end Go.Proofs.Ythlhbajaogonnaa
