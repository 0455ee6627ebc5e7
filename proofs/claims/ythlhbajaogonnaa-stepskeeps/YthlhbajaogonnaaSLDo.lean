
/- Layer 18: the reference's do. Made by mk_srdo.py. Layer 18: the reference's do. Made by mk_srdo.py. Layer 18: the reference's great, instead. Layer 18: the reference's lay. Layer 18: the reference's do, whole; Do. Layer 18: the reference's Touched, whole; the law StepsDo. -/

import Derived.Test.YthlhbajaogonnaaSTo3

namespace Go.Proofs.Ythlhbajaogonnaa

open Go.RowKit

attribute [local go_sem ↓] Go.wp_at_zero Go.wp_at_succ

set_option maxRecDepth 100000 in
set_option maxHeartbeats 4000000 in
theorem rdo3 (B : Nat) (n0 n1 n2 : NdD) (p0 p1 p2 : Int) (LL LRL LRR R : PT) (g : Nat) (w : World) (hB : B ≤ w.heap.size) (_qx : 0 ≤ n0.wt ∧ n0.wt ≤ 1000000) (h : PTAt w B (.nd n0 p0 (.nd n1 p1 LL (.nd n2 p2 LRL LRR)) R) g) :
    Calls Try.prog 30 #[.pointer (some ⟨g, 0, none⟩), .int .i64 3] w fun e w' => ∃ g' : Nat, e = .returned (.pointer (some ⟨g', 0, none⟩)) ∧ PTAt w' B (doP 3 (.nd n0 p0 (.nd n1 p1 LL (.nd n2 p2 LRL LRR)) R)) g' ∧ Below w.heap.size w w' := by
  have hx := h
  obtain ⟨gl, gr, -, bx, hl, hr⟩ := h
  have kl := hl
  obtain ⟨gll, glr, -, bl, hll, hlr⟩ := kl
  have klr := hlr
  obtain ⟨glrl, glrr, -, blr, hlrl, hlrr⟩ := klr
  have lx := (Array.getElem?_eq_some_iff.1 bx).1
  have ll := (Array.getElem?_eq_some_iff.1 bl).1
  have llr := (Array.getElem?_eq_some_iff.1 blr).1
  have CC : Hid (∀ z, Below w.heap.size w z → z.cell? ⟨g, 6, none⟩ = some (.pointer (some ⟨gl, 0, none⟩)) ∧ z.cell? ⟨g, 7, none⟩ = some (.pointer (some ⟨gr, 0, none⟩)) ∧ z.cell? ⟨gl, 6, none⟩ = some (.pointer (some ⟨gll, 0, none⟩)) ∧ z.cell? ⟨gl, 7, none⟩ = some (.pointer (some ⟨glr, 0, none⟩)) ∧ z.cell? ⟨glr, 6, none⟩ = some (.pointer (some ⟨glrl, 0, none⟩)) ∧ z.cell? ⟨glr, 7, none⟩ = some (.pointer (some ⟨glrr, 0, none⟩))) := fun z hz => by
    have qbx := (hz.block g lx).trans bx
    have qbl := (hz.block gl ll).trans bl
    have qblr := (hz.block glr llr).trans blr
    exact ⟨(cell_of qbx 6 _ rfl).1, (cell_of qbx 7 _ rfl).1, (cell_of qbl 6 _ rfl).1, (cell_of qbl 7 _ rfl).1, (cell_of qblr 6 _ rfl).1, (cell_of qblr 7 _ rfl).1⟩
  have Hl : Hid (∀ z, Below w.heap.size w z → PTAt z B (PT.nd n1 p1 LL (.nd n2 p2 LRL LRR)) gl) := fun z hz => hl.below hz
  have Hll : Hid (∀ z, Below w.heap.size w z → PTAt z B LL gll) := fun z hz => hll.below hz
  have Hlrl : Hid (∀ z, Below w.heap.size w z → PTAt z B LRL glrl) := fun z hz => hlrl.below hz
  have Hx : Hid (∀ z, Below w.heap.size w z → PTAt z B (PT.nd n0 p0 (.nd n1 p1 LL (.nd n2 p2 LRL LRR)) R) g) := fun z hz => hx.below hz
  have Hlrr : Hid (∀ z, Below w.heap.size w z → PTAt z B LRR glrr) := fun z hz => hlrr.below hz
  have Hr : Hid (∀ z, Below w.heap.size w z → PTAt z B R gr) := fun z hz => hr.below hz
  have Hlr : Hid (∀ z, Below w.heap.size w z → PTAt z B (PT.nd n2 p2 LRL LRR) glr) := fun z hz => hlr.below hz
  have HB : Hid (∀ z, Below w.heap.size w z → B ≤ z.heap.size) := fun z hz => Nat.le_trans hB hz.size
  have WX : Hid (∀ z, Below w.heap.size w z → Calls Try.prog 62 #[.pointer (some ⟨g, 0, none⟩)] z fun e w' => e = .returned (.int .i64 n0.wt) ∧ Below z.heap.size z w') := fun z hz => w_any B (some (PT.nd n0 p0 (.nd n1 p1 LL (.nd n2 p2 LRL LRR)) R)) _ z ⟨g, rfl, hx.below hz⟩
  have B0 : Hid (Below w.heap.size w w.drew) := (Below.refl _ _).drew
  obtain ⟨y0, y1, y2, y3, y4, y5⟩ := CC.out w (Below.refl _ _)
  have E : Hid (doP 3 (.nd n0 p0 (.nd n1 p1 LL (.nd n2 p2 LRL LRR)) R) = ((PT.nd n2 p2 LRL LRR).mk (n0.wt) ((PT.nd n1 p1 LL (.nd n2 p2 LRL LRR)).mk (0) LL LRL) ((PT.nd n0 p0 (.nd n1 p1 LL (.nd n2 p2 LRL LRR)) R).mk (0) LRR R))) := rfl
  rw [E.out]
  clear hx hB E bx bl blr hl hll hlr hlrl hlrr hr
  go_enter Try.func30, Try.ntmps30
  go_wp2_with fail
  go_region
  go_wp2_with fail
  refine (WX.out _ B0.out).mono ?_
  rintro e w0 ⟨rfl, hb⟩
  have C0 : Hid (Below w.heap.size w w0) := B0.out.trans (hb.mono B0.out.size)
  clear hb
  obtain ⟨z0, z1, z2, z3, z4, z5⟩ := CC.out w0 C0.out
  have mx := Nat.lt_of_lt_of_le lx C0.out.size
  have ml := Nat.lt_of_lt_of_le ll C0.out.size
  have mlr := Nat.lt_of_lt_of_le llr C0.out.size
  have D0 : Hid (Below w.heap.size w w0.drew) := C0.out.drew
  have K0 : Hid True := trivial
  go_wp2_with fail
  go_region_held3 (fun w' => w'.cell? ⟨g, 6, none⟩ = some (.pointer (some ⟨gl, 0, none⟩)) ∧ w'.cell? ⟨g, 7, none⟩ = some (.pointer (some ⟨gr, 0, none⟩)) ∧ w'.cell? ⟨gl, 6, none⟩ = some (.pointer (some ⟨gll, 0, none⟩)) ∧ w'.cell? ⟨gl, 7, none⟩ = some (.pointer (some ⟨glr, 0, none⟩)) ∧ w'.cell? ⟨glr, 6, none⟩ = some (.pointer (some ⟨glrl, 0, none⟩)) ∧ w'.cell? ⟨glr, 7, none⟩ = some (.pointer (some ⟨glrr, 0, none⟩)))
    (first | (with_reducible exact X3.out) | (with_reducible exact X2.out) | (with_reducible exact X1.out) | go_keep)
    (first | (go_at_call 65; have hq := K0; refine (node_any B _ _ _ _ _ _ _ _ (HB.out _ D0.out) (Hl.out _ D0.out) (Hll.out _ D0.out) (Hlrl.out _ D0.out)).mono ?_; rintro e w1 ⟨s0, rfl, hT, hb⟩; have B1 : Hid (Below w.heap.size w w1) := D0.out.trans (hb.mono D0.out.size); have X1 : Hid (w1.cell? ⟨g, 6, none⟩ = some (.pointer (some ⟨gl, 0, none⟩)) ∧ w1.cell? ⟨g, 7, none⟩ = some (.pointer (some ⟨gr, 0, none⟩)) ∧ w1.cell? ⟨gl, 6, none⟩ = some (.pointer (some ⟨gll, 0, none⟩)) ∧ w1.cell? ⟨gl, 7, none⟩ = some (.pointer (some ⟨glr, 0, none⟩)) ∧ w1.cell? ⟨glr, 6, none⟩ = some (.pointer (some ⟨glrl, 0, none⟩)) ∧ w1.cell? ⟨glr, 7, none⟩ = some (.pointer (some ⟨glrr, 0, none⟩))) := CC.out _ B1.out; have R0_1 : Hid (PTAt w1 B ((PT.nd n1 p1 LL (.nd n2 p2 LRL LRR)).mk (0) LL LRL) s0) := hT; clear hT; have K1 : Hid True := trivial; clear hb hq K0) | (go_at_call 65; have hq := K1; refine (node_any B _ _ _ _ _ _ _ _ (HB.out _ B1.out) (Hx.out _ B1.out) (Hlrr.out _ B1.out) (Hr.out _ B1.out)).mono ?_; rintro e w2 ⟨s1, rfl, hT, hb⟩; have B2 : Hid (Below w.heap.size w w2) := B1.out.trans (hb.mono B1.out.size); have X2 : Hid (w2.cell? ⟨g, 6, none⟩ = some (.pointer (some ⟨gl, 0, none⟩)) ∧ w2.cell? ⟨g, 7, none⟩ = some (.pointer (some ⟨gr, 0, none⟩)) ∧ w2.cell? ⟨gl, 6, none⟩ = some (.pointer (some ⟨gll, 0, none⟩)) ∧ w2.cell? ⟨gl, 7, none⟩ = some (.pointer (some ⟨glr, 0, none⟩)) ∧ w2.cell? ⟨glr, 6, none⟩ = some (.pointer (some ⟨glrl, 0, none⟩)) ∧ w2.cell? ⟨glr, 7, none⟩ = some (.pointer (some ⟨glrr, 0, none⟩))) := CC.out _ B2.out; have R0_2 : Hid (PTAt w2 B ((PT.nd n1 p1 LL (.nd n2 p2 LRL LRR)).mk (0) LL LRL) s0) := R0_1.out.below hb; have R1_2 : Hid (PTAt w2 B ((PT.nd n0 p0 (.nd n1 p1 LL (.nd n2 p2 LRL LRR)) R).mk (0) LRR R) s1) := hT; clear hT; have K2 : Hid True := trivial; clear hb hq K1) | (go_at_call 65; have hq := K2; refine (node_any B _ _ _ _ _ _ _ _ (HB.out _ B2.out) (Hlr.out _ B2.out) R0_2.out R1_2.out).mono ?_; rintro e w3 ⟨s2, rfl, hT, hb⟩; have B3 : Hid (Below w.heap.size w w3) := B2.out.trans (hb.mono B2.out.size); have X3 : Hid (w3.cell? ⟨g, 6, none⟩ = some (.pointer (some ⟨gl, 0, none⟩)) ∧ w3.cell? ⟨g, 7, none⟩ = some (.pointer (some ⟨gr, 0, none⟩)) ∧ w3.cell? ⟨gl, 6, none⟩ = some (.pointer (some ⟨gll, 0, none⟩)) ∧ w3.cell? ⟨gl, 7, none⟩ = some (.pointer (some ⟨glr, 0, none⟩)) ∧ w3.cell? ⟨glr, 6, none⟩ = some (.pointer (some ⟨glrl, 0, none⟩)) ∧ w3.cell? ⟨glr, 7, none⟩ = some (.pointer (some ⟨glrr, 0, none⟩))) := CC.out _ B3.out; have R0_3 : Hid (PTAt w3 B ((PT.nd n1 p1 LL (.nd n2 p2 LRL LRR)).mk (0) LL LRL) s0) := R0_2.out.below hb; have R1_3 : Hid (PTAt w3 B ((PT.nd n0 p0 (.nd n1 p1 LL (.nd n2 p2 LRL LRR)) R).mk (0) LRR R) s1) := R1_2.out.below hb; have R2_3 : Hid (PTAt w3 B ((PT.nd n2 p2 LRL LRR).mk (n0.wt) ((PT.nd n1 p1 LL (.nd n2 p2 LRL LRR)).mk (0) LL LRL) ((PT.nd n0 p0 (.nd n1 p1 LL (.nd n2 p2 LRL LRR)) R).mk (0) LRR R)) s2) := hT; clear hT; have K3 : Hid True := trivial; clear hb hq K2))
  all_goals go_wp2_with fail
  all_goals go_ret
  all_goals exact ⟨_, rfl, R2_3.out, B3.out⟩
set_option maxRecDepth 100000 in
set_option maxHeartbeats 4000000 in
theorem rdo4 (B : Nat) (n0 : NdD) (p0 : Int) (L R : PT) (g : Nat) (w : World) (hB : B ≤ w.heap.size) (qx : 0 ≤ n0.wt ∧ n0.wt ≤ 1000000) (ql : 0 ≤ L.n.wt ∧ L.n.wt ≤ 1000000) (h : PTAt w B (.nd n0 p0 L R) g) :
    Calls Try.prog 30 #[.pointer (some ⟨g, 0, none⟩), .int .i64 4] w fun e w' => ∃ g' : Nat, e = .returned (.pointer (some ⟨g', 0, none⟩)) ∧ PTAt w' B (doP 4 (.nd n0 p0 L R)) g' ∧ Below w.heap.size w w' := by
  have hx := h
  obtain ⟨gl, gr, -, bx, hl, hr⟩ := h
  have lx := (Array.getElem?_eq_some_iff.1 bx).1
  have CC : Hid (∀ z, Below w.heap.size w z → z.cell? ⟨g, 6, none⟩ = some (.pointer (some ⟨gl, 0, none⟩)) ∧ z.cell? ⟨g, 7, none⟩ = some (.pointer (some ⟨gr, 0, none⟩))) := fun z hz => by
    have qbx := (hz.block g lx).trans bx
    exact ⟨(cell_of qbx 6 _ rfl).1, (cell_of qbx 7 _ rfl).1⟩
  have Hl : Hid (∀ z, Below w.heap.size w z → PTAt z B L gl) := fun z hz => hl.below hz
  have Hr : Hid (∀ z, Below w.heap.size w z → PTAt z B R gr) := fun z hz => hr.below hz
  have Hx : Hid (∀ z, Below w.heap.size w z → PTAt z B (PT.nd n0 p0 L R) g) := fun z hz => hx.below hz
  have HB : Hid (∀ z, Below w.heap.size w z → B ≤ z.heap.size) := fun z hz => Nat.le_trans hB hz.size
  have WX : Hid (∀ z, Below w.heap.size w z → Calls Try.prog 62 #[.pointer (some ⟨g, 0, none⟩)] z fun e w' => e = .returned (.int .i64 n0.wt) ∧ Below z.heap.size z w') := fun z hz => w_any B (some (PT.nd n0 p0 L R)) _ z ⟨g, rfl, hx.below hz⟩
  have Wl : Hid (∀ z, Below w.heap.size w z → Calls Try.prog 62 #[.pointer (some ⟨gl, 0, none⟩)] z fun e w' => e = .returned (.int .i64 L.n.wt) ∧ Below z.heap.size z w') := fun z hz => w_any B (some L) _ z ⟨gl, rfl, hl.below hz⟩
  have B0 : Hid (Below w.heap.size w w.drew) := (Below.refl _ _).drew
  obtain ⟨y0, y1⟩ := CC.out w (Below.refl _ _)
  have E : Hid (doP 4 (.nd n0 p0 L R) = ((PT.nd n0 p0 L R).mk (n0.wt + 1) (L.wset (L.n.wt - 1)) (R.wset (0)))) := rfl
  rw [E.out]
  have e0 : IntKind.i64.wrap (L.n.wt - 1) = L.n.wt - 1 := wrapo _ (by omega) (by omega)
  have e1 : IntKind.i64.wrap (n0.wt + 1) = n0.wt + 1 := wrapo _ (by omega) (by omega)
  clear hx hB E bx hl hr
  generalize L.n.wt = wl at *
  go_enter Try.func30, Try.ntmps30
  go_wp2_with fail
  go_region
  go_wp2_with fail
  refine (WX.out _ B0.out).mono ?_
  rintro e w0 ⟨rfl, hb⟩
  have C0 : Hid (Below w.heap.size w w0) := B0.out.trans (hb.mono B0.out.size)
  clear hb
  obtain ⟨z0, z1⟩ := CC.out w0 C0.out
  have mx := Nat.lt_of_lt_of_le lx C0.out.size
  have D0 : Hid (Below w.heap.size w w0) := C0.out
  have K0 : Hid True := trivial
  go_wp2_with (first | (go_at_call 62; have hq := K0; refine (Wl.out _ D0.out).mono ?_; rintro e w1 ⟨rfl, hb⟩; have B1 : Hid (Below w.heap.size w w1) := D0.out.trans (hb.mono D0.out.size); have K1 : Hid True := trivial; clear hb hq K0) | (go_at_call 31; have hq := K1; refine (rwith_any B _ _ _ _ (HB.out _ B1.out) (Hl.out _ B1.out)).mono ?_; rintro e w2 ⟨s1, rfl, hT, hb⟩; have B2 : Hid (Below w.heap.size w w2) := B1.out.trans (hb.mono B1.out.size); have R1_2 : Hid (PTAt w2 B (L.wset (wl - 1)) s1) := hT; clear hT; have K2 : Hid True := trivial; clear hb hq K1) | (go_at_call 31; have hq := K2; refine (rwith_any B _ _ _ _ (HB.out _ B2.out) (Hr.out _ B2.out)).mono ?_; rintro e w3 ⟨s2, rfl, hT, hb⟩; have B3 : Hid (Below w.heap.size w w3) := B2.out.trans (hb.mono B2.out.size); have R1_3 : Hid (PTAt w3 B (L.wset (wl - 1)) s1) := R1_2.out.below hb; have R2_3 : Hid (PTAt w3 B (R.wset (0)) s2) := hT; clear hT; have K3 : Hid True := trivial; clear hb hq K2) | (go_at_call 65; have hq := K3; refine (node_any B _ _ _ _ _ _ _ _ (HB.out _ B3.out) (Hx.out _ B3.out) R1_3.out R2_3.out).mono ?_; rintro e w4 ⟨s3, rfl, hT, hb⟩; have B4 : Hid (Below w.heap.size w w4) := B3.out.trans (hb.mono B3.out.size); have R1_4 : Hid (PTAt w4 B (L.wset (wl - 1)) s1) := R1_3.out.below hb; have R2_4 : Hid (PTAt w4 B (R.wset (0)) s2) := R2_3.out.below hb; have R3_4 : Hid (PTAt w4 B ((PT.nd n0 p0 L R).mk (n0.wt + 1) (L.wset (wl - 1)) (R.wset (0))) s3) := hT; clear hT; have K4 : Hid True := trivial; clear hb hq K3))
  go_ret
  exact ⟨_, rfl, R3_4.out, B4.out⟩
set_option maxRecDepth 100000 in
set_option maxHeartbeats 4000000 in
theorem rdo5 (B : Nat) (n0 n1 : NdD) (p0 p1 : Int) (L RL RR : PT) (g : Nat) (w : World) (hB : B ≤ w.heap.size) (_qx : 0 ≤ n0.wt ∧ n0.wt ≤ 1000000) (ql : 0 ≤ L.n.wt ∧ L.n.wt ≤ 1000000) (qrl : 0 ≤ RL.n.wt ∧ RL.n.wt ≤ 1000000) (h : PTAt w B (.nd n0 p0 L (.nd n1 p1 RL RR)) g) :
    Calls Try.prog 30 #[.pointer (some ⟨g, 0, none⟩), .int .i64 5] w fun e w' => ∃ g' : Nat, e = .returned (.pointer (some ⟨g', 0, none⟩)) ∧ PTAt w' B (doP 5 (.nd n0 p0 L (.nd n1 p1 RL RR))) g' ∧ Below w.heap.size w w' := by
  have hx := h
  obtain ⟨gl, gr, -, bx, hl, hr⟩ := h
  have kr := hr
  obtain ⟨grl, grr, -, br, hrl, hrr⟩ := kr
  have lx := (Array.getElem?_eq_some_iff.1 bx).1
  have lr := (Array.getElem?_eq_some_iff.1 br).1
  have CC : Hid (∀ z, Below w.heap.size w z → z.cell? ⟨g, 6, none⟩ = some (.pointer (some ⟨gl, 0, none⟩)) ∧ z.cell? ⟨g, 7, none⟩ = some (.pointer (some ⟨gr, 0, none⟩)) ∧ z.cell? ⟨gr, 6, none⟩ = some (.pointer (some ⟨grl, 0, none⟩)) ∧ z.cell? ⟨gr, 7, none⟩ = some (.pointer (some ⟨grr, 0, none⟩))) := fun z hz => by
    have qbx := (hz.block g lx).trans bx
    have qbr := (hz.block gr lr).trans br
    exact ⟨(cell_of qbx 6 _ rfl).1, (cell_of qbx 7 _ rfl).1, (cell_of qbr 6 _ rfl).1, (cell_of qbr 7 _ rfl).1⟩
  have Hl : Hid (∀ z, Below w.heap.size w z → PTAt z B L gl) := fun z hz => hl.below hz
  have Hrl : Hid (∀ z, Below w.heap.size w z → PTAt z B RL grl) := fun z hz => hrl.below hz
  have Hx : Hid (∀ z, Below w.heap.size w z → PTAt z B (PT.nd n0 p0 L (.nd n1 p1 RL RR)) g) := fun z hz => hx.below hz
  have Hr : Hid (∀ z, Below w.heap.size w z → PTAt z B (PT.nd n1 p1 RL RR) gr) := fun z hz => hr.below hz
  have Hrr : Hid (∀ z, Below w.heap.size w z → PTAt z B RR grr) := fun z hz => hrr.below hz
  have HB : Hid (∀ z, Below w.heap.size w z → B ≤ z.heap.size) := fun z hz => Nat.le_trans hB hz.size
  have WX : Hid (∀ z, Below w.heap.size w z → Calls Try.prog 62 #[.pointer (some ⟨g, 0, none⟩)] z fun e w' => e = .returned (.int .i64 n0.wt) ∧ Below z.heap.size z w') := fun z hz => w_any B (some (PT.nd n0 p0 L (.nd n1 p1 RL RR))) _ z ⟨g, rfl, hx.below hz⟩
  have Wl : Hid (∀ z, Below w.heap.size w z → Calls Try.prog 62 #[.pointer (some ⟨gl, 0, none⟩)] z fun e w' => e = .returned (.int .i64 L.n.wt) ∧ Below z.heap.size z w') := fun z hz => w_any B (some L) _ z ⟨gl, rfl, hl.below hz⟩
  have Wrl : Hid (∀ z, Below w.heap.size w z → Calls Try.prog 62 #[.pointer (some ⟨grl, 0, none⟩)] z fun e w' => e = .returned (.int .i64 RL.n.wt) ∧ Below z.heap.size z w') := fun z hz => w_any B (some RL) _ z ⟨grl, rfl, hrl.below hz⟩
  have B0 : Hid (Below w.heap.size w w.drew) := (Below.refl _ _).drew
  obtain ⟨y0, y1, y2, y3⟩ := CC.out w (Below.refl _ _)
  have E : Hid (doP 5 (.nd n0 p0 L (.nd n1 p1 RL RR)) = ((PT.nd n1 p1 RL RR).mk (n0.wt) ((PT.nd n0 p0 L (.nd n1 p1 RL RR)).mk (1) (L.wset (L.n.wt - 1)) (RL.wset (RL.n.wt - 1))) RR)) := rfl
  rw [E.out]
  have e0 : IntKind.i64.wrap (L.n.wt - 1) = L.n.wt - 1 := wrapo _ (by omega) (by omega)
  have e1 : IntKind.i64.wrap (RL.n.wt - 1) = RL.n.wt - 1 := wrapo _ (by omega) (by omega)
  clear hx hB E bx br hl hr hrl hrr
  generalize L.n.wt = wl at *
  generalize RL.n.wt = wrl at *
  go_enter Try.func30, Try.ntmps30
  go_wp2_with fail
  go_region
  go_wp2_with fail
  refine (WX.out _ B0.out).mono ?_
  rintro e w0 ⟨rfl, hb⟩
  have C0 : Hid (Below w.heap.size w w0) := B0.out.trans (hb.mono B0.out.size)
  clear hb
  obtain ⟨z0, z1, z2, z3⟩ := CC.out w0 C0.out
  have mx := Nat.lt_of_lt_of_le lx C0.out.size
  have mr := Nat.lt_of_lt_of_le lr C0.out.size
  have D0 : Hid (Below w.heap.size w w0.drew) := C0.out.drew
  have K0 : Hid True := trivial
  go_wp2_with fail
  go_region_held3 (fun w' => w'.cell? ⟨g, 6, none⟩ = some (.pointer (some ⟨gl, 0, none⟩)) ∧ w'.cell? ⟨g, 7, none⟩ = some (.pointer (some ⟨gr, 0, none⟩)) ∧ w'.cell? ⟨gr, 6, none⟩ = some (.pointer (some ⟨grl, 0, none⟩)) ∧ w'.cell? ⟨gr, 7, none⟩ = some (.pointer (some ⟨grr, 0, none⟩)))
    (first | (with_reducible exact X6.out) | (with_reducible exact X5.out) | (with_reducible exact X4.out) | (with_reducible exact X3.out) | (with_reducible exact X2.out) | (with_reducible exact X1.out) | go_keep)
    (first | (go_at_call 62; have hq := K0; refine (Wl.out _ D0.out).mono ?_; rintro e w1 ⟨rfl, hb⟩; have B1 : Hid (Below w.heap.size w w1) := D0.out.trans (hb.mono D0.out.size); have X1 : Hid (w1.cell? ⟨g, 6, none⟩ = some (.pointer (some ⟨gl, 0, none⟩)) ∧ w1.cell? ⟨g, 7, none⟩ = some (.pointer (some ⟨gr, 0, none⟩)) ∧ w1.cell? ⟨gr, 6, none⟩ = some (.pointer (some ⟨grl, 0, none⟩)) ∧ w1.cell? ⟨gr, 7, none⟩ = some (.pointer (some ⟨grr, 0, none⟩))) := CC.out _ B1.out; have K1 : Hid True := trivial; clear hb hq K0) | (go_at_call 31; have hq := K1; refine (rwith_any B _ _ _ _ (HB.out _ B1.out) (Hl.out _ B1.out)).mono ?_; rintro e w2 ⟨s1, rfl, hT, hb⟩; have B2 : Hid (Below w.heap.size w w2) := B1.out.trans (hb.mono B1.out.size); have X2 : Hid (w2.cell? ⟨g, 6, none⟩ = some (.pointer (some ⟨gl, 0, none⟩)) ∧ w2.cell? ⟨g, 7, none⟩ = some (.pointer (some ⟨gr, 0, none⟩)) ∧ w2.cell? ⟨gr, 6, none⟩ = some (.pointer (some ⟨grl, 0, none⟩)) ∧ w2.cell? ⟨gr, 7, none⟩ = some (.pointer (some ⟨grr, 0, none⟩))) := CC.out _ B2.out; have R1_2 : Hid (PTAt w2 B (L.wset (wl - 1)) s1) := hT; clear hT; have K2 : Hid True := trivial; clear hb hq K1) | (go_at_call 62; have hq := K2; refine (Wrl.out _ B2.out).mono ?_; rintro e w3 ⟨rfl, hb⟩; have B3 : Hid (Below w.heap.size w w3) := B2.out.trans (hb.mono B2.out.size); have X3 : Hid (w3.cell? ⟨g, 6, none⟩ = some (.pointer (some ⟨gl, 0, none⟩)) ∧ w3.cell? ⟨g, 7, none⟩ = some (.pointer (some ⟨gr, 0, none⟩)) ∧ w3.cell? ⟨gr, 6, none⟩ = some (.pointer (some ⟨grl, 0, none⟩)) ∧ w3.cell? ⟨gr, 7, none⟩ = some (.pointer (some ⟨grr, 0, none⟩))) := CC.out _ B3.out; have R1_3 : Hid (PTAt w3 B (L.wset (wl - 1)) s1) := R1_2.out.below hb; have K3 : Hid True := trivial; clear hb hq K2) | (go_at_call 31; have hq := K3; refine (rwith_any B _ _ _ _ (HB.out _ B3.out) (Hrl.out _ B3.out)).mono ?_; rintro e w4 ⟨s3, rfl, hT, hb⟩; have B4 : Hid (Below w.heap.size w w4) := B3.out.trans (hb.mono B3.out.size); have X4 : Hid (w4.cell? ⟨g, 6, none⟩ = some (.pointer (some ⟨gl, 0, none⟩)) ∧ w4.cell? ⟨g, 7, none⟩ = some (.pointer (some ⟨gr, 0, none⟩)) ∧ w4.cell? ⟨gr, 6, none⟩ = some (.pointer (some ⟨grl, 0, none⟩)) ∧ w4.cell? ⟨gr, 7, none⟩ = some (.pointer (some ⟨grr, 0, none⟩))) := CC.out _ B4.out; have R1_4 : Hid (PTAt w4 B (L.wset (wl - 1)) s1) := R1_3.out.below hb; have R3_4 : Hid (PTAt w4 B (RL.wset (wrl - 1)) s3) := hT; clear hT; have K4 : Hid True := trivial; clear hb hq K3) | (go_at_call 65; have hq := K4; refine (node_any B _ _ _ _ _ _ _ _ (HB.out _ B4.out) (Hx.out _ B4.out) R1_4.out R3_4.out).mono ?_; rintro e w5 ⟨s4, rfl, hT, hb⟩; have B5 : Hid (Below w.heap.size w w5) := B4.out.trans (hb.mono B4.out.size); have X5 : Hid (w5.cell? ⟨g, 6, none⟩ = some (.pointer (some ⟨gl, 0, none⟩)) ∧ w5.cell? ⟨g, 7, none⟩ = some (.pointer (some ⟨gr, 0, none⟩)) ∧ w5.cell? ⟨gr, 6, none⟩ = some (.pointer (some ⟨grl, 0, none⟩)) ∧ w5.cell? ⟨gr, 7, none⟩ = some (.pointer (some ⟨grr, 0, none⟩))) := CC.out _ B5.out; have R1_5 : Hid (PTAt w5 B (L.wset (wl - 1)) s1) := R1_4.out.below hb; have R3_5 : Hid (PTAt w5 B (RL.wset (wrl - 1)) s3) := R3_4.out.below hb; have R4_5 : Hid (PTAt w5 B ((PT.nd n0 p0 L (.nd n1 p1 RL RR)).mk (1) (L.wset (wl - 1)) (RL.wset (wrl - 1))) s4) := hT; clear hT; have K5 : Hid True := trivial; clear hb hq K4) | (go_at_call 65; have hq := K5; refine (node_any B _ _ _ _ _ _ _ _ (HB.out _ B5.out) (Hr.out _ B5.out) R4_5.out (Hrr.out _ B5.out)).mono ?_; rintro e w6 ⟨s5, rfl, hT, hb⟩; have B6 : Hid (Below w.heap.size w w6) := B5.out.trans (hb.mono B5.out.size); have X6 : Hid (w6.cell? ⟨g, 6, none⟩ = some (.pointer (some ⟨gl, 0, none⟩)) ∧ w6.cell? ⟨g, 7, none⟩ = some (.pointer (some ⟨gr, 0, none⟩)) ∧ w6.cell? ⟨gr, 6, none⟩ = some (.pointer (some ⟨grl, 0, none⟩)) ∧ w6.cell? ⟨gr, 7, none⟩ = some (.pointer (some ⟨grr, 0, none⟩))) := CC.out _ B6.out; have R1_6 : Hid (PTAt w6 B (L.wset (wl - 1)) s1) := R1_5.out.below hb; have R3_6 : Hid (PTAt w6 B (RL.wset (wrl - 1)) s3) := R3_5.out.below hb; have R4_6 : Hid (PTAt w6 B ((PT.nd n0 p0 L (.nd n1 p1 RL RR)).mk (1) (L.wset (wl - 1)) (RL.wset (wrl - 1))) s4) := R4_5.out.below hb; have R5_6 : Hid (PTAt w6 B ((PT.nd n1 p1 RL RR).mk (n0.wt) ((PT.nd n0 p0 L (.nd n1 p1 RL RR)).mk (1) (L.wset (wl - 1)) (RL.wset (wrl - 1))) RR) s5) := hT; clear hT; have K6 : Hid True := trivial; clear hb hq K5))
  all_goals go_wp2_with fail
  all_goals go_ret
  all_goals exact ⟨_, rfl, R5_6.out, B6.out⟩
set_option maxRecDepth 100000 in
set_option maxHeartbeats 4000000 in
theorem rdo6 (B : Nat) (n0 n1 : NdD) (p0 p1 : Int) (L RL RR : PT) (g : Nat) (w : World) (hB : B ≤ w.heap.size) (_qx : 0 ≤ n0.wt ∧ n0.wt ≤ 1000000) (ql : 0 ≤ L.n.wt ∧ L.n.wt ≤ 1000000) (h : PTAt w B (.nd n0 p0 L (.nd n1 p1 RL RR)) g) :
    Calls Try.prog 30 #[.pointer (some ⟨g, 0, none⟩), .int .i64 6] w fun e w' => ∃ g' : Nat, e = .returned (.pointer (some ⟨g', 0, none⟩)) ∧ PTAt w' B (doP 6 (.nd n0 p0 L (.nd n1 p1 RL RR))) g' ∧ Below w.heap.size w w' := by
  have hx := h
  obtain ⟨gl, gr, -, bx, hl, hr⟩ := h
  have kr := hr
  obtain ⟨grl, grr, -, br, hrl, hrr⟩ := kr
  have lx := (Array.getElem?_eq_some_iff.1 bx).1
  have lr := (Array.getElem?_eq_some_iff.1 br).1
  have CC : Hid (∀ z, Below w.heap.size w z → z.cell? ⟨g, 6, none⟩ = some (.pointer (some ⟨gl, 0, none⟩)) ∧ z.cell? ⟨g, 7, none⟩ = some (.pointer (some ⟨gr, 0, none⟩)) ∧ z.cell? ⟨gr, 6, none⟩ = some (.pointer (some ⟨grl, 0, none⟩)) ∧ z.cell? ⟨gr, 7, none⟩ = some (.pointer (some ⟨grr, 0, none⟩))) := fun z hz => by
    have qbx := (hz.block g lx).trans bx
    have qbr := (hz.block gr lr).trans br
    exact ⟨(cell_of qbx 6 _ rfl).1, (cell_of qbx 7 _ rfl).1, (cell_of qbr 6 _ rfl).1, (cell_of qbr 7 _ rfl).1⟩
  have Hl : Hid (∀ z, Below w.heap.size w z → PTAt z B L gl) := fun z hz => hl.below hz
  have Hrl : Hid (∀ z, Below w.heap.size w z → PTAt z B RL grl) := fun z hz => hrl.below hz
  have Hx : Hid (∀ z, Below w.heap.size w z → PTAt z B (PT.nd n0 p0 L (.nd n1 p1 RL RR)) g) := fun z hz => hx.below hz
  have Hr : Hid (∀ z, Below w.heap.size w z → PTAt z B (PT.nd n1 p1 RL RR) gr) := fun z hz => hr.below hz
  have Hrr : Hid (∀ z, Below w.heap.size w z → PTAt z B RR grr) := fun z hz => hrr.below hz
  have HB : Hid (∀ z, Below w.heap.size w z → B ≤ z.heap.size) := fun z hz => Nat.le_trans hB hz.size
  have WX : Hid (∀ z, Below w.heap.size w z → Calls Try.prog 62 #[.pointer (some ⟨g, 0, none⟩)] z fun e w' => e = .returned (.int .i64 n0.wt) ∧ Below z.heap.size z w') := fun z hz => w_any B (some (PT.nd n0 p0 L (.nd n1 p1 RL RR))) _ z ⟨g, rfl, hx.below hz⟩
  have Wl : Hid (∀ z, Below w.heap.size w z → Calls Try.prog 62 #[.pointer (some ⟨gl, 0, none⟩)] z fun e w' => e = .returned (.int .i64 L.n.wt) ∧ Below z.heap.size z w') := fun z hz => w_any B (some L) _ z ⟨gl, rfl, hl.below hz⟩
  have B0 : Hid (Below w.heap.size w w.drew) := (Below.refl _ _).drew
  obtain ⟨y0, y1, y2, y3⟩ := CC.out w (Below.refl _ _)
  have E : Hid (doP 6 (.nd n0 p0 L (.nd n1 p1 RL RR)) = ((PT.nd n1 p1 RL RR).mk (n0.wt) ((PT.nd n0 p0 L (.nd n1 p1 RL RR)).mk (1) (L.wset (L.n.wt - 1)) (RL.wset (0))) RR)) := rfl
  rw [E.out]
  have e0 : IntKind.i64.wrap (L.n.wt - 1) = L.n.wt - 1 := wrapo _ (by omega) (by omega)
  clear hx hB E bx br hl hr hrl hrr
  generalize L.n.wt = wl at *
  go_enter Try.func30, Try.ntmps30
  go_wp2_with fail
  go_region
  go_wp2_with fail
  refine (WX.out _ B0.out).mono ?_
  rintro e w0 ⟨rfl, hb⟩
  have C0 : Hid (Below w.heap.size w w0) := B0.out.trans (hb.mono B0.out.size)
  clear hb
  obtain ⟨z0, z1, z2, z3⟩ := CC.out w0 C0.out
  have mx := Nat.lt_of_lt_of_le lx C0.out.size
  have mr := Nat.lt_of_lt_of_le lr C0.out.size
  have D0 : Hid (Below w.heap.size w w0.drew) := C0.out.drew
  have K0 : Hid True := trivial
  go_wp2_with fail
  go_region_held3 (fun w' => w'.cell? ⟨g, 6, none⟩ = some (.pointer (some ⟨gl, 0, none⟩)) ∧ w'.cell? ⟨g, 7, none⟩ = some (.pointer (some ⟨gr, 0, none⟩)) ∧ w'.cell? ⟨gr, 6, none⟩ = some (.pointer (some ⟨grl, 0, none⟩)) ∧ w'.cell? ⟨gr, 7, none⟩ = some (.pointer (some ⟨grr, 0, none⟩)))
    (first | (with_reducible exact X5.out) | (with_reducible exact X4.out) | (with_reducible exact X3.out) | (with_reducible exact X2.out) | (with_reducible exact X1.out) | go_keep)
    (first | (go_at_call 62; have hq := K0; refine (Wl.out _ D0.out).mono ?_; rintro e w1 ⟨rfl, hb⟩; have B1 : Hid (Below w.heap.size w w1) := D0.out.trans (hb.mono D0.out.size); have X1 : Hid (w1.cell? ⟨g, 6, none⟩ = some (.pointer (some ⟨gl, 0, none⟩)) ∧ w1.cell? ⟨g, 7, none⟩ = some (.pointer (some ⟨gr, 0, none⟩)) ∧ w1.cell? ⟨gr, 6, none⟩ = some (.pointer (some ⟨grl, 0, none⟩)) ∧ w1.cell? ⟨gr, 7, none⟩ = some (.pointer (some ⟨grr, 0, none⟩))) := CC.out _ B1.out; have K1 : Hid True := trivial; clear hb hq K0) | (go_at_call 31; have hq := K1; refine (rwith_any B _ _ _ _ (HB.out _ B1.out) (Hl.out _ B1.out)).mono ?_; rintro e w2 ⟨s1, rfl, hT, hb⟩; have B2 : Hid (Below w.heap.size w w2) := B1.out.trans (hb.mono B1.out.size); have X2 : Hid (w2.cell? ⟨g, 6, none⟩ = some (.pointer (some ⟨gl, 0, none⟩)) ∧ w2.cell? ⟨g, 7, none⟩ = some (.pointer (some ⟨gr, 0, none⟩)) ∧ w2.cell? ⟨gr, 6, none⟩ = some (.pointer (some ⟨grl, 0, none⟩)) ∧ w2.cell? ⟨gr, 7, none⟩ = some (.pointer (some ⟨grr, 0, none⟩))) := CC.out _ B2.out; have R1_2 : Hid (PTAt w2 B (L.wset (wl - 1)) s1) := hT; clear hT; have K2 : Hid True := trivial; clear hb hq K1) | (go_at_call 31; have hq := K2; refine (rwith_any B _ _ _ _ (HB.out _ B2.out) (Hrl.out _ B2.out)).mono ?_; rintro e w3 ⟨s2, rfl, hT, hb⟩; have B3 : Hid (Below w.heap.size w w3) := B2.out.trans (hb.mono B2.out.size); have X3 : Hid (w3.cell? ⟨g, 6, none⟩ = some (.pointer (some ⟨gl, 0, none⟩)) ∧ w3.cell? ⟨g, 7, none⟩ = some (.pointer (some ⟨gr, 0, none⟩)) ∧ w3.cell? ⟨gr, 6, none⟩ = some (.pointer (some ⟨grl, 0, none⟩)) ∧ w3.cell? ⟨gr, 7, none⟩ = some (.pointer (some ⟨grr, 0, none⟩))) := CC.out _ B3.out; have R1_3 : Hid (PTAt w3 B (L.wset (wl - 1)) s1) := R1_2.out.below hb; have R2_3 : Hid (PTAt w3 B (RL.wset (0)) s2) := hT; clear hT; have K3 : Hid True := trivial; clear hb hq K2) | (go_at_call 65; have hq := K3; refine (node_any B _ _ _ _ _ _ _ _ (HB.out _ B3.out) (Hx.out _ B3.out) R1_3.out R2_3.out).mono ?_; rintro e w4 ⟨s3, rfl, hT, hb⟩; have B4 : Hid (Below w.heap.size w w4) := B3.out.trans (hb.mono B3.out.size); have X4 : Hid (w4.cell? ⟨g, 6, none⟩ = some (.pointer (some ⟨gl, 0, none⟩)) ∧ w4.cell? ⟨g, 7, none⟩ = some (.pointer (some ⟨gr, 0, none⟩)) ∧ w4.cell? ⟨gr, 6, none⟩ = some (.pointer (some ⟨grl, 0, none⟩)) ∧ w4.cell? ⟨gr, 7, none⟩ = some (.pointer (some ⟨grr, 0, none⟩))) := CC.out _ B4.out; have R1_4 : Hid (PTAt w4 B (L.wset (wl - 1)) s1) := R1_3.out.below hb; have R2_4 : Hid (PTAt w4 B (RL.wset (0)) s2) := R2_3.out.below hb; have R3_4 : Hid (PTAt w4 B ((PT.nd n0 p0 L (.nd n1 p1 RL RR)).mk (1) (L.wset (wl - 1)) (RL.wset (0))) s3) := hT; clear hT; have K4 : Hid True := trivial; clear hb hq K3) | (go_at_call 65; have hq := K4; refine (node_any B _ _ _ _ _ _ _ _ (HB.out _ B4.out) (Hr.out _ B4.out) R3_4.out (Hrr.out _ B4.out)).mono ?_; rintro e w5 ⟨s4, rfl, hT, hb⟩; have B5 : Hid (Below w.heap.size w w5) := B4.out.trans (hb.mono B4.out.size); have X5 : Hid (w5.cell? ⟨g, 6, none⟩ = some (.pointer (some ⟨gl, 0, none⟩)) ∧ w5.cell? ⟨g, 7, none⟩ = some (.pointer (some ⟨gr, 0, none⟩)) ∧ w5.cell? ⟨gr, 6, none⟩ = some (.pointer (some ⟨grl, 0, none⟩)) ∧ w5.cell? ⟨gr, 7, none⟩ = some (.pointer (some ⟨grr, 0, none⟩))) := CC.out _ B5.out; have R1_5 : Hid (PTAt w5 B (L.wset (wl - 1)) s1) := R1_4.out.below hb; have R2_5 : Hid (PTAt w5 B (RL.wset (0)) s2) := R2_4.out.below hb; have R3_5 : Hid (PTAt w5 B ((PT.nd n0 p0 L (.nd n1 p1 RL RR)).mk (1) (L.wset (wl - 1)) (RL.wset (0))) s3) := R3_4.out.below hb; have R4_5 : Hid (PTAt w5 B ((PT.nd n1 p1 RL RR).mk (n0.wt) ((PT.nd n0 p0 L (.nd n1 p1 RL RR)).mk (1) (L.wset (wl - 1)) (RL.wset (0))) RR) s4) := hT; clear hT; have K5 : Hid True := trivial; clear hb hq K4))
  all_goals go_wp2_with fail
  all_goals go_ret
  all_goals exact ⟨_, rfl, R4_5.out, B5.out⟩
set_option maxRecDepth 100000 in
set_option maxHeartbeats 4000000 in
theorem rdo11 (B : Nat) (n0 : NdD) (p0 : Int) (L R : PT) (g : Nat) (w : World) (hB : B ≤ w.heap.size) (qx : 0 ≤ n0.wt ∧ n0.wt ≤ 1000000) (ql : 0 ≤ L.n.wt ∧ L.n.wt ≤ 1000000) (qr : 0 ≤ R.n.wt ∧ R.n.wt ≤ 1000000) (h : PTAt w B (.nd n0 p0 L R) g) :
    Calls Try.prog 30 #[.pointer (some ⟨g, 0, none⟩), .int .i64 11] w fun e w' => ∃ g' : Nat, e = .returned (.pointer (some ⟨g', 0, none⟩)) ∧ PTAt w' B (doP 11 (.nd n0 p0 L R)) g' ∧ Below w.heap.size w w' := by
  have hx := h
  obtain ⟨gl, gr, -, bx, hl, hr⟩ := h
  have lx := (Array.getElem?_eq_some_iff.1 bx).1
  have CC : Hid (∀ z, Below w.heap.size w z → z.cell? ⟨g, 6, none⟩ = some (.pointer (some ⟨gl, 0, none⟩)) ∧ z.cell? ⟨g, 7, none⟩ = some (.pointer (some ⟨gr, 0, none⟩))) := fun z hz => by
    have qbx := (hz.block g lx).trans bx
    exact ⟨(cell_of qbx 6 _ rfl).1, (cell_of qbx 7 _ rfl).1⟩
  have Hl : Hid (∀ z, Below w.heap.size w z → PTAt z B L gl) := fun z hz => hl.below hz
  have Hr : Hid (∀ z, Below w.heap.size w z → PTAt z B R gr) := fun z hz => hr.below hz
  have Hx : Hid (∀ z, Below w.heap.size w z → PTAt z B (PT.nd n0 p0 L R) g) := fun z hz => hx.below hz
  have HB : Hid (∀ z, Below w.heap.size w z → B ≤ z.heap.size) := fun z hz => Nat.le_trans hB hz.size
  have WX : Hid (∀ z, Below w.heap.size w z → Calls Try.prog 62 #[.pointer (some ⟨g, 0, none⟩)] z fun e w' => e = .returned (.int .i64 n0.wt) ∧ Below z.heap.size z w') := fun z hz => w_any B (some (PT.nd n0 p0 L R)) _ z ⟨g, rfl, hx.below hz⟩
  have Wl : Hid (∀ z, Below w.heap.size w z → Calls Try.prog 62 #[.pointer (some ⟨gl, 0, none⟩)] z fun e w' => e = .returned (.int .i64 L.n.wt) ∧ Below z.heap.size z w') := fun z hz => w_any B (some L) _ z ⟨gl, rfl, hl.below hz⟩
  have Wr : Hid (∀ z, Below w.heap.size w z → Calls Try.prog 62 #[.pointer (some ⟨gr, 0, none⟩)] z fun e w' => e = .returned (.int .i64 R.n.wt) ∧ Below z.heap.size z w') := fun z hz => w_any B (some R) _ z ⟨gr, rfl, hr.below hz⟩
  have B0 : Hid (Below w.heap.size w w.drew) := (Below.refl _ _).drew
  obtain ⟨y0, y1⟩ := CC.out w (Below.refl _ _)
  have E : Hid (doP 11 (.nd n0 p0 L R) = ((PT.nd n0 p0 L R).mk (n0.wt + 1) (L.wset (L.n.wt - 1)) (R.wset (R.n.wt - 1)))) := rfl
  rw [E.out]
  have e0 : IntKind.i64.wrap (L.n.wt - 1) = L.n.wt - 1 := wrapo _ (by omega) (by omega)
  have e1 : IntKind.i64.wrap (R.n.wt - 1) = R.n.wt - 1 := wrapo _ (by omega) (by omega)
  have e2 : IntKind.i64.wrap (n0.wt + 1) = n0.wt + 1 := wrapo _ (by omega) (by omega)
  clear hx hB E bx hl hr
  generalize L.n.wt = wl at *
  generalize R.n.wt = wr at *
  go_enter Try.func30, Try.ntmps30
  go_wp2_with fail
  go_region
  go_wp2_with fail
  refine (WX.out _ B0.out).mono ?_
  rintro e w0 ⟨rfl, hb⟩
  have C0 : Hid (Below w.heap.size w w0) := B0.out.trans (hb.mono B0.out.size)
  clear hb
  obtain ⟨z0, z1⟩ := CC.out w0 C0.out
  have mx := Nat.lt_of_lt_of_le lx C0.out.size
  have D0 : Hid (Below w.heap.size w w0) := C0.out
  have K0 : Hid True := trivial
  go_wp2_with (first | (go_at_call 62; have hq := K0; refine (Wl.out _ D0.out).mono ?_; rintro e w1 ⟨rfl, hb⟩; have B1 : Hid (Below w.heap.size w w1) := D0.out.trans (hb.mono D0.out.size); have K1 : Hid True := trivial; clear hb hq K0) | (go_at_call 31; have hq := K1; refine (rwith_any B _ _ _ _ (HB.out _ B1.out) (Hl.out _ B1.out)).mono ?_; rintro e w2 ⟨s1, rfl, hT, hb⟩; have B2 : Hid (Below w.heap.size w w2) := B1.out.trans (hb.mono B1.out.size); have R1_2 : Hid (PTAt w2 B (L.wset (wl - 1)) s1) := hT; clear hT; have K2 : Hid True := trivial; clear hb hq K1) | (go_at_call 62; have hq := K2; refine (Wr.out _ B2.out).mono ?_; rintro e w3 ⟨rfl, hb⟩; have B3 : Hid (Below w.heap.size w w3) := B2.out.trans (hb.mono B2.out.size); have R1_3 : Hid (PTAt w3 B (L.wset (wl - 1)) s1) := R1_2.out.below hb; have K3 : Hid True := trivial; clear hb hq K2) | (go_at_call 31; have hq := K3; refine (rwith_any B _ _ _ _ (HB.out _ B3.out) (Hr.out _ B3.out)).mono ?_; rintro e w4 ⟨s3, rfl, hT, hb⟩; have B4 : Hid (Below w.heap.size w w4) := B3.out.trans (hb.mono B3.out.size); have R1_4 : Hid (PTAt w4 B (L.wset (wl - 1)) s1) := R1_3.out.below hb; have R3_4 : Hid (PTAt w4 B (R.wset (wr - 1)) s3) := hT; clear hT; have K4 : Hid True := trivial; clear hb hq K3) | (go_at_call 65; have hq := K4; refine (node_any B _ _ _ _ _ _ _ _ (HB.out _ B4.out) (Hx.out _ B4.out) R1_4.out R3_4.out).mono ?_; rintro e w5 ⟨s4, rfl, hT, hb⟩; have B5 : Hid (Below w.heap.size w w5) := B4.out.trans (hb.mono B4.out.size); have R1_5 : Hid (PTAt w5 B (L.wset (wl - 1)) s1) := R1_4.out.below hb; have R3_5 : Hid (PTAt w5 B (R.wset (wr - 1)) s3) := R3_4.out.below hb; have R4_5 : Hid (PTAt w5 B ((PT.nd n0 p0 L R).mk (n0.wt + 1) (L.wset (wl - 1)) (R.wset (wr - 1))) s4) := hT; clear hT; have K5 : Hid True := trivial; clear hb hq K4))
  go_ret
  exact ⟨_, rfl, R4_5.out, B5.out⟩
end Go.Proofs.Ythlhbajaogonnaa

namespace Go.Proofs.Ythlhbajaogonnaa

open Go.RowKit

attribute [local go_sem ↓] Go.wp_at_zero Go.wp_at_succ

set_option maxRecDepth 100000 in
set_option maxHeartbeats 4000000 in
theorem rdo7 (B : Nat) (n0 n1 n2 n3 : NdD) (p0 p1 p2 p3 : Int) (L A C D RR : PT) (g : Nat) (w : World) (hB : B ≤ w.heap.size) (_qx : 0 ≤ n0.wt ∧ n0.wt ≤ 1000000) (ql : 0 ≤ L.n.wt ∧ L.n.wt ≤ 1000000) (h : PTAt w B (.nd n0 p0 L (.nd n1 p1 (.nd n2 p2 (.nd n3 p3 A C) D) RR)) g) :
    Calls Try.prog 30 #[.pointer (some ⟨g, 0, none⟩), .int .i64 7] w fun e w' => ∃ g' : Nat, e = .returned (.pointer (some ⟨g', 0, none⟩)) ∧ PTAt w' B (doP 7 (.nd n0 p0 L (.nd n1 p1 (.nd n2 p2 (.nd n3 p3 A C) D) RR))) g' ∧ Below w.heap.size w w' := by
  have hx := h
  obtain ⟨gl, gr, -, bx, hl, hr⟩ := h
  have kr := hr
  obtain ⟨grl, grr, -, br, hrl, hrr⟩ := kr
  have krl := hrl
  obtain ⟨grll, grlr, -, brl, hrll, hrlr⟩ := krl
  have krll := hrll
  obtain ⟨grlll, grllr, -, brll, hrlll, hrllr⟩ := krll
  have lx := (Array.getElem?_eq_some_iff.1 bx).1
  have lr := (Array.getElem?_eq_some_iff.1 br).1
  have lrl := (Array.getElem?_eq_some_iff.1 brl).1
  have lrll := (Array.getElem?_eq_some_iff.1 brll).1
  have CC : Hid (∀ z, Below w.heap.size w z → z.cell? ⟨g, 6, none⟩ = some (.pointer (some ⟨gl, 0, none⟩)) ∧ z.cell? ⟨g, 7, none⟩ = some (.pointer (some ⟨gr, 0, none⟩)) ∧ z.cell? ⟨gr, 6, none⟩ = some (.pointer (some ⟨grl, 0, none⟩)) ∧ z.cell? ⟨gr, 7, none⟩ = some (.pointer (some ⟨grr, 0, none⟩)) ∧ z.cell? ⟨grl, 6, none⟩ = some (.pointer (some ⟨grll, 0, none⟩)) ∧ z.cell? ⟨grl, 7, none⟩ = some (.pointer (some ⟨grlr, 0, none⟩)) ∧ z.cell? ⟨grll, 6, none⟩ = some (.pointer (some ⟨grlll, 0, none⟩)) ∧ z.cell? ⟨grll, 7, none⟩ = some (.pointer (some ⟨grllr, 0, none⟩))) := fun z hz => by
    have qbx := (hz.block g lx).trans bx
    have qbr := (hz.block gr lr).trans br
    have qbrl := (hz.block grl lrl).trans brl
    have qbrll := (hz.block grll lrll).trans brll
    exact ⟨(cell_of qbx 6 _ rfl).1, (cell_of qbx 7 _ rfl).1, (cell_of qbr 6 _ rfl).1, (cell_of qbr 7 _ rfl).1, (cell_of qbrl 6 _ rfl).1, (cell_of qbrl 7 _ rfl).1, (cell_of qbrll 6 _ rfl).1, (cell_of qbrll 7 _ rfl).1⟩
  have Hl : Hid (∀ z, Below w.heap.size w z → PTAt z B L gl) := fun z hz => hl.below hz
  have Hx : Hid (∀ z, Below w.heap.size w z → PTAt z B (PT.nd n0 p0 L (.nd n1 p1 (.nd n2 p2 (.nd n3 p3 A C) D) RR)) g) := fun z hz => hx.below hz
  have Hrlll : Hid (∀ z, Below w.heap.size w z → PTAt z B A grlll) := fun z hz => hrlll.below hz
  have Hrl : Hid (∀ z, Below w.heap.size w z → PTAt z B (PT.nd n2 p2 (.nd n3 p3 A C) D) grl) := fun z hz => hrl.below hz
  have Hrllr : Hid (∀ z, Below w.heap.size w z → PTAt z B C grllr) := fun z hz => hrllr.below hz
  have Hrlr : Hid (∀ z, Below w.heap.size w z → PTAt z B D grlr) := fun z hz => hrlr.below hz
  have Hrll : Hid (∀ z, Below w.heap.size w z → PTAt z B (PT.nd n3 p3 A C) grll) := fun z hz => hrll.below hz
  have Hr : Hid (∀ z, Below w.heap.size w z → PTAt z B (PT.nd n1 p1 (.nd n2 p2 (.nd n3 p3 A C) D) RR) gr) := fun z hz => hr.below hz
  have Hrr : Hid (∀ z, Below w.heap.size w z → PTAt z B RR grr) := fun z hz => hrr.below hz
  have HB : Hid (∀ z, Below w.heap.size w z → B ≤ z.heap.size) := fun z hz => Nat.le_trans hB hz.size
  have WX : Hid (∀ z, Below w.heap.size w z → Calls Try.prog 62 #[.pointer (some ⟨g, 0, none⟩)] z fun e w' => e = .returned (.int .i64 n0.wt) ∧ Below z.heap.size z w') := fun z hz => w_any B (some (PT.nd n0 p0 L (.nd n1 p1 (.nd n2 p2 (.nd n3 p3 A C) D) RR))) _ z ⟨g, rfl, hx.below hz⟩
  have Wl : Hid (∀ z, Below w.heap.size w z → Calls Try.prog 62 #[.pointer (some ⟨gl, 0, none⟩)] z fun e w' => e = .returned (.int .i64 L.n.wt) ∧ Below z.heap.size z w') := fun z hz => w_any B (some L) _ z ⟨gl, rfl, hl.below hz⟩
  have B0 : Hid (Below w.heap.size w w.drew) := (Below.refl _ _).drew
  obtain ⟨y0, y1, y2, y3, y4, y5, y6, y7⟩ := CC.out w (Below.refl _ _)
  have E : Hid (doP 7 (.nd n0 p0 L (.nd n1 p1 (.nd n2 p2 (.nd n3 p3 A C) D) RR)) = ((PT.nd n1 p1 (.nd n2 p2 (.nd n3 p3 A C) D) RR).mk (n0.wt) ((PT.nd n3 p3 A C).mk (0) ((PT.nd n0 p0 L (.nd n1 p1 (.nd n2 p2 (.nd n3 p3 A C) D) RR)).mk (1) (L.wset (L.n.wt - 1)) A) ((PT.nd n2 p2 (.nd n3 p3 A C) D).mk (1) C D)) RR)) := rfl
  rw [E.out]
  have e0 : IntKind.i64.wrap (L.n.wt - 1) = L.n.wt - 1 := wrapo _ (by omega) (by omega)
  clear hx hB E bx br brl brll hl hr hrl hrll hrlll hrllr hrlr hrr
  generalize L.n.wt = wl at *
  go_enter Try.func30, Try.ntmps30
  go_wp2_with fail
  go_region
  go_wp2_with fail
  refine (WX.out _ B0.out).mono ?_
  rintro e w0 ⟨rfl, hb⟩
  have C0 : Hid (Below w.heap.size w w0) := B0.out.trans (hb.mono B0.out.size)
  clear hb
  obtain ⟨z0, z1, z2, z3, z4, z5, z6, z7⟩ := CC.out w0 C0.out
  have mx := Nat.lt_of_lt_of_le lx C0.out.size
  have mr := Nat.lt_of_lt_of_le lr C0.out.size
  have mrl := Nat.lt_of_lt_of_le lrl C0.out.size
  have mrll := Nat.lt_of_lt_of_le lrll C0.out.size
  have D0 : Hid (Below w.heap.size w w0.drew) := C0.out.drew
  have K0 : Hid True := trivial
  go_wp2_with fail
  go_region_held3 (fun w' => w'.cell? ⟨g, 6, none⟩ = some (.pointer (some ⟨gl, 0, none⟩)) ∧ w'.cell? ⟨g, 7, none⟩ = some (.pointer (some ⟨gr, 0, none⟩)) ∧ w'.cell? ⟨gr, 6, none⟩ = some (.pointer (some ⟨grl, 0, none⟩)) ∧ w'.cell? ⟨gr, 7, none⟩ = some (.pointer (some ⟨grr, 0, none⟩)) ∧ w'.cell? ⟨grl, 6, none⟩ = some (.pointer (some ⟨grll, 0, none⟩)) ∧ w'.cell? ⟨grl, 7, none⟩ = some (.pointer (some ⟨grlr, 0, none⟩)) ∧ w'.cell? ⟨grll, 6, none⟩ = some (.pointer (some ⟨grlll, 0, none⟩)) ∧ w'.cell? ⟨grll, 7, none⟩ = some (.pointer (some ⟨grllr, 0, none⟩)))
    (first | (with_reducible exact X6.out) | (with_reducible exact X5.out) | (with_reducible exact X4.out) | (with_reducible exact X3.out) | (with_reducible exact X2.out) | (with_reducible exact X1.out) | go_keep)
    (first | (go_at_call 62; have hq := K0; refine (Wl.out _ D0.out).mono ?_; rintro e w1 ⟨rfl, hb⟩; have B1 : Hid (Below w.heap.size w w1) := D0.out.trans (hb.mono D0.out.size); have X1 : Hid (w1.cell? ⟨g, 6, none⟩ = some (.pointer (some ⟨gl, 0, none⟩)) ∧ w1.cell? ⟨g, 7, none⟩ = some (.pointer (some ⟨gr, 0, none⟩)) ∧ w1.cell? ⟨gr, 6, none⟩ = some (.pointer (some ⟨grl, 0, none⟩)) ∧ w1.cell? ⟨gr, 7, none⟩ = some (.pointer (some ⟨grr, 0, none⟩)) ∧ w1.cell? ⟨grl, 6, none⟩ = some (.pointer (some ⟨grll, 0, none⟩)) ∧ w1.cell? ⟨grl, 7, none⟩ = some (.pointer (some ⟨grlr, 0, none⟩)) ∧ w1.cell? ⟨grll, 6, none⟩ = some (.pointer (some ⟨grlll, 0, none⟩)) ∧ w1.cell? ⟨grll, 7, none⟩ = some (.pointer (some ⟨grllr, 0, none⟩))) := CC.out _ B1.out; have K1 : Hid True := trivial; clear hb hq K0) | (go_at_call 31; have hq := K1; refine (rwith_any B _ _ _ _ (HB.out _ B1.out) (Hl.out _ B1.out)).mono ?_; rintro e w2 ⟨s1, rfl, hT, hb⟩; have B2 : Hid (Below w.heap.size w w2) := B1.out.trans (hb.mono B1.out.size); have X2 : Hid (w2.cell? ⟨g, 6, none⟩ = some (.pointer (some ⟨gl, 0, none⟩)) ∧ w2.cell? ⟨g, 7, none⟩ = some (.pointer (some ⟨gr, 0, none⟩)) ∧ w2.cell? ⟨gr, 6, none⟩ = some (.pointer (some ⟨grl, 0, none⟩)) ∧ w2.cell? ⟨gr, 7, none⟩ = some (.pointer (some ⟨grr, 0, none⟩)) ∧ w2.cell? ⟨grl, 6, none⟩ = some (.pointer (some ⟨grll, 0, none⟩)) ∧ w2.cell? ⟨grl, 7, none⟩ = some (.pointer (some ⟨grlr, 0, none⟩)) ∧ w2.cell? ⟨grll, 6, none⟩ = some (.pointer (some ⟨grlll, 0, none⟩)) ∧ w2.cell? ⟨grll, 7, none⟩ = some (.pointer (some ⟨grllr, 0, none⟩))) := CC.out _ B2.out; have R1_2 : Hid (PTAt w2 B (L.wset (wl - 1)) s1) := hT; clear hT; have K2 : Hid True := trivial; clear hb hq K1) | (go_at_call 65; have hq := K2; refine (node_any B _ _ _ _ _ _ _ _ (HB.out _ B2.out) (Hx.out _ B2.out) R1_2.out (Hrlll.out _ B2.out)).mono ?_; rintro e w3 ⟨s2, rfl, hT, hb⟩; have B3 : Hid (Below w.heap.size w w3) := B2.out.trans (hb.mono B2.out.size); have X3 : Hid (w3.cell? ⟨g, 6, none⟩ = some (.pointer (some ⟨gl, 0, none⟩)) ∧ w3.cell? ⟨g, 7, none⟩ = some (.pointer (some ⟨gr, 0, none⟩)) ∧ w3.cell? ⟨gr, 6, none⟩ = some (.pointer (some ⟨grl, 0, none⟩)) ∧ w3.cell? ⟨gr, 7, none⟩ = some (.pointer (some ⟨grr, 0, none⟩)) ∧ w3.cell? ⟨grl, 6, none⟩ = some (.pointer (some ⟨grll, 0, none⟩)) ∧ w3.cell? ⟨grl, 7, none⟩ = some (.pointer (some ⟨grlr, 0, none⟩)) ∧ w3.cell? ⟨grll, 6, none⟩ = some (.pointer (some ⟨grlll, 0, none⟩)) ∧ w3.cell? ⟨grll, 7, none⟩ = some (.pointer (some ⟨grllr, 0, none⟩))) := CC.out _ B3.out; have R1_3 : Hid (PTAt w3 B (L.wset (wl - 1)) s1) := R1_2.out.below hb; have R2_3 : Hid (PTAt w3 B ((PT.nd n0 p0 L (.nd n1 p1 (.nd n2 p2 (.nd n3 p3 A C) D) RR)).mk (1) (L.wset (wl - 1)) A) s2) := hT; clear hT; have K3 : Hid True := trivial; clear hb hq K2) | (go_at_call 65; have hq := K3; refine (node_any B _ _ _ _ _ _ _ _ (HB.out _ B3.out) (Hrl.out _ B3.out) (Hrllr.out _ B3.out) (Hrlr.out _ B3.out)).mono ?_; rintro e w4 ⟨s3, rfl, hT, hb⟩; have B4 : Hid (Below w.heap.size w w4) := B3.out.trans (hb.mono B3.out.size); have X4 : Hid (w4.cell? ⟨g, 6, none⟩ = some (.pointer (some ⟨gl, 0, none⟩)) ∧ w4.cell? ⟨g, 7, none⟩ = some (.pointer (some ⟨gr, 0, none⟩)) ∧ w4.cell? ⟨gr, 6, none⟩ = some (.pointer (some ⟨grl, 0, none⟩)) ∧ w4.cell? ⟨gr, 7, none⟩ = some (.pointer (some ⟨grr, 0, none⟩)) ∧ w4.cell? ⟨grl, 6, none⟩ = some (.pointer (some ⟨grll, 0, none⟩)) ∧ w4.cell? ⟨grl, 7, none⟩ = some (.pointer (some ⟨grlr, 0, none⟩)) ∧ w4.cell? ⟨grll, 6, none⟩ = some (.pointer (some ⟨grlll, 0, none⟩)) ∧ w4.cell? ⟨grll, 7, none⟩ = some (.pointer (some ⟨grllr, 0, none⟩))) := CC.out _ B4.out; have R1_4 : Hid (PTAt w4 B (L.wset (wl - 1)) s1) := R1_3.out.below hb; have R2_4 : Hid (PTAt w4 B ((PT.nd n0 p0 L (.nd n1 p1 (.nd n2 p2 (.nd n3 p3 A C) D) RR)).mk (1) (L.wset (wl - 1)) A) s2) := R2_3.out.below hb; have R3_4 : Hid (PTAt w4 B ((PT.nd n2 p2 (.nd n3 p3 A C) D).mk (1) C D) s3) := hT; clear hT; have K4 : Hid True := trivial; clear hb hq K3) | (go_at_call 65; have hq := K4; refine (node_any B _ _ _ _ _ _ _ _ (HB.out _ B4.out) (Hrll.out _ B4.out) R2_4.out R3_4.out).mono ?_; rintro e w5 ⟨s4, rfl, hT, hb⟩; have B5 : Hid (Below w.heap.size w w5) := B4.out.trans (hb.mono B4.out.size); have X5 : Hid (w5.cell? ⟨g, 6, none⟩ = some (.pointer (some ⟨gl, 0, none⟩)) ∧ w5.cell? ⟨g, 7, none⟩ = some (.pointer (some ⟨gr, 0, none⟩)) ∧ w5.cell? ⟨gr, 6, none⟩ = some (.pointer (some ⟨grl, 0, none⟩)) ∧ w5.cell? ⟨gr, 7, none⟩ = some (.pointer (some ⟨grr, 0, none⟩)) ∧ w5.cell? ⟨grl, 6, none⟩ = some (.pointer (some ⟨grll, 0, none⟩)) ∧ w5.cell? ⟨grl, 7, none⟩ = some (.pointer (some ⟨grlr, 0, none⟩)) ∧ w5.cell? ⟨grll, 6, none⟩ = some (.pointer (some ⟨grlll, 0, none⟩)) ∧ w5.cell? ⟨grll, 7, none⟩ = some (.pointer (some ⟨grllr, 0, none⟩))) := CC.out _ B5.out; have R1_5 : Hid (PTAt w5 B (L.wset (wl - 1)) s1) := R1_4.out.below hb; have R2_5 : Hid (PTAt w5 B ((PT.nd n0 p0 L (.nd n1 p1 (.nd n2 p2 (.nd n3 p3 A C) D) RR)).mk (1) (L.wset (wl - 1)) A) s2) := R2_4.out.below hb; have R3_5 : Hid (PTAt w5 B ((PT.nd n2 p2 (.nd n3 p3 A C) D).mk (1) C D) s3) := R3_4.out.below hb; have R4_5 : Hid (PTAt w5 B ((PT.nd n3 p3 A C).mk (0) ((PT.nd n0 p0 L (.nd n1 p1 (.nd n2 p2 (.nd n3 p3 A C) D) RR)).mk (1) (L.wset (wl - 1)) A) ((PT.nd n2 p2 (.nd n3 p3 A C) D).mk (1) C D)) s4) := hT; clear hT; have K5 : Hid True := trivial; clear hb hq K4) | (go_at_call 65; have hq := K5; refine (node_any B _ _ _ _ _ _ _ _ (HB.out _ B5.out) (Hr.out _ B5.out) R4_5.out (Hrr.out _ B5.out)).mono ?_; rintro e w6 ⟨s5, rfl, hT, hb⟩; have B6 : Hid (Below w.heap.size w w6) := B5.out.trans (hb.mono B5.out.size); have X6 : Hid (w6.cell? ⟨g, 6, none⟩ = some (.pointer (some ⟨gl, 0, none⟩)) ∧ w6.cell? ⟨g, 7, none⟩ = some (.pointer (some ⟨gr, 0, none⟩)) ∧ w6.cell? ⟨gr, 6, none⟩ = some (.pointer (some ⟨grl, 0, none⟩)) ∧ w6.cell? ⟨gr, 7, none⟩ = some (.pointer (some ⟨grr, 0, none⟩)) ∧ w6.cell? ⟨grl, 6, none⟩ = some (.pointer (some ⟨grll, 0, none⟩)) ∧ w6.cell? ⟨grl, 7, none⟩ = some (.pointer (some ⟨grlr, 0, none⟩)) ∧ w6.cell? ⟨grll, 6, none⟩ = some (.pointer (some ⟨grlll, 0, none⟩)) ∧ w6.cell? ⟨grll, 7, none⟩ = some (.pointer (some ⟨grllr, 0, none⟩))) := CC.out _ B6.out; have R1_6 : Hid (PTAt w6 B (L.wset (wl - 1)) s1) := R1_5.out.below hb; have R2_6 : Hid (PTAt w6 B ((PT.nd n0 p0 L (.nd n1 p1 (.nd n2 p2 (.nd n3 p3 A C) D) RR)).mk (1) (L.wset (wl - 1)) A) s2) := R2_5.out.below hb; have R3_6 : Hid (PTAt w6 B ((PT.nd n2 p2 (.nd n3 p3 A C) D).mk (1) C D) s3) := R3_5.out.below hb; have R4_6 : Hid (PTAt w6 B ((PT.nd n3 p3 A C).mk (0) ((PT.nd n0 p0 L (.nd n1 p1 (.nd n2 p2 (.nd n3 p3 A C) D) RR)).mk (1) (L.wset (wl - 1)) A) ((PT.nd n2 p2 (.nd n3 p3 A C) D).mk (1) C D)) s4) := R4_5.out.below hb; have R5_6 : Hid (PTAt w6 B ((PT.nd n1 p1 (.nd n2 p2 (.nd n3 p3 A C) D) RR).mk (n0.wt) ((PT.nd n3 p3 A C).mk (0) ((PT.nd n0 p0 L (.nd n1 p1 (.nd n2 p2 (.nd n3 p3 A C) D) RR)).mk (1) (L.wset (wl - 1)) A) ((PT.nd n2 p2 (.nd n3 p3 A C) D).mk (1) C D)) RR) s5) := hT; clear hT; have K6 : Hid True := trivial; clear hb hq K5))
  all_goals go_wp2_with fail
  all_goals go_ret
  all_goals exact ⟨_, rfl, R5_6.out, B6.out⟩
set_option maxRecDepth 100000 in
set_option maxHeartbeats 4000000 in
theorem rdo8 (B : Nat) (n0 n1 n2 : NdD) (p0 p1 p2 : Int) (L C D RR : PT) (g : Nat) (w : World) (hB : B ≤ w.heap.size) (_qx : 0 ≤ n0.wt ∧ n0.wt ≤ 1000000) (ql : 0 ≤ L.n.wt ∧ L.n.wt ≤ 1000000) (h : PTAt w B (.nd n0 p0 L (.nd n1 p1 (.nd n2 p2 C D) RR)) g) :
    Calls Try.prog 30 #[.pointer (some ⟨g, 0, none⟩), .int .i64 8] w fun e w' => ∃ g' : Nat, e = .returned (.pointer (some ⟨g', 0, none⟩)) ∧ PTAt w' B (doP 8 (.nd n0 p0 L (.nd n1 p1 (.nd n2 p2 C D) RR))) g' ∧ Below w.heap.size w w' := by
  have hx := h
  obtain ⟨gl, gr, -, bx, hl, hr⟩ := h
  have kr := hr
  obtain ⟨grl, grr, -, br, hrl, hrr⟩ := kr
  have krl := hrl
  obtain ⟨grll, grlr, -, brl, hrll, hrlr⟩ := krl
  have lx := (Array.getElem?_eq_some_iff.1 bx).1
  have lr := (Array.getElem?_eq_some_iff.1 br).1
  have lrl := (Array.getElem?_eq_some_iff.1 brl).1
  have CC : Hid (∀ z, Below w.heap.size w z → z.cell? ⟨g, 6, none⟩ = some (.pointer (some ⟨gl, 0, none⟩)) ∧ z.cell? ⟨g, 7, none⟩ = some (.pointer (some ⟨gr, 0, none⟩)) ∧ z.cell? ⟨gr, 6, none⟩ = some (.pointer (some ⟨grl, 0, none⟩)) ∧ z.cell? ⟨gr, 7, none⟩ = some (.pointer (some ⟨grr, 0, none⟩)) ∧ z.cell? ⟨grl, 6, none⟩ = some (.pointer (some ⟨grll, 0, none⟩)) ∧ z.cell? ⟨grl, 7, none⟩ = some (.pointer (some ⟨grlr, 0, none⟩))) := fun z hz => by
    have qbx := (hz.block g lx).trans bx
    have qbr := (hz.block gr lr).trans br
    have qbrl := (hz.block grl lrl).trans brl
    exact ⟨(cell_of qbx 6 _ rfl).1, (cell_of qbx 7 _ rfl).1, (cell_of qbr 6 _ rfl).1, (cell_of qbr 7 _ rfl).1, (cell_of qbrl 6 _ rfl).1, (cell_of qbrl 7 _ rfl).1⟩
  have Hl : Hid (∀ z, Below w.heap.size w z → PTAt z B L gl) := fun z hz => hl.below hz
  have Hx : Hid (∀ z, Below w.heap.size w z → PTAt z B (PT.nd n0 p0 L (.nd n1 p1 (.nd n2 p2 C D) RR)) g) := fun z hz => hx.below hz
  have Hrll : Hid (∀ z, Below w.heap.size w z → PTAt z B C grll) := fun z hz => hrll.below hz
  have Hrlr : Hid (∀ z, Below w.heap.size w z → PTAt z B D grlr) := fun z hz => hrlr.below hz
  have Hrl : Hid (∀ z, Below w.heap.size w z → PTAt z B (PT.nd n2 p2 C D) grl) := fun z hz => hrl.below hz
  have Hr : Hid (∀ z, Below w.heap.size w z → PTAt z B (PT.nd n1 p1 (.nd n2 p2 C D) RR) gr) := fun z hz => hr.below hz
  have Hrr : Hid (∀ z, Below w.heap.size w z → PTAt z B RR grr) := fun z hz => hrr.below hz
  have HB : Hid (∀ z, Below w.heap.size w z → B ≤ z.heap.size) := fun z hz => Nat.le_trans hB hz.size
  have WX : Hid (∀ z, Below w.heap.size w z → Calls Try.prog 62 #[.pointer (some ⟨g, 0, none⟩)] z fun e w' => e = .returned (.int .i64 n0.wt) ∧ Below z.heap.size z w') := fun z hz => w_any B (some (PT.nd n0 p0 L (.nd n1 p1 (.nd n2 p2 C D) RR))) _ z ⟨g, rfl, hx.below hz⟩
  have Wl : Hid (∀ z, Below w.heap.size w z → Calls Try.prog 62 #[.pointer (some ⟨gl, 0, none⟩)] z fun e w' => e = .returned (.int .i64 L.n.wt) ∧ Below z.heap.size z w') := fun z hz => w_any B (some L) _ z ⟨gl, rfl, hl.below hz⟩
  have B0 : Hid (Below w.heap.size w w.drew) := (Below.refl _ _).drew
  obtain ⟨y0, y1, y2, y3, y4, y5⟩ := CC.out w (Below.refl _ _)
  have E : Hid (doP 8 (.nd n0 p0 L (.nd n1 p1 (.nd n2 p2 C D) RR)) = ((PT.nd n1 p1 (.nd n2 p2 C D) RR).mk (n0.wt) ((PT.nd n2 p2 C D).mk (0) ((PT.nd n0 p0 L (.nd n1 p1 (.nd n2 p2 C D) RR)).mk (1) (L.wset (L.n.wt - 1)) C) (D.wset (1))) RR)) := rfl
  rw [E.out]
  have e0 : IntKind.i64.wrap (L.n.wt - 1) = L.n.wt - 1 := wrapo _ (by omega) (by omega)
  clear hx hB E bx br brl hl hr hrl hrll hrlr hrr
  generalize L.n.wt = wl at *
  go_enter Try.func30, Try.ntmps30
  go_wp2_with fail
  go_region
  go_wp2_with fail
  refine (WX.out _ B0.out).mono ?_
  rintro e w0 ⟨rfl, hb⟩
  have C0 : Hid (Below w.heap.size w w0) := B0.out.trans (hb.mono B0.out.size)
  clear hb
  obtain ⟨z0, z1, z2, z3, z4, z5⟩ := CC.out w0 C0.out
  have mx := Nat.lt_of_lt_of_le lx C0.out.size
  have mr := Nat.lt_of_lt_of_le lr C0.out.size
  have mrl := Nat.lt_of_lt_of_le lrl C0.out.size
  have D0 : Hid (Below w.heap.size w w0.drew) := C0.out.drew
  have K0 : Hid True := trivial
  go_wp2_with fail
  go_region_held3 (fun w' => w'.cell? ⟨g, 6, none⟩ = some (.pointer (some ⟨gl, 0, none⟩)) ∧ w'.cell? ⟨g, 7, none⟩ = some (.pointer (some ⟨gr, 0, none⟩)) ∧ w'.cell? ⟨gr, 6, none⟩ = some (.pointer (some ⟨grl, 0, none⟩)) ∧ w'.cell? ⟨gr, 7, none⟩ = some (.pointer (some ⟨grr, 0, none⟩)) ∧ w'.cell? ⟨grl, 6, none⟩ = some (.pointer (some ⟨grll, 0, none⟩)) ∧ w'.cell? ⟨grl, 7, none⟩ = some (.pointer (some ⟨grlr, 0, none⟩)))
    (first | (with_reducible exact X6.out) | (with_reducible exact X5.out) | (with_reducible exact X4.out) | (with_reducible exact X3.out) | (with_reducible exact X2.out) | (with_reducible exact X1.out) | go_keep)
    (first | (go_at_call 62; have hq := K0; refine (Wl.out _ D0.out).mono ?_; rintro e w1 ⟨rfl, hb⟩; have B1 : Hid (Below w.heap.size w w1) := D0.out.trans (hb.mono D0.out.size); have X1 : Hid (w1.cell? ⟨g, 6, none⟩ = some (.pointer (some ⟨gl, 0, none⟩)) ∧ w1.cell? ⟨g, 7, none⟩ = some (.pointer (some ⟨gr, 0, none⟩)) ∧ w1.cell? ⟨gr, 6, none⟩ = some (.pointer (some ⟨grl, 0, none⟩)) ∧ w1.cell? ⟨gr, 7, none⟩ = some (.pointer (some ⟨grr, 0, none⟩)) ∧ w1.cell? ⟨grl, 6, none⟩ = some (.pointer (some ⟨grll, 0, none⟩)) ∧ w1.cell? ⟨grl, 7, none⟩ = some (.pointer (some ⟨grlr, 0, none⟩))) := CC.out _ B1.out; have K1 : Hid True := trivial; clear hb hq K0) | (go_at_call 31; have hq := K1; refine (rwith_any B _ _ _ _ (HB.out _ B1.out) (Hl.out _ B1.out)).mono ?_; rintro e w2 ⟨s1, rfl, hT, hb⟩; have B2 : Hid (Below w.heap.size w w2) := B1.out.trans (hb.mono B1.out.size); have X2 : Hid (w2.cell? ⟨g, 6, none⟩ = some (.pointer (some ⟨gl, 0, none⟩)) ∧ w2.cell? ⟨g, 7, none⟩ = some (.pointer (some ⟨gr, 0, none⟩)) ∧ w2.cell? ⟨gr, 6, none⟩ = some (.pointer (some ⟨grl, 0, none⟩)) ∧ w2.cell? ⟨gr, 7, none⟩ = some (.pointer (some ⟨grr, 0, none⟩)) ∧ w2.cell? ⟨grl, 6, none⟩ = some (.pointer (some ⟨grll, 0, none⟩)) ∧ w2.cell? ⟨grl, 7, none⟩ = some (.pointer (some ⟨grlr, 0, none⟩))) := CC.out _ B2.out; have R1_2 : Hid (PTAt w2 B (L.wset (wl - 1)) s1) := hT; clear hT; have K2 : Hid True := trivial; clear hb hq K1) | (go_at_call 65; have hq := K2; refine (node_any B _ _ _ _ _ _ _ _ (HB.out _ B2.out) (Hx.out _ B2.out) R1_2.out (Hrll.out _ B2.out)).mono ?_; rintro e w3 ⟨s2, rfl, hT, hb⟩; have B3 : Hid (Below w.heap.size w w3) := B2.out.trans (hb.mono B2.out.size); have X3 : Hid (w3.cell? ⟨g, 6, none⟩ = some (.pointer (some ⟨gl, 0, none⟩)) ∧ w3.cell? ⟨g, 7, none⟩ = some (.pointer (some ⟨gr, 0, none⟩)) ∧ w3.cell? ⟨gr, 6, none⟩ = some (.pointer (some ⟨grl, 0, none⟩)) ∧ w3.cell? ⟨gr, 7, none⟩ = some (.pointer (some ⟨grr, 0, none⟩)) ∧ w3.cell? ⟨grl, 6, none⟩ = some (.pointer (some ⟨grll, 0, none⟩)) ∧ w3.cell? ⟨grl, 7, none⟩ = some (.pointer (some ⟨grlr, 0, none⟩))) := CC.out _ B3.out; have R1_3 : Hid (PTAt w3 B (L.wset (wl - 1)) s1) := R1_2.out.below hb; have R2_3 : Hid (PTAt w3 B ((PT.nd n0 p0 L (.nd n1 p1 (.nd n2 p2 C D) RR)).mk (1) (L.wset (wl - 1)) C) s2) := hT; clear hT; have K3 : Hid True := trivial; clear hb hq K2) | (go_at_call 31; have hq := K3; refine (rwith_any B _ _ _ _ (HB.out _ B3.out) (Hrlr.out _ B3.out)).mono ?_; rintro e w4 ⟨s3, rfl, hT, hb⟩; have B4 : Hid (Below w.heap.size w w4) := B3.out.trans (hb.mono B3.out.size); have X4 : Hid (w4.cell? ⟨g, 6, none⟩ = some (.pointer (some ⟨gl, 0, none⟩)) ∧ w4.cell? ⟨g, 7, none⟩ = some (.pointer (some ⟨gr, 0, none⟩)) ∧ w4.cell? ⟨gr, 6, none⟩ = some (.pointer (some ⟨grl, 0, none⟩)) ∧ w4.cell? ⟨gr, 7, none⟩ = some (.pointer (some ⟨grr, 0, none⟩)) ∧ w4.cell? ⟨grl, 6, none⟩ = some (.pointer (some ⟨grll, 0, none⟩)) ∧ w4.cell? ⟨grl, 7, none⟩ = some (.pointer (some ⟨grlr, 0, none⟩))) := CC.out _ B4.out; have R1_4 : Hid (PTAt w4 B (L.wset (wl - 1)) s1) := R1_3.out.below hb; have R2_4 : Hid (PTAt w4 B ((PT.nd n0 p0 L (.nd n1 p1 (.nd n2 p2 C D) RR)).mk (1) (L.wset (wl - 1)) C) s2) := R2_3.out.below hb; have R3_4 : Hid (PTAt w4 B (D.wset (1)) s3) := hT; clear hT; have K4 : Hid True := trivial; clear hb hq K3) | (go_at_call 65; have hq := K4; refine (node_any B _ _ _ _ _ _ _ _ (HB.out _ B4.out) (Hrl.out _ B4.out) R2_4.out R3_4.out).mono ?_; rintro e w5 ⟨s4, rfl, hT, hb⟩; have B5 : Hid (Below w.heap.size w w5) := B4.out.trans (hb.mono B4.out.size); have X5 : Hid (w5.cell? ⟨g, 6, none⟩ = some (.pointer (some ⟨gl, 0, none⟩)) ∧ w5.cell? ⟨g, 7, none⟩ = some (.pointer (some ⟨gr, 0, none⟩)) ∧ w5.cell? ⟨gr, 6, none⟩ = some (.pointer (some ⟨grl, 0, none⟩)) ∧ w5.cell? ⟨gr, 7, none⟩ = some (.pointer (some ⟨grr, 0, none⟩)) ∧ w5.cell? ⟨grl, 6, none⟩ = some (.pointer (some ⟨grll, 0, none⟩)) ∧ w5.cell? ⟨grl, 7, none⟩ = some (.pointer (some ⟨grlr, 0, none⟩))) := CC.out _ B5.out; have R1_5 : Hid (PTAt w5 B (L.wset (wl - 1)) s1) := R1_4.out.below hb; have R2_5 : Hid (PTAt w5 B ((PT.nd n0 p0 L (.nd n1 p1 (.nd n2 p2 C D) RR)).mk (1) (L.wset (wl - 1)) C) s2) := R2_4.out.below hb; have R3_5 : Hid (PTAt w5 B (D.wset (1)) s3) := R3_4.out.below hb; have R4_5 : Hid (PTAt w5 B ((PT.nd n2 p2 C D).mk (0) ((PT.nd n0 p0 L (.nd n1 p1 (.nd n2 p2 C D) RR)).mk (1) (L.wset (wl - 1)) C) (D.wset (1))) s4) := hT; clear hT; have K5 : Hid True := trivial; clear hb hq K4) | (go_at_call 65; have hq := K5; refine (node_any B _ _ _ _ _ _ _ _ (HB.out _ B5.out) (Hr.out _ B5.out) R4_5.out (Hrr.out _ B5.out)).mono ?_; rintro e w6 ⟨s5, rfl, hT, hb⟩; have B6 : Hid (Below w.heap.size w w6) := B5.out.trans (hb.mono B5.out.size); have X6 : Hid (w6.cell? ⟨g, 6, none⟩ = some (.pointer (some ⟨gl, 0, none⟩)) ∧ w6.cell? ⟨g, 7, none⟩ = some (.pointer (some ⟨gr, 0, none⟩)) ∧ w6.cell? ⟨gr, 6, none⟩ = some (.pointer (some ⟨grl, 0, none⟩)) ∧ w6.cell? ⟨gr, 7, none⟩ = some (.pointer (some ⟨grr, 0, none⟩)) ∧ w6.cell? ⟨grl, 6, none⟩ = some (.pointer (some ⟨grll, 0, none⟩)) ∧ w6.cell? ⟨grl, 7, none⟩ = some (.pointer (some ⟨grlr, 0, none⟩))) := CC.out _ B6.out; have R1_6 : Hid (PTAt w6 B (L.wset (wl - 1)) s1) := R1_5.out.below hb; have R2_6 : Hid (PTAt w6 B ((PT.nd n0 p0 L (.nd n1 p1 (.nd n2 p2 C D) RR)).mk (1) (L.wset (wl - 1)) C) s2) := R2_5.out.below hb; have R3_6 : Hid (PTAt w6 B (D.wset (1)) s3) := R3_5.out.below hb; have R4_6 : Hid (PTAt w6 B ((PT.nd n2 p2 C D).mk (0) ((PT.nd n0 p0 L (.nd n1 p1 (.nd n2 p2 C D) RR)).mk (1) (L.wset (wl - 1)) C) (D.wset (1))) s4) := R4_5.out.below hb; have R5_6 : Hid (PTAt w6 B ((PT.nd n1 p1 (.nd n2 p2 C D) RR).mk (n0.wt) ((PT.nd n2 p2 C D).mk (0) ((PT.nd n0 p0 L (.nd n1 p1 (.nd n2 p2 C D) RR)).mk (1) (L.wset (wl - 1)) C) (D.wset (1))) RR) s5) := hT; clear hT; have K6 : Hid True := trivial; clear hb hq K5))
  all_goals go_wp2_with fail
  all_goals go_ret
  all_goals exact ⟨_, rfl, R5_6.out, B6.out⟩
set_option maxRecDepth 100000 in
set_option maxHeartbeats 4000000 in
theorem rdo9 (B : Nat) (n0 n1 : NdD) (p0 p1 : Int) (L RL RR : PT) (g : Nat) (w : World) (hB : B ≤ w.heap.size) (_qx : 0 ≤ n0.wt ∧ n0.wt ≤ 1000000) (ql : 0 ≤ L.n.wt ∧ L.n.wt ≤ 1000000) (h : PTAt w B (.nd n0 p0 L (.nd n1 p1 RL RR)) g) :
    Calls Try.prog 30 #[.pointer (some ⟨g, 0, none⟩), .int .i64 9] w fun e w' => ∃ g' : Nat, e = .returned (.pointer (some ⟨g', 0, none⟩)) ∧ PTAt w' B (doP 9 (.nd n0 p0 L (.nd n1 p1 RL RR))) g' ∧ Below w.heap.size w w' := by
  have hx := h
  obtain ⟨gl, gr, -, bx, hl, hr⟩ := h
  have kr := hr
  obtain ⟨grl, grr, -, br, hrl, hrr⟩ := kr
  have lx := (Array.getElem?_eq_some_iff.1 bx).1
  have lr := (Array.getElem?_eq_some_iff.1 br).1
  have CC : Hid (∀ z, Below w.heap.size w z → z.cell? ⟨g, 6, none⟩ = some (.pointer (some ⟨gl, 0, none⟩)) ∧ z.cell? ⟨g, 7, none⟩ = some (.pointer (some ⟨gr, 0, none⟩)) ∧ z.cell? ⟨gr, 6, none⟩ = some (.pointer (some ⟨grl, 0, none⟩)) ∧ z.cell? ⟨gr, 7, none⟩ = some (.pointer (some ⟨grr, 0, none⟩))) := fun z hz => by
    have qbx := (hz.block g lx).trans bx
    have qbr := (hz.block gr lr).trans br
    exact ⟨(cell_of qbx 6 _ rfl).1, (cell_of qbx 7 _ rfl).1, (cell_of qbr 6 _ rfl).1, (cell_of qbr 7 _ rfl).1⟩
  have Hl : Hid (∀ z, Below w.heap.size w z → PTAt z B L gl) := fun z hz => hl.below hz
  have Hx : Hid (∀ z, Below w.heap.size w z → PTAt z B (PT.nd n0 p0 L (.nd n1 p1 RL RR)) g) := fun z hz => hx.below hz
  have Hrl : Hid (∀ z, Below w.heap.size w z → PTAt z B RL grl) := fun z hz => hrl.below hz
  have Hrr : Hid (∀ z, Below w.heap.size w z → PTAt z B RR grr) := fun z hz => hrr.below hz
  have Hr : Hid (∀ z, Below w.heap.size w z → PTAt z B (PT.nd n1 p1 RL RR) gr) := fun z hz => hr.below hz
  have HB : Hid (∀ z, Below w.heap.size w z → B ≤ z.heap.size) := fun z hz => Nat.le_trans hB hz.size
  have WX : Hid (∀ z, Below w.heap.size w z → Calls Try.prog 62 #[.pointer (some ⟨g, 0, none⟩)] z fun e w' => e = .returned (.int .i64 n0.wt) ∧ Below z.heap.size z w') := fun z hz => w_any B (some (PT.nd n0 p0 L (.nd n1 p1 RL RR))) _ z ⟨g, rfl, hx.below hz⟩
  have Wl : Hid (∀ z, Below w.heap.size w z → Calls Try.prog 62 #[.pointer (some ⟨gl, 0, none⟩)] z fun e w' => e = .returned (.int .i64 L.n.wt) ∧ Below z.heap.size z w') := fun z hz => w_any B (some L) _ z ⟨gl, rfl, hl.below hz⟩
  have B0 : Hid (Below w.heap.size w w.drew) := (Below.refl _ _).drew
  obtain ⟨y0, y1, y2, y3⟩ := CC.out w (Below.refl _ _)
  have E : Hid (doP 9 (.nd n0 p0 L (.nd n1 p1 RL RR)) = ((PT.nd n1 p1 RL RR).mk (n0.wt) ((PT.nd n0 p0 L (.nd n1 p1 RL RR)).mk (1) (L.wset (L.n.wt - 1)) RL) (RR.wset (1)))) := rfl
  rw [E.out]
  have e0 : IntKind.i64.wrap (L.n.wt - 1) = L.n.wt - 1 := wrapo _ (by omega) (by omega)
  clear hx hB E bx br hl hr hrl hrr
  generalize L.n.wt = wl at *
  go_enter Try.func30, Try.ntmps30
  go_wp2_with fail
  go_region
  go_wp2_with fail
  refine (WX.out _ B0.out).mono ?_
  rintro e w0 ⟨rfl, hb⟩
  have C0 : Hid (Below w.heap.size w w0) := B0.out.trans (hb.mono B0.out.size)
  clear hb
  obtain ⟨z0, z1, z2, z3⟩ := CC.out w0 C0.out
  have mx := Nat.lt_of_lt_of_le lx C0.out.size
  have mr := Nat.lt_of_lt_of_le lr C0.out.size
  have D0 : Hid (Below w.heap.size w w0.drew) := C0.out.drew
  have K0 : Hid True := trivial
  go_wp2_with fail
  go_region_held3 (fun w' => w'.cell? ⟨g, 6, none⟩ = some (.pointer (some ⟨gl, 0, none⟩)) ∧ w'.cell? ⟨g, 7, none⟩ = some (.pointer (some ⟨gr, 0, none⟩)) ∧ w'.cell? ⟨gr, 6, none⟩ = some (.pointer (some ⟨grl, 0, none⟩)) ∧ w'.cell? ⟨gr, 7, none⟩ = some (.pointer (some ⟨grr, 0, none⟩)))
    (first | (with_reducible exact X5.out) | (with_reducible exact X4.out) | (with_reducible exact X3.out) | (with_reducible exact X2.out) | (with_reducible exact X1.out) | go_keep)
    (first | (go_at_call 62; have hq := K0; refine (Wl.out _ D0.out).mono ?_; rintro e w1 ⟨rfl, hb⟩; have B1 : Hid (Below w.heap.size w w1) := D0.out.trans (hb.mono D0.out.size); have X1 : Hid (w1.cell? ⟨g, 6, none⟩ = some (.pointer (some ⟨gl, 0, none⟩)) ∧ w1.cell? ⟨g, 7, none⟩ = some (.pointer (some ⟨gr, 0, none⟩)) ∧ w1.cell? ⟨gr, 6, none⟩ = some (.pointer (some ⟨grl, 0, none⟩)) ∧ w1.cell? ⟨gr, 7, none⟩ = some (.pointer (some ⟨grr, 0, none⟩))) := CC.out _ B1.out; have K1 : Hid True := trivial; clear hb hq K0) | (go_at_call 31; have hq := K1; refine (rwith_any B _ _ _ _ (HB.out _ B1.out) (Hl.out _ B1.out)).mono ?_; rintro e w2 ⟨s1, rfl, hT, hb⟩; have B2 : Hid (Below w.heap.size w w2) := B1.out.trans (hb.mono B1.out.size); have X2 : Hid (w2.cell? ⟨g, 6, none⟩ = some (.pointer (some ⟨gl, 0, none⟩)) ∧ w2.cell? ⟨g, 7, none⟩ = some (.pointer (some ⟨gr, 0, none⟩)) ∧ w2.cell? ⟨gr, 6, none⟩ = some (.pointer (some ⟨grl, 0, none⟩)) ∧ w2.cell? ⟨gr, 7, none⟩ = some (.pointer (some ⟨grr, 0, none⟩))) := CC.out _ B2.out; have R1_2 : Hid (PTAt w2 B (L.wset (wl - 1)) s1) := hT; clear hT; have K2 : Hid True := trivial; clear hb hq K1) | (go_at_call 65; have hq := K2; refine (node_any B _ _ _ _ _ _ _ _ (HB.out _ B2.out) (Hx.out _ B2.out) R1_2.out (Hrl.out _ B2.out)).mono ?_; rintro e w3 ⟨s2, rfl, hT, hb⟩; have B3 : Hid (Below w.heap.size w w3) := B2.out.trans (hb.mono B2.out.size); have X3 : Hid (w3.cell? ⟨g, 6, none⟩ = some (.pointer (some ⟨gl, 0, none⟩)) ∧ w3.cell? ⟨g, 7, none⟩ = some (.pointer (some ⟨gr, 0, none⟩)) ∧ w3.cell? ⟨gr, 6, none⟩ = some (.pointer (some ⟨grl, 0, none⟩)) ∧ w3.cell? ⟨gr, 7, none⟩ = some (.pointer (some ⟨grr, 0, none⟩))) := CC.out _ B3.out; have R1_3 : Hid (PTAt w3 B (L.wset (wl - 1)) s1) := R1_2.out.below hb; have R2_3 : Hid (PTAt w3 B ((PT.nd n0 p0 L (.nd n1 p1 RL RR)).mk (1) (L.wset (wl - 1)) RL) s2) := hT; clear hT; have K3 : Hid True := trivial; clear hb hq K2) | (go_at_call 31; have hq := K3; refine (rwith_any B _ _ _ _ (HB.out _ B3.out) (Hrr.out _ B3.out)).mono ?_; rintro e w4 ⟨s3, rfl, hT, hb⟩; have B4 : Hid (Below w.heap.size w w4) := B3.out.trans (hb.mono B3.out.size); have X4 : Hid (w4.cell? ⟨g, 6, none⟩ = some (.pointer (some ⟨gl, 0, none⟩)) ∧ w4.cell? ⟨g, 7, none⟩ = some (.pointer (some ⟨gr, 0, none⟩)) ∧ w4.cell? ⟨gr, 6, none⟩ = some (.pointer (some ⟨grl, 0, none⟩)) ∧ w4.cell? ⟨gr, 7, none⟩ = some (.pointer (some ⟨grr, 0, none⟩))) := CC.out _ B4.out; have R1_4 : Hid (PTAt w4 B (L.wset (wl - 1)) s1) := R1_3.out.below hb; have R2_4 : Hid (PTAt w4 B ((PT.nd n0 p0 L (.nd n1 p1 RL RR)).mk (1) (L.wset (wl - 1)) RL) s2) := R2_3.out.below hb; have R3_4 : Hid (PTAt w4 B (RR.wset (1)) s3) := hT; clear hT; have K4 : Hid True := trivial; clear hb hq K3) | (go_at_call 65; have hq := K4; refine (node_any B _ _ _ _ _ _ _ _ (HB.out _ B4.out) (Hr.out _ B4.out) R2_4.out R3_4.out).mono ?_; rintro e w5 ⟨s4, rfl, hT, hb⟩; have B5 : Hid (Below w.heap.size w w5) := B4.out.trans (hb.mono B4.out.size); have X5 : Hid (w5.cell? ⟨g, 6, none⟩ = some (.pointer (some ⟨gl, 0, none⟩)) ∧ w5.cell? ⟨g, 7, none⟩ = some (.pointer (some ⟨gr, 0, none⟩)) ∧ w5.cell? ⟨gr, 6, none⟩ = some (.pointer (some ⟨grl, 0, none⟩)) ∧ w5.cell? ⟨gr, 7, none⟩ = some (.pointer (some ⟨grr, 0, none⟩))) := CC.out _ B5.out; have R1_5 : Hid (PTAt w5 B (L.wset (wl - 1)) s1) := R1_4.out.below hb; have R2_5 : Hid (PTAt w5 B ((PT.nd n0 p0 L (.nd n1 p1 RL RR)).mk (1) (L.wset (wl - 1)) RL) s2) := R2_4.out.below hb; have R3_5 : Hid (PTAt w5 B (RR.wset (1)) s3) := R3_4.out.below hb; have R4_5 : Hid (PTAt w5 B ((PT.nd n1 p1 RL RR).mk (n0.wt) ((PT.nd n0 p0 L (.nd n1 p1 RL RR)).mk (1) (L.wset (wl - 1)) RL) (RR.wset (1))) s4) := hT; clear hT; have K5 : Hid True := trivial; clear hb hq K4))
  all_goals go_wp2_with fail
  all_goals go_ret
  all_goals exact ⟨_, rfl, R4_5.out, B5.out⟩
set_option maxRecDepth 100000 in
set_option maxHeartbeats 4000000 in
theorem rdo10 (B : Nat) (n0 n1 n2 : NdD) (p0 p1 p2 : Int) (L C D RR : PT) (g : Nat) (w : World) (hB : B ≤ w.heap.size) (_qx : 0 ≤ n0.wt ∧ n0.wt ≤ 1000000) (ql : 0 ≤ L.n.wt ∧ L.n.wt ≤ 1000000) (h : PTAt w B (.nd n0 p0 L (.nd n1 p1 (.nd n2 p2 C D) RR)) g) :
    Calls Try.prog 30 #[.pointer (some ⟨g, 0, none⟩), .int .i64 10] w fun e w' => ∃ g' : Nat, e = .returned (.pointer (some ⟨g', 0, none⟩)) ∧ PTAt w' B (doP 10 (.nd n0 p0 L (.nd n1 p1 (.nd n2 p2 C D) RR))) g' ∧ Below w.heap.size w w' := by
  have hx := h
  obtain ⟨gl, gr, -, bx, hl, hr⟩ := h
  have kr := hr
  obtain ⟨grl, grr, -, br, hrl, hrr⟩ := kr
  have krl := hrl
  obtain ⟨grll, grlr, -, brl, hrll, hrlr⟩ := krl
  have lx := (Array.getElem?_eq_some_iff.1 bx).1
  have lr := (Array.getElem?_eq_some_iff.1 br).1
  have lrl := (Array.getElem?_eq_some_iff.1 brl).1
  have CC : Hid (∀ z, Below w.heap.size w z → z.cell? ⟨g, 6, none⟩ = some (.pointer (some ⟨gl, 0, none⟩)) ∧ z.cell? ⟨g, 7, none⟩ = some (.pointer (some ⟨gr, 0, none⟩)) ∧ z.cell? ⟨gr, 6, none⟩ = some (.pointer (some ⟨grl, 0, none⟩)) ∧ z.cell? ⟨gr, 7, none⟩ = some (.pointer (some ⟨grr, 0, none⟩)) ∧ z.cell? ⟨grl, 6, none⟩ = some (.pointer (some ⟨grll, 0, none⟩)) ∧ z.cell? ⟨grl, 7, none⟩ = some (.pointer (some ⟨grlr, 0, none⟩))) := fun z hz => by
    have qbx := (hz.block g lx).trans bx
    have qbr := (hz.block gr lr).trans br
    have qbrl := (hz.block grl lrl).trans brl
    exact ⟨(cell_of qbx 6 _ rfl).1, (cell_of qbx 7 _ rfl).1, (cell_of qbr 6 _ rfl).1, (cell_of qbr 7 _ rfl).1, (cell_of qbrl 6 _ rfl).1, (cell_of qbrl 7 _ rfl).1⟩
  have Hl : Hid (∀ z, Below w.heap.size w z → PTAt z B L gl) := fun z hz => hl.below hz
  have Hx : Hid (∀ z, Below w.heap.size w z → PTAt z B (PT.nd n0 p0 L (.nd n1 p1 (.nd n2 p2 C D) RR)) g) := fun z hz => hx.below hz
  have Hrll : Hid (∀ z, Below w.heap.size w z → PTAt z B C grll) := fun z hz => hrll.below hz
  have Hr : Hid (∀ z, Below w.heap.size w z → PTAt z B (PT.nd n1 p1 (.nd n2 p2 C D) RR) gr) := fun z hz => hr.below hz
  have Hrlr : Hid (∀ z, Below w.heap.size w z → PTAt z B D grlr) := fun z hz => hrlr.below hz
  have Hrr : Hid (∀ z, Below w.heap.size w z → PTAt z B RR grr) := fun z hz => hrr.below hz
  have Hrl : Hid (∀ z, Below w.heap.size w z → PTAt z B (PT.nd n2 p2 C D) grl) := fun z hz => hrl.below hz
  have HB : Hid (∀ z, Below w.heap.size w z → B ≤ z.heap.size) := fun z hz => Nat.le_trans hB hz.size
  have WX : Hid (∀ z, Below w.heap.size w z → Calls Try.prog 62 #[.pointer (some ⟨g, 0, none⟩)] z fun e w' => e = .returned (.int .i64 n0.wt) ∧ Below z.heap.size z w') := fun z hz => w_any B (some (PT.nd n0 p0 L (.nd n1 p1 (.nd n2 p2 C D) RR))) _ z ⟨g, rfl, hx.below hz⟩
  have Wl : Hid (∀ z, Below w.heap.size w z → Calls Try.prog 62 #[.pointer (some ⟨gl, 0, none⟩)] z fun e w' => e = .returned (.int .i64 L.n.wt) ∧ Below z.heap.size z w') := fun z hz => w_any B (some L) _ z ⟨gl, rfl, hl.below hz⟩
  have B0 : Hid (Below w.heap.size w w.drew) := (Below.refl _ _).drew
  obtain ⟨y0, y1, y2, y3, y4, y5⟩ := CC.out w (Below.refl _ _)
  have E : Hid (doP 10 (.nd n0 p0 L (.nd n1 p1 (.nd n2 p2 C D) RR)) = ((PT.nd n2 p2 C D).mk (n0.wt) ((PT.nd n0 p0 L (.nd n1 p1 (.nd n2 p2 C D) RR)).mk (1) (L.wset (L.n.wt - 1)) C) ((PT.nd n1 p1 (.nd n2 p2 C D) RR).mk (1) D RR))) := rfl
  rw [E.out]
  have e0 : IntKind.i64.wrap (L.n.wt - 1) = L.n.wt - 1 := wrapo _ (by omega) (by omega)
  clear hx hB E bx br brl hl hr hrl hrll hrlr hrr
  generalize L.n.wt = wl at *
  go_enter Try.func30, Try.ntmps30
  go_wp2_with fail
  go_region
  go_wp2_with fail
  refine (WX.out _ B0.out).mono ?_
  rintro e w0 ⟨rfl, hb⟩
  have C0 : Hid (Below w.heap.size w w0) := B0.out.trans (hb.mono B0.out.size)
  clear hb
  obtain ⟨z0, z1, z2, z3, z4, z5⟩ := CC.out w0 C0.out
  have mx := Nat.lt_of_lt_of_le lx C0.out.size
  have mr := Nat.lt_of_lt_of_le lr C0.out.size
  have mrl := Nat.lt_of_lt_of_le lrl C0.out.size
  have D0 : Hid (Below w.heap.size w w0.drew) := C0.out.drew
  have K0 : Hid True := trivial
  go_wp2_with fail
  go_region_held3 (fun w' => w'.cell? ⟨g, 6, none⟩ = some (.pointer (some ⟨gl, 0, none⟩)) ∧ w'.cell? ⟨g, 7, none⟩ = some (.pointer (some ⟨gr, 0, none⟩)) ∧ w'.cell? ⟨gr, 6, none⟩ = some (.pointer (some ⟨grl, 0, none⟩)) ∧ w'.cell? ⟨gr, 7, none⟩ = some (.pointer (some ⟨grr, 0, none⟩)) ∧ w'.cell? ⟨grl, 6, none⟩ = some (.pointer (some ⟨grll, 0, none⟩)) ∧ w'.cell? ⟨grl, 7, none⟩ = some (.pointer (some ⟨grlr, 0, none⟩)))
    (first | (with_reducible exact X5.out) | (with_reducible exact X4.out) | (with_reducible exact X3.out) | (with_reducible exact X2.out) | (with_reducible exact X1.out) | go_keep)
    (first | (go_at_call 62; have hq := K0; refine (Wl.out _ D0.out).mono ?_; rintro e w1 ⟨rfl, hb⟩; have B1 : Hid (Below w.heap.size w w1) := D0.out.trans (hb.mono D0.out.size); have X1 : Hid (w1.cell? ⟨g, 6, none⟩ = some (.pointer (some ⟨gl, 0, none⟩)) ∧ w1.cell? ⟨g, 7, none⟩ = some (.pointer (some ⟨gr, 0, none⟩)) ∧ w1.cell? ⟨gr, 6, none⟩ = some (.pointer (some ⟨grl, 0, none⟩)) ∧ w1.cell? ⟨gr, 7, none⟩ = some (.pointer (some ⟨grr, 0, none⟩)) ∧ w1.cell? ⟨grl, 6, none⟩ = some (.pointer (some ⟨grll, 0, none⟩)) ∧ w1.cell? ⟨grl, 7, none⟩ = some (.pointer (some ⟨grlr, 0, none⟩))) := CC.out _ B1.out; have K1 : Hid True := trivial; clear hb hq K0) | (go_at_call 31; have hq := K1; refine (rwith_any B _ _ _ _ (HB.out _ B1.out) (Hl.out _ B1.out)).mono ?_; rintro e w2 ⟨s1, rfl, hT, hb⟩; have B2 : Hid (Below w.heap.size w w2) := B1.out.trans (hb.mono B1.out.size); have X2 : Hid (w2.cell? ⟨g, 6, none⟩ = some (.pointer (some ⟨gl, 0, none⟩)) ∧ w2.cell? ⟨g, 7, none⟩ = some (.pointer (some ⟨gr, 0, none⟩)) ∧ w2.cell? ⟨gr, 6, none⟩ = some (.pointer (some ⟨grl, 0, none⟩)) ∧ w2.cell? ⟨gr, 7, none⟩ = some (.pointer (some ⟨grr, 0, none⟩)) ∧ w2.cell? ⟨grl, 6, none⟩ = some (.pointer (some ⟨grll, 0, none⟩)) ∧ w2.cell? ⟨grl, 7, none⟩ = some (.pointer (some ⟨grlr, 0, none⟩))) := CC.out _ B2.out; have R1_2 : Hid (PTAt w2 B (L.wset (wl - 1)) s1) := hT; clear hT; have K2 : Hid True := trivial; clear hb hq K1) | (go_at_call 65; have hq := K2; refine (node_any B _ _ _ _ _ _ _ _ (HB.out _ B2.out) (Hx.out _ B2.out) R1_2.out (Hrll.out _ B2.out)).mono ?_; rintro e w3 ⟨s2, rfl, hT, hb⟩; have B3 : Hid (Below w.heap.size w w3) := B2.out.trans (hb.mono B2.out.size); have X3 : Hid (w3.cell? ⟨g, 6, none⟩ = some (.pointer (some ⟨gl, 0, none⟩)) ∧ w3.cell? ⟨g, 7, none⟩ = some (.pointer (some ⟨gr, 0, none⟩)) ∧ w3.cell? ⟨gr, 6, none⟩ = some (.pointer (some ⟨grl, 0, none⟩)) ∧ w3.cell? ⟨gr, 7, none⟩ = some (.pointer (some ⟨grr, 0, none⟩)) ∧ w3.cell? ⟨grl, 6, none⟩ = some (.pointer (some ⟨grll, 0, none⟩)) ∧ w3.cell? ⟨grl, 7, none⟩ = some (.pointer (some ⟨grlr, 0, none⟩))) := CC.out _ B3.out; have R1_3 : Hid (PTAt w3 B (L.wset (wl - 1)) s1) := R1_2.out.below hb; have R2_3 : Hid (PTAt w3 B ((PT.nd n0 p0 L (.nd n1 p1 (.nd n2 p2 C D) RR)).mk (1) (L.wset (wl - 1)) C) s2) := hT; clear hT; have K3 : Hid True := trivial; clear hb hq K2) | (go_at_call 65; have hq := K3; refine (node_any B _ _ _ _ _ _ _ _ (HB.out _ B3.out) (Hr.out _ B3.out) (Hrlr.out _ B3.out) (Hrr.out _ B3.out)).mono ?_; rintro e w4 ⟨s3, rfl, hT, hb⟩; have B4 : Hid (Below w.heap.size w w4) := B3.out.trans (hb.mono B3.out.size); have X4 : Hid (w4.cell? ⟨g, 6, none⟩ = some (.pointer (some ⟨gl, 0, none⟩)) ∧ w4.cell? ⟨g, 7, none⟩ = some (.pointer (some ⟨gr, 0, none⟩)) ∧ w4.cell? ⟨gr, 6, none⟩ = some (.pointer (some ⟨grl, 0, none⟩)) ∧ w4.cell? ⟨gr, 7, none⟩ = some (.pointer (some ⟨grr, 0, none⟩)) ∧ w4.cell? ⟨grl, 6, none⟩ = some (.pointer (some ⟨grll, 0, none⟩)) ∧ w4.cell? ⟨grl, 7, none⟩ = some (.pointer (some ⟨grlr, 0, none⟩))) := CC.out _ B4.out; have R1_4 : Hid (PTAt w4 B (L.wset (wl - 1)) s1) := R1_3.out.below hb; have R2_4 : Hid (PTAt w4 B ((PT.nd n0 p0 L (.nd n1 p1 (.nd n2 p2 C D) RR)).mk (1) (L.wset (wl - 1)) C) s2) := R2_3.out.below hb; have R3_4 : Hid (PTAt w4 B ((PT.nd n1 p1 (.nd n2 p2 C D) RR).mk (1) D RR) s3) := hT; clear hT; have K4 : Hid True := trivial; clear hb hq K3) | (go_at_call 65; have hq := K4; refine (node_any B _ _ _ _ _ _ _ _ (HB.out _ B4.out) (Hrl.out _ B4.out) R2_4.out R3_4.out).mono ?_; rintro e w5 ⟨s4, rfl, hT, hb⟩; have B5 : Hid (Below w.heap.size w w5) := B4.out.trans (hb.mono B4.out.size); have X5 : Hid (w5.cell? ⟨g, 6, none⟩ = some (.pointer (some ⟨gl, 0, none⟩)) ∧ w5.cell? ⟨g, 7, none⟩ = some (.pointer (some ⟨gr, 0, none⟩)) ∧ w5.cell? ⟨gr, 6, none⟩ = some (.pointer (some ⟨grl, 0, none⟩)) ∧ w5.cell? ⟨gr, 7, none⟩ = some (.pointer (some ⟨grr, 0, none⟩)) ∧ w5.cell? ⟨grl, 6, none⟩ = some (.pointer (some ⟨grll, 0, none⟩)) ∧ w5.cell? ⟨grl, 7, none⟩ = some (.pointer (some ⟨grlr, 0, none⟩))) := CC.out _ B5.out; have R1_5 : Hid (PTAt w5 B (L.wset (wl - 1)) s1) := R1_4.out.below hb; have R2_5 : Hid (PTAt w5 B ((PT.nd n0 p0 L (.nd n1 p1 (.nd n2 p2 C D) RR)).mk (1) (L.wset (wl - 1)) C) s2) := R2_4.out.below hb; have R3_5 : Hid (PTAt w5 B ((PT.nd n1 p1 (.nd n2 p2 C D) RR).mk (1) D RR) s3) := R3_4.out.below hb; have R4_5 : Hid (PTAt w5 B ((PT.nd n2 p2 C D).mk (n0.wt) ((PT.nd n0 p0 L (.nd n1 p1 (.nd n2 p2 C D) RR)).mk (1) (L.wset (wl - 1)) C) ((PT.nd n1 p1 (.nd n2 p2 C D) RR).mk (1) D RR)) s4) := hT; clear hT; have K5 : Hid True := trivial; clear hb hq K4))
  all_goals go_wp2_with fail
  all_goals go_ret
  all_goals exact ⟨_, rfl, R4_5.out, B5.out⟩
end Go.Proofs.Ythlhbajaogonnaa

namespace Go.Proofs.Ythlhbajaogonnaa

open Go.RowKit

attribute [local go_sem ↓] Go.wp_at_zero Go.wp_at_succ

set_option maxRecDepth 100000 in
theorem great_nil (w : World) : Calls Try.prog 32 #[.pointer none] w fun e w' => e = .returned (.bool false) ∧ Below w.heap.size w w' := by
  go_enter Try.func32, Try.ntmps32
  go_wp2_with fail
  go_ret
  exact ⟨rfl, Below.refl _ _⟩
set_option maxRecDepth 100000 in
set_option maxHeartbeats 4000000 in
theorem great_any (B : Nat) (P : PT) : ∀ (g : Nat) (w : World), PTAt w B P g →
    Calls Try.prog 32 #[.pointer (some ⟨g, 0, none⟩)] w fun e w' => e = .returned (.bool P.bt.gr) ∧ Below w.heap.size w w' := by
  induction P with
  | lf n pl =>
    intro g w h
    have c2 : w.cell? ⟨g, 2, none⟩ = some (.int .i64 n.wt) := (cell_of h.2 2 _ rfl).1
    have CC : Hid (∀ z, Below w.heap.size w z → z.cell? ⟨g, 7, none⟩ = some (.pointer none)) := fun z hz => (cell_of ((hz.block g (Array.getElem?_eq_some_iff.1 h.2).1).trans h.2) 7 _ rfl).1
    have c6 : w.cell? ⟨g, 6, none⟩ = some (.pointer none) := (cell_of h.2 6 _ rfl).1
    have hl := (Array.getElem?_eq_some_iff.1 h.2).1
    have NI : Hid (∀ W, Calls Try.prog 32 #[.pointer none] W fun e w' => e = .returned (.bool false) ∧ Below W.heap.size W w') := fun W => great_nil W
    have F : Hid ((PT.lf n pl).bt.gr = decide (n.wt > 1000000)) := rfl
    rw [F.out]
    clear h F
    generalize n.wt = q at *
    cases e : decide (q > 1000000)
    · go_enter Try.func32, Try.ntmps32
      go_wp2_with fail
      refine (NI.out _).mono ?_
      rintro e w1 ⟨rfl, hb⟩
      have B1 : Hid (Below w.heap.size w w1) := hb
      have d7 := CC.out _ hb
      have hl1 := Nat.lt_of_lt_of_le hl hb.size
      clear hb
      go_wp2_with fail
      refine (NI.out _).mono ?_
      rintro e w2 ⟨rfl, hb⟩
      have B2 : Hid (Below w.heap.size w w2) := B1.out.trans (hb.mono B1.out.size)
      clear hb
      go_wp2_with fail
      go_ret
      exact ⟨rfl, B2.out⟩
    · go_enter Try.func32, Try.ntmps32
      go_wp2_with fail
      go_ret
      exact ⟨rfl, Below.refl _ _⟩
  | nd n pl l r i1 i2 =>
    intro g w h
    obtain ⟨gl, gr, -, hh, hL, hR⟩ := h
    have c2 : w.cell? ⟨g, 2, none⟩ = some (.int .i64 n.wt) := (cell_of hh 2 _ rfl).1
    have CC : Hid (∀ z, Below w.heap.size w z → z.cell? ⟨g, 7, none⟩ = some (.pointer (some ⟨gr, 0, none⟩))) := fun z hz => (cell_of ((hz.block g (Array.getElem?_eq_some_iff.1 hh).1).trans hh) 7 _ rfl).1
    have c6 : w.cell? ⟨g, 6, none⟩ = some (.pointer (some ⟨gl, 0, none⟩)) := (cell_of hh 6 _ rfl).1
    have hl := (Array.getElem?_eq_some_iff.1 hh).1
    have IL : Hid (Calls Try.prog 32 #[.pointer (some ⟨gl, 0, none⟩)] w fun e w' => e = .returned (.bool l.bt.gr) ∧ Below w.heap.size w w') := i1 gl w hL
    have IR : Hid (∀ z, Below w.heap.size w z → Calls Try.prog 32 #[.pointer (some ⟨gr, 0, none⟩)] z fun e w' => e = .returned (.bool r.bt.gr) ∧ Below z.heap.size z w') := fun z hz => i2 gr z (hR.below hz)
    have F : Hid ((PT.nd n pl l r).bt.gr = (decide (n.wt > 1000000) || (l.bt.gr || r.bt.gr))) := rfl
    rw [F.out]
    clear hh hL hR i1 i2 F
    generalize n.wt = q at *
    generalize l.bt.gr = bl at *
    generalize r.bt.gr = br at *
    cases e : decide (q > 1000000)
    · cases bl
      · go_enter Try.func32, Try.ntmps32
        go_wp2_with fail
        refine IL.out.mono ?_
        rintro e w1 ⟨rfl, hb⟩
        have B1 : Hid (Below w.heap.size w w1) := hb
        have d7 := CC.out _ hb
        have hl1 := Nat.lt_of_lt_of_le hl hb.size
        clear hb
        go_wp2_with fail
        refine (IR.out _ B1.out).mono ?_
        rintro e w2 ⟨rfl, hb⟩
        have B2 : Hid (Below w.heap.size w w2) := B1.out.trans (hb.mono B1.out.size)
        clear hb
        go_wp2_with fail
        go_ret
        exact ⟨rfl, B2.out⟩
      · go_enter Try.func32, Try.ntmps32
        go_wp2_with fail
        refine IL.out.mono ?_
        rintro e w1 ⟨rfl, hb⟩
        have B1 : Hid (Below w.heap.size w w1) := hb
        clear hb
        go_wp2_with fail
        go_ret
        exact ⟨rfl, B1.out⟩
    · go_enter Try.func32, Try.ntmps32
      go_wp2_with fail
      go_ret
      exact ⟨rfl, Below.refl _ _⟩
set_option maxRecDepth 100000 in
theorem instead_nil (a : Int) (v : Value) (w : World) : Calls Try.prog 33 #[.pointer none, .int .i64 a, v] w fun e w' => e = .returned (.pointer none) ∧ Below w.heap.size w w' := by
  go_enter Try.func33, Try.ntmps33
  go_wp2_with fail
  go_ret
  exact ⟨rfl, Below.refl _ _⟩
set_option maxRecDepth 100000 in
set_option maxHeartbeats 4000000 in
theorem instead_any (a : Int) (B : Nat) (Y : PT) (gy : Nat) (P : PT) : ∀ (g : Nat) (w : World), B ≤ w.heap.size → PTAt w B P g → PTAt w B Y gy →
    Calls Try.prog 33 #[.pointer (some ⟨g, 0, none⟩), .int .i64 a, .pointer (some ⟨gy, 0, none⟩)] w fun e w' => ∃ g' : Nat, e = .returned (.pointer (some ⟨g', 0, none⟩)) ∧ PTAt w' B (PT.ins a Y P) g' ∧ Below w.heap.size w w' := by
  induction P with
  | lf n pl =>
    intro g w hB h hY
    have hh := h.2
    have HB : Hid (B ≤ w.heap.size) := hB
    have HY : Hid (PTAt w B Y gy) := hY
    obtain ⟨k0, k1, k2, k3, k4, k5⟩ := n
    have CC : Hid (∀ z, Below w.heap.size w z → z.cell? ⟨g, 0, none⟩ = some (.int .i64 k0) ∧ z.cell? ⟨g, 1, none⟩ = some (.int .i64 k1) ∧ z.cell? ⟨g, 2, none⟩ = some (.int .i64 k2) ∧ z.cell? ⟨g, 3, none⟩ = some (.int .i64 k3) ∧ z.cell? ⟨g, 4, none⟩ = some (.int .i64 k4) ∧ z.cell? ⟨g, 5, none⟩ = some (.int .i64 k5) ∧ z.cell? ⟨g, 6, none⟩ = some (.pointer none) ∧ z.cell? ⟨g, 7, none⟩ = some (.pointer none) ∧ z.cell? ⟨g, 8, none⟩ = some (.int .i64 pl)) := fun z hz => by
      have q := (hz.block g (Array.getElem?_eq_some_iff.1 hh).1).trans hh
      exact ⟨(cell_of q 0 _ rfl).1, (cell_of q 1 _ rfl).1, (cell_of q 2 _ rfl).1, (cell_of q 3 _ rfl).1, (cell_of q 4 _ rfl).1, (cell_of q 5 _ rfl).1, (cell_of q 6 _ rfl).1, (cell_of q 7 _ rfl).1, (cell_of q 8 _ rfl).1⟩
    obtain ⟨c0, c1, c2, c3, c4, c5, c6, c7, c8⟩ := CC.out w (Below.refl _ _)
    have hl := (Array.getElem?_eq_some_iff.1 hh).1
    have B0 : Hid (Below w.heap.size w w.drew) := (Below.refl _ _).drew
    have NI : Hid (∀ W, Calls Try.prog 33 #[.pointer none, .int .i64 a, .pointer (some ⟨gy, 0, none⟩)] W fun e w' => e = .returned (.pointer none) ∧ Below W.heap.size W w') := fun W => instead_nil a _ W
    clear h hh hB hY
    by_cases e : pl = a
    · have F : Hid (PT.ins a Y (.lf ⟨k0, k1, k2, k3, k4, k5⟩ pl) = Y) := by show _ = _; simp only [PT.ins, if_pos e]
      have d : (pl == a) = true := by simp [e]
      rw [F.out]
      clear e F
      go_enter Try.func33, Try.ntmps33
      go_wp2_with fail
      go_ret
      exact ⟨_, rfl, HY.out, Below.refl _ _⟩
    · have F : Hid (PT.ins a Y (.lf ⟨k0, k1, k2, k3, k4, k5⟩ pl) = .lf ⟨k0, k1, k2, k3, k4, k5⟩ pl) := by show _ = _; simp only [PT.ins, if_neg e]
      have d : (pl == a) = false := by simp [e]
      rw [F.out]
      have K0 : Hid True := trivial
      clear e F
      go_enter Try.func33, Try.ntmps33
      go_wp2_with fail
      go_region_held3 (fun w' => w'.cell? ⟨g, 0, none⟩ = some (.int .i64 k0) ∧ w'.cell? ⟨g, 1, none⟩ = some (.int .i64 k1) ∧ w'.cell? ⟨g, 2, none⟩ = some (.int .i64 k2) ∧ w'.cell? ⟨g, 3, none⟩ = some (.int .i64 k3) ∧ w'.cell? ⟨g, 4, none⟩ = some (.int .i64 k4) ∧ w'.cell? ⟨g, 5, none⟩ = some (.int .i64 k5) ∧ w'.cell? ⟨g, 6, none⟩ = some (.pointer none) ∧ w'.cell? ⟨g, 7, none⟩ = some (.pointer none) ∧ w'.cell? ⟨g, 8, none⟩ = some (.int .i64 pl))
        (first | (with_reducible exact X2.out) | (with_reducible exact X1.out) | go_keep)
        (first | (go_at_call 33; have hq := K0; refine (NI.out _).mono ?_; rintro e w1 ⟨rfl, hb⟩; have B1 : Hid (Below w.heap.size w w1) := B0.out.trans (hb.mono B0.out.size); have X1 : Hid (w1.cell? ⟨g, 0, none⟩ = some (.int .i64 k0) ∧ w1.cell? ⟨g, 1, none⟩ = some (.int .i64 k1) ∧ w1.cell? ⟨g, 2, none⟩ = some (.int .i64 k2) ∧ w1.cell? ⟨g, 3, none⟩ = some (.int .i64 k3) ∧ w1.cell? ⟨g, 4, none⟩ = some (.int .i64 k4) ∧ w1.cell? ⟨g, 5, none⟩ = some (.int .i64 k5) ∧ w1.cell? ⟨g, 6, none⟩ = some (.pointer none) ∧ w1.cell? ⟨g, 7, none⟩ = some (.pointer none) ∧ w1.cell? ⟨g, 8, none⟩ = some (.int .i64 pl)) := CC.out _ B1.out; clear hb hq K0) | (go_at_call 33; refine (NI.out _).mono ?_; rintro e w2 ⟨rfl, hb⟩; have B2 : Hid (Below w.heap.size w w2) := B1.out.trans (hb.mono B1.out.size); have X2 : Hid (w2.cell? ⟨g, 0, none⟩ = some (.int .i64 k0) ∧ w2.cell? ⟨g, 1, none⟩ = some (.int .i64 k1) ∧ w2.cell? ⟨g, 2, none⟩ = some (.int .i64 k2) ∧ w2.cell? ⟨g, 3, none⟩ = some (.int .i64 k3) ∧ w2.cell? ⟨g, 4, none⟩ = some (.int .i64 k4) ∧ w2.cell? ⟨g, 5, none⟩ = some (.int .i64 k5) ∧ w2.cell? ⟨g, 6, none⟩ = some (.pointer none) ∧ w2.cell? ⟨g, 7, none⟩ = some (.pointer none) ∧ w2.cell? ⟨g, 8, none⟩ = some (.int .i64 pl)) := CC.out _ B2.out; clear hb))
      all_goals go_wp2_with fail
      all_goals go_ret
      all_goals exact ⟨_, rfl, ⟨Nat.le_trans HB.out B2.out.size, heap_alloc_at _ _ _ rfl⟩, B2.out.alloc B2.out.size _⟩
  | nd n pl l r i1 i2 =>
    intro g w hB h hY
    obtain ⟨gl, gr, -, hh, hL, hR⟩ := h
    have HB : Hid (B ≤ w.heap.size) := hB
    have HY : Hid (PTAt w B Y gy) := hY
    obtain ⟨k0, k1, k2, k3, k4, k5⟩ := n
    have CC : Hid (∀ z, Below w.heap.size w z → z.cell? ⟨g, 0, none⟩ = some (.int .i64 k0) ∧ z.cell? ⟨g, 1, none⟩ = some (.int .i64 k1) ∧ z.cell? ⟨g, 2, none⟩ = some (.int .i64 k2) ∧ z.cell? ⟨g, 3, none⟩ = some (.int .i64 k3) ∧ z.cell? ⟨g, 4, none⟩ = some (.int .i64 k4) ∧ z.cell? ⟨g, 5, none⟩ = some (.int .i64 k5) ∧ z.cell? ⟨g, 6, none⟩ = some (.pointer (some ⟨gl, 0, none⟩)) ∧ z.cell? ⟨g, 7, none⟩ = some (.pointer (some ⟨gr, 0, none⟩)) ∧ z.cell? ⟨g, 8, none⟩ = some (.int .i64 pl)) := fun z hz => by
      have q := (hz.block g (Array.getElem?_eq_some_iff.1 hh).1).trans hh
      exact ⟨(cell_of q 0 _ rfl).1, (cell_of q 1 _ rfl).1, (cell_of q 2 _ rfl).1, (cell_of q 3 _ rfl).1, (cell_of q 4 _ rfl).1, (cell_of q 5 _ rfl).1, (cell_of q 6 _ rfl).1, (cell_of q 7 _ rfl).1, (cell_of q 8 _ rfl).1⟩
    obtain ⟨c0, c1, c2, c3, c4, c5, c6, c7, c8⟩ := CC.out w (Below.refl _ _)
    have hl := (Array.getElem?_eq_some_iff.1 hh).1
    have B0 : Hid (Below w.heap.size w w.drew) := (Below.refl _ _).drew
    have IL : Hid (∀ z, Below w.heap.size w z → Calls Try.prog 33 #[.pointer (some ⟨gl, 0, none⟩), .int .i64 a, .pointer (some ⟨gy, 0, none⟩)] z fun e w' => ∃ g' : Nat, e = .returned (.pointer (some ⟨g', 0, none⟩)) ∧ PTAt w' B (PT.ins a Y l) g' ∧ Below z.heap.size z w') := fun z hz => i1 gl z (Nat.le_trans hB hz.size) (hL.below hz) (hY.below hz)
    have IR : Hid (∀ z, Below w.heap.size w z → Calls Try.prog 33 #[.pointer (some ⟨gr, 0, none⟩), .int .i64 a, .pointer (some ⟨gy, 0, none⟩)] z fun e w' => ∃ g' : Nat, e = .returned (.pointer (some ⟨g', 0, none⟩)) ∧ PTAt w' B (PT.ins a Y r) g' ∧ Below z.heap.size z w') := fun z hz => i2 gr z (Nat.le_trans hB hz.size) (hR.below hz) (hY.below hz)
    clear hh hL hR i1 i2 hB hY
    by_cases e : pl = a
    · have F : Hid (PT.ins a Y (.nd ⟨k0, k1, k2, k3, k4, k5⟩ pl l r) = Y) := by show _ = _; simp only [PT.ins, if_pos e]
      have d : (pl == a) = true := by simp [e]
      rw [F.out]
      clear e F
      go_enter Try.func33, Try.ntmps33
      go_wp2_with fail
      go_ret
      exact ⟨_, rfl, HY.out, Below.refl _ _⟩
    · have F : Hid (PT.ins a Y (.nd ⟨k0, k1, k2, k3, k4, k5⟩ pl l r) = .nd ⟨k0, k1, k2, k3, k4, k5⟩ pl (PT.ins a Y l) (PT.ins a Y r)) := by show _ = _; simp only [PT.ins, if_neg e]
      have d : (pl == a) = false := by simp [e]
      rw [F.out]
      have K0 : Hid True := trivial
      clear e F
      generalize PT.ins a Y l = QL at *
      generalize PT.ins a Y r = QR at *
      go_enter Try.func33, Try.ntmps33
      go_wp2_with fail
      go_region_held3 (fun w' => w'.cell? ⟨g, 0, none⟩ = some (.int .i64 k0) ∧ w'.cell? ⟨g, 1, none⟩ = some (.int .i64 k1) ∧ w'.cell? ⟨g, 2, none⟩ = some (.int .i64 k2) ∧ w'.cell? ⟨g, 3, none⟩ = some (.int .i64 k3) ∧ w'.cell? ⟨g, 4, none⟩ = some (.int .i64 k4) ∧ w'.cell? ⟨g, 5, none⟩ = some (.int .i64 k5) ∧ w'.cell? ⟨g, 6, none⟩ = some (.pointer (some ⟨gl, 0, none⟩)) ∧ w'.cell? ⟨g, 7, none⟩ = some (.pointer (some ⟨gr, 0, none⟩)) ∧ w'.cell? ⟨g, 8, none⟩ = some (.int .i64 pl))
        (first | (with_reducible exact X2.out) | (with_reducible exact X1.out) | go_keep)
        (first | (go_at_call 33; have hq := K0; refine (IL.out _ B0.out).mono ?_; rintro e w1 ⟨g1, rfl, hT, hb⟩; have B1 : Hid (Below w.heap.size w w1) := B0.out.trans (hb.mono B0.out.size); have X1 : Hid (w1.cell? ⟨g, 0, none⟩ = some (.int .i64 k0) ∧ w1.cell? ⟨g, 1, none⟩ = some (.int .i64 k1) ∧ w1.cell? ⟨g, 2, none⟩ = some (.int .i64 k2) ∧ w1.cell? ⟨g, 3, none⟩ = some (.int .i64 k3) ∧ w1.cell? ⟨g, 4, none⟩ = some (.int .i64 k4) ∧ w1.cell? ⟨g, 5, none⟩ = some (.int .i64 k5) ∧ w1.cell? ⟨g, 6, none⟩ = some (.pointer (some ⟨gl, 0, none⟩)) ∧ w1.cell? ⟨g, 7, none⟩ = some (.pointer (some ⟨gr, 0, none⟩)) ∧ w1.cell? ⟨g, 8, none⟩ = some (.int .i64 pl)) := CC.out _ B1.out; have TL : Hid (PTAt w1 B QL g1) := hT; clear hb hT hq K0) | (go_at_call 33; refine (IR.out _ B1.out).mono ?_; rintro e w2 ⟨g2, rfl, hT, hb⟩; have B2 : Hid (Below w.heap.size w w2) := B1.out.trans (hb.mono B1.out.size); have X2 : Hid (w2.cell? ⟨g, 0, none⟩ = some (.int .i64 k0) ∧ w2.cell? ⟨g, 1, none⟩ = some (.int .i64 k1) ∧ w2.cell? ⟨g, 2, none⟩ = some (.int .i64 k2) ∧ w2.cell? ⟨g, 3, none⟩ = some (.int .i64 k3) ∧ w2.cell? ⟨g, 4, none⟩ = some (.int .i64 k4) ∧ w2.cell? ⟨g, 5, none⟩ = some (.int .i64 k5) ∧ w2.cell? ⟨g, 6, none⟩ = some (.pointer (some ⟨gl, 0, none⟩)) ∧ w2.cell? ⟨g, 7, none⟩ = some (.pointer (some ⟨gr, 0, none⟩)) ∧ w2.cell? ⟨g, 8, none⟩ = some (.int .i64 pl)) := CC.out _ B2.out; have FL : Hid (PTAt w2 B QL g1) := TL.out.below hb; have FR : Hid (PTAt w2 B QR g2) := hT; clear hb hT))
      all_goals go_wp2_with fail
      all_goals go_ret
      all_goals exact ⟨_, rfl, ⟨_, _, Nat.le_trans HB.out B2.out.size, heap_alloc_at _ _ _ rfl, FL.out.below (below_alloc _ _), FR.out.below (below_alloc _ _)⟩, B2.out.alloc B2.out.size _⟩
end Go.Proofs.Ythlhbajaogonnaa

namespace Go.Proofs.Ythlhbajaogonnaa

open Go.RowKit

attribute [local go_sem ↓] Go.wp_at_zero Go.wp_at_succ

/-- Blocks of trees stay as they are. -/
structure TK (x y : World) : Prop where
  out : ∀ (k : Nat) (cs : Array Value), x.heap[k]? = some (.cells cs 76 (0, 0)) → y.heap[k]? = some (.cells cs 76 (0, 0))
theorem TK.refl (x : World) : TK x x := ⟨fun _ _ h => h⟩
theorem TK.trans {x y z : World} (h : TK x y) (k : TK y z) : TK x z := ⟨fun b cs q => k.out b cs (h.out b cs q)⟩
theorem TK.below {x y : World} (h : Below x.heap.size x y) : TK x y := ⟨fun k _ q => (h.block k (Array.getElem?_eq_some_iff.1 q).1).trans q⟩
theorem node_ne {x : World} {B n g : Nat} {u : Value} {xs : List Value} {cur : Array Value} (h : x.ownsRow B 55 6 u n xs) (hg : x.heap[g]? = some (.cells cur 76 (0, 0))) : u.ownBlock ≠ some g := by
  rcases h.2 with ⟨rfl, _⟩ | ⟨g', cap, cur', rfl, _, hgb, _⟩
  · simp [Value.ownBlock]
  · intro e
    have : g' = g := by simpa [Value.ownBlock] using e
    subst this
    rw [hgb] at hg
    simp at hg
theorem TK.grown {x y : World} {B n : Nat} {v : Value} {xs : List Value} (h : x.ownsRow B 55 6 v n xs) (hg : x.grownBy y v.ownBlock) : TK x y :=
  ⟨fun k _ q => (hg.block k (Array.getElem?_eq_some_iff.1 q).1 (fun e => node_ne h q e.symm)).trans q⟩
theorem TK.set {x : World} {B n g c : Nat} {xs : List Value} (h : x.ownsRow B 55 6 (.slice (some ⟨g, 0, none⟩) n c) n xs) (j : Nat) (u : Value) : TK x (x.setCell ⟨g, j, none⟩ u) :=
  ⟨fun k _ q => (Below.heap_setCell _ _ _ k (fun e => node_ne h q (by rw [e]; rfl))).trans q⟩
theorem PTAt.tk {w y : World} {B : Nat} : ∀ {P : PT} {g : Nat}, PTAt w B P g → TK w y → PTAt y B P g
  | .lf _ _, _, h, hk => ⟨h.1, hk.out _ _ h.2⟩
  | .nd _ _ _ _, _, ⟨gl, gr, h1, h2, h3, h4⟩, hk => ⟨gl, gr, h1, hk.out _ _ h2, h3.tk hk, h4.tk hk⟩
theorem ndAt_mid (T U : NL) (n : NdD) : ndAt (T ++ n :: U) T.length = n := by
  unfold ndAt
  rw [List.getD_eq_getElem?_getD, List.getElem?_append_right (Nat.le_refl _)]
  simp
theorem setL_mid (T U : NL) (n : NdD) (a : Int) : setL (T ++ n :: U) T.length a = T ++ ⟨n.key, n.inf, n.wt, n.val, a, n.r⟩ :: U := by
  unfold setL
  rw [ndAt_mid, List.set_append_right _ _ (Nat.le_refl _)]
  simp
theorem setR_mid (T U : NL) (n : NdD) (a : Int) : setR (T ++ n :: U) T.length a = T ++ ⟨n.key, n.inf, n.wt, n.val, n.l, a⟩ :: U := by
  unfold setR
  rw [ndAt_mid, List.set_append_right _ _ (Nat.le_refl _)]
  simp
/-- The node's row behind the stores that lay makes in it. -/
theorem MAt.lay3 {w0 x : World} {g cap : Nat} {T : NL} {n : NdD} (h : MAt w0 x g cap (T ++ [n])) (a b c : Int) : MAt w0 (((x.setCell ⟨g, T.length * 6 + 4, none⟩ (.int .i64 a)).setCell ⟨g, T.length * 6 + 5, none⟩ (.int .i64 b)).setCell ⟨g, T.length * 6 + 4, none⟩ (.int .i64 c)) g cap (T ++ [⟨n.key, n.inf, n.wt, n.val, c, b⟩]) := by
  have hg := h.lt.1
  have h1 := h.putL T.length a (by simp) hg
  rw [setL_mid] at h1
  have h2 := h1.putR T.length b (by simp) hg
  rw [setR_mid] at h2
  have h3 := h2.putL T.length c (by simp) hg
  rw [setL_mid] at h3
  exact h3
theorem MAt.lay2 {w0 x : World} {g cap : Nat} {T : NL} {n : NdD} (h : MAt w0 x g cap (T ++ [n])) (a b : Int) : MAt w0 ((x.setCell ⟨g, T.length * 6 + 4, none⟩ (.int .i64 a)).setCell ⟨g, T.length * 6 + 5, none⟩ (.int .i64 b)) g cap (T ++ [⟨n.key, n.inf, n.wt, n.val, a, b⟩]) := by
  have hg := h.lt.1
  have h1 := h.putL T.length a (by simp) hg
  rw [setL_mid] at h1
  have h2 := h1.putR T.length b (by simp) hg
  rw [setR_mid] at h2
  exact h2
theorem MAt.own1 {w0 x : World} {g cap : Nat} {T : NL} {n : NdD} (h : MAt w0 x g cap (T ++ [n])) : x.ownsRow w0.heap.size 55 6 (.slice (some ⟨g, 0, none⟩) (T.length + 1) cap) (T ++ [n]).length (ndCells (T ++ [n])) := by
  have q := h.own
  rw [show (T ++ [n]).length = T.length + 1 by simp] at q ⊢
  exact q
theorem MAt.tk1 {w0 x : World} {g cap : Nat} {T : NL} (h : MAt w0 x g cap T) (i : Nat) (u : Value) : TK x (x.setCell ⟨g, i, none⟩ u) := TK.set h.own i u
theorem MAt.tk2 {w0 x : World} {g cap : Nat} {T : NL} {n : NdD} (h : MAt w0 x g cap (T ++ [n])) (a b : Int) : TK x ((x.setCell ⟨g, T.length * 6 + 4, none⟩ (.int .i64 a)).setCell ⟨g, T.length * 6 + 5, none⟩ (.int .i64 b)) := by
  have h1 := h.putL T.length a (by simp) h.lt.1
  exact (h.tk1 _ _).trans (h1.tk1 _ _)
theorem MAt.tk3 {w0 x : World} {g cap : Nat} {T : NL} {n : NdD} (h : MAt w0 x g cap (T ++ [n])) (a b c : Int) : TK x (((x.setCell ⟨g, T.length * 6 + 4, none⟩ (.int .i64 a)).setCell ⟨g, T.length * 6 + 5, none⟩ (.int .i64 b)).setCell ⟨g, T.length * 6 + 4, none⟩ (.int .i64 c)) :=
  (h.tk2 a b).trans ((h.lay2 a b).tk1 _ _)
theorem lay_end {T U1 : NL} {k0 k1 k2 k3 a b Y : Int} {l r : BT} (h1 : U1 = (T ++ ([⟨k0, k1, k2, k3, a, b⟩] : NL)) ++ l.lay (T ++ ([⟨k0, k1, k2, k3, a, b⟩] : NL)).length) (ha : a = ((T.length + 1 : Nat) : Int)) (hY : Y = (U1.length : Int)) : setR U1 T.length Y ++ r.lay (setR U1 T.length Y).length = T ++ (BT.node ⟨k0, k1, k2, k3⟩ l r).lay T.length := by
  have e1 : U1 = T ++ ⟨k0, k1, k2, k3, a, b⟩ :: l.lay (T.length + 1) := by rw [h1]; simp
  have e2 : U1.length = T.length + 1 + l.size := by rw [e1]; simp [BT.lay_length]; omega
  have e3 : setR U1 T.length Y = T ++ ⟨k0, k1, k2, k3, a, Y⟩ :: l.lay (T.length + 1) := by rw [e1, setR_mid]
  rw [setR_length, e2, e3, hY, e2, ha]
  simp [BT.lay]
set_option maxRecDepth 100000 in
set_option maxHeartbeats 8000000 in
theorem lay_any (B : Nat) (P : PT) : ∀ (g : Nat) (w0 x : World) (v : Value) (T : NL), PTAt x B P g → x.ownsRow w0.heap.size 55 6 v T.length (ndCells T) → Below w0.heap.size w0 x → T.length + P.bt.size ≤ 1000000 →
    Calls Try.prog 35 #[.pointer (some ⟨g, 0, none⟩), v] x fun e y => ∃ (v' : Value) (U : NL), e = .returned v' ∧ U = T ++ P.bt.lay T.length ∧ y.ownsRow w0.heap.size 55 6 v' U.length (ndCells U) ∧ Below w0.heap.size w0 y ∧ TK x y := by
  induction P with
  | lf n pl =>
    intro g w0 x v T h ho hw hs
    have hh := h.2
    obtain ⟨a, c, rfl⟩ : ∃ a c, v = .slice a T.length c := by
      rcases Go.Joins.ownsRow_forms ho with ⟨rfl, e⟩ | ⟨g, cap, rfl⟩
      · exact ⟨none, 0, by rw [e]⟩
      · exact ⟨_, _, rfl⟩
    obtain ⟨i0, hi0, hz0, hz1, hz2⟩ := info_parts nd_info
    obtain ⟨k0, k1, k2, k3, k4, k5⟩ := n
    have hl := (Array.getElem?_eq_some_iff.1 hh).1
    have HH : Hid (x.heap[g]? = some (.cells (ptC ⟨k0, k1, k2, k3, k4, k5⟩ pl (.pointer none) (.pointer none)) 76 (0, 0))) := hh
    have c0 : x.cell? ⟨g, 0, none⟩ = some (.int .i64 k0) := (cell_of hh 0 _ rfl).1
    have c1 : x.cell? ⟨g, 1, none⟩ = some (.int .i64 k1) := (cell_of hh 1 _ rfl).1
    have c2 : x.cell? ⟨g, 2, none⟩ = some (.int .i64 k2) := (cell_of hh 2 _ rfl).1
    have c3 : x.cell? ⟨g, 3, none⟩ = some (.int .i64 k3) := (cell_of hh 3 _ rfl).1
    have c4 : x.cell? ⟨g, 4, none⟩ = some (.int .i64 k4) := (cell_of hh 4 _ rfl).1
    have c5 : x.cell? ⟨g, 5, none⟩ = some (.int .i64 k5) := (cell_of hh 5 _ rfl).1
    have HO : Hid (World.ownsRow _ _ _ _ _ _ _) := ho
    have HW : Hid (Below w0.heap.size w0 x) := hw
    have tl : (T.length : Int) ≤ 1000000 := by omega
    have tl' : T.length ≤ 1000000 := by omega
    have wl := hw.size
    have t0 : (0 : Int) ≤ (T.length : Int) := Int.natCast_nonneg _
    clear h hh ho hw hs
    go_enter Try.func35, Try.ntmps35
    go_wp2_with (first | (at_builtin; (refine wpList_append_lies _ (by rfl) _ _ _ (by rfl) w0.heap.size 55 i0 _ 6 48 nds_under hi0 hz0 hz1 hz2 rfl (by omega) _ T.length _ (by rfl) (HO.out.alloc _) ⟨x.heap.size, 0, none⟩ 1 1 [.int .i64 k0, .int .i64 k1, .int .i64 k2, .int .i64 k3, .int .i64 k4, .int .i64 k5] (by rfl) (by rfl) (World.news_of_block (cs := #[.int .i64 k0, .int .i64 k1, .int .i64 k2, .int .i64 k3, .int .i64 k4, .int .i64 k5]) (t := 55) (fr := (0, 0)) (heap_alloc_at _ _ _ (by simp))) (by simp [Value.oneCell']) (by omega) (by unfold maxLen; omega) (by omega) (by simp; omega) (x.heap.size + 1) (by simp) ?_); intro g5 c5' w5 ho5 hg5 hat5 hl5; have M5 : Hid (MAt w0 w5 g5 c5' (T ++ [⟨k0, k1, k2, k3, k4, k5⟩])) := ⟨(by rw [List.length_append, ndCells_append]; exact ho5), Below.grown (HW.out.alloc wl _) hg5 (by rw [World.size_alloc]; omega) (fun k hk => (owns_lt HO.out k hk).1)⟩; have K5 : Hid (TK x w5) := (TK.below (below_alloc x _)).trans (TK.grown (HO.out.alloc _) hg5); obtain ⟨d4, d5⟩ := M5.out.cells T.length (by simp); have c6 : ((w5.setCell ⟨g5, T.length * 6 + 4, none⟩ (.int .i64 (-1))).setCell ⟨g5, T.length * 6 + 5, none⟩ (.int .i64 (-1))).cell? ⟨g, 6, none⟩ = some (.pointer none) := (cell_of ((M5.out.tk2 (-1) (-1)).out _ _ (K5.out.out _ _ HH.out)) 6 _ rfl).1; have l5 : g5 < w5.heap.size := M5.out.lt.2; have lg5 : g < w5.heap.size := (Array.getElem?_eq_some_iff.1 (K5.out.out _ _ HH.out)).1; clear ho5 hg5 hat5 hl5))
    go_ret
    exact ⟨_, _, rfl, rfl, (M5.out.lay2 (-1) (-1)).own1, (M5.out.lay2 (-1) (-1)).below, K5.out.trans (M5.out.tk2 (-1) (-1))⟩
  | nd n pl l r i1 i2 =>
    intro g w0 x v T h ho hw hs
    obtain ⟨gl, gr, -, hh, hL, hR⟩ := h
    obtain ⟨a, c, rfl⟩ : ∃ a c, v = .slice a T.length c := by
      rcases Go.Joins.ownsRow_forms ho with ⟨rfl, e⟩ | ⟨g, cap, rfl⟩
      · exact ⟨none, 0, by rw [e]⟩
      · exact ⟨_, _, rfl⟩
    obtain ⟨i0, hi0, hz0, hz1, hz2⟩ := info_parts nd_info
    obtain ⟨k0, k1, k2, k3, k4, k5⟩ := n
    have hl := (Array.getElem?_eq_some_iff.1 hh).1
    have HH : Hid (x.heap[g]? = some (.cells (ptC ⟨k0, k1, k2, k3, k4, k5⟩ pl (.pointer (some ⟨gl, 0, none⟩)) (.pointer (some ⟨gr, 0, none⟩))) 76 (0, 0))) := hh
    have c0 : x.cell? ⟨g, 0, none⟩ = some (.int .i64 k0) := (cell_of hh 0 _ rfl).1
    have c1 : x.cell? ⟨g, 1, none⟩ = some (.int .i64 k1) := (cell_of hh 1 _ rfl).1
    have c2 : x.cell? ⟨g, 2, none⟩ = some (.int .i64 k2) := (cell_of hh 2 _ rfl).1
    have c3 : x.cell? ⟨g, 3, none⟩ = some (.int .i64 k3) := (cell_of hh 3 _ rfl).1
    have c4 : x.cell? ⟨g, 4, none⟩ = some (.int .i64 k4) := (cell_of hh 4 _ rfl).1
    have c5 : x.cell? ⟨g, 5, none⟩ = some (.int .i64 k5) := (cell_of hh 5 _ rfl).1
    have HO : Hid (World.ownsRow _ _ _ _ _ _ _) := ho
    have HW : Hid (Below w0.heap.size w0 x) := hw
    have tl : (T.length : Int) ≤ 1000000 := by omega
    have tl' : T.length ≤ 1000000 := by omega
    have wl := hw.size
    have t0 : (0 : Int) ≤ (T.length : Int) := Int.natCast_nonneg _
    have HL : Hid (PTAt x B l gl) := hL
    have HR : Hid (PTAt x B r gr) := hR
    have IL : Hid (∀ (y : World) (v : Value) (U : NL), PTAt y B l gl → y.ownsRow w0.heap.size 55 6 v U.length (ndCells U) → Below w0.heap.size w0 y → U.length + l.bt.size ≤ 1000000 → Calls Try.prog 35 #[.pointer (some ⟨gl, 0, none⟩), v] y fun e z => ∃ (v' : Value) (V : NL), e = .returned v' ∧ V = U ++ l.bt.lay U.length ∧ z.ownsRow w0.heap.size 55 6 v' V.length (ndCells V) ∧ Below w0.heap.size w0 z ∧ TK y z) := fun y v U => i1 gl w0 y v U
    have IR : Hid (∀ (y : World) (v : Value) (U : NL), PTAt y B r gr → y.ownsRow w0.heap.size 55 6 v U.length (ndCells U) → Below w0.heap.size w0 y → U.length + r.bt.size ≤ 1000000 → Calls Try.prog 35 #[.pointer (some ⟨gr, 0, none⟩), v] y fun e z => ∃ (v' : Value) (V : NL), e = .returned v' ∧ V = U ++ r.bt.lay U.length ∧ z.ownsRow w0.heap.size 55 6 v' V.length (ndCells V) ∧ Below w0.heap.size w0 z ∧ TK y z) := fun y v U => i2 gr w0 y v U
    have HS : Hid (T.length + (1 + (l.bt.size + r.bt.size)) ≤ 1000000) := hs
    have LP : Hid (1 ≤ l.bt.size) := BT.size_pos _
    have LLn : Hid (∀ o, (l.bt.lay o).length = l.bt.size) := BT.lay_length _
    have FE : Hid (∀ {U1 : NL} {a b Y : Int}, U1 = (T ++ ([⟨k0, k1, k2, k3, a, b⟩] : NL)) ++ l.bt.lay (T ++ ([⟨k0, k1, k2, k3, a, b⟩] : NL)).length → a = ((T.length + 1 : Nat) : Int) → Y = (U1.length : Int) → setR U1 T.length Y ++ r.bt.lay (setR U1 T.length Y).length = T ++ (PT.nd ⟨k0, k1, k2, k3, k4, k5⟩ pl l r).bt.lay T.length) := fun h1 h2 h3 => lay_end h1 h2 h3
    clear hh ho hw hs hL hR i1 i2
    generalize (PT.nd ⟨k0, k1, k2, k3, k4, k5⟩ pl l r).bt.lay T.length = FIN at *
    generalize l.bt = bl at *
    generalize r.bt = br at *
    go_enter Try.func35, Try.ntmps35
    go_wp2_with (first | (at_builtin; (refine wpList_append_lies _ (by rfl) _ _ _ (by rfl) w0.heap.size 55 i0 _ 6 48 nds_under hi0 hz0 hz1 hz2 rfl (by omega) _ T.length _ (by rfl) (HO.out.alloc _) ⟨x.heap.size, 0, none⟩ 1 1 [.int .i64 k0, .int .i64 k1, .int .i64 k2, .int .i64 k3, .int .i64 k4, .int .i64 k5] (by rfl) (by rfl) (World.news_of_block (cs := #[.int .i64 k0, .int .i64 k1, .int .i64 k2, .int .i64 k3, .int .i64 k4, .int .i64 k5]) (t := 55) (fr := (0, 0)) (heap_alloc_at _ _ _ (by simp))) (by simp [Value.oneCell']) (by omega) (by unfold maxLen; omega) (by omega) (by simp; omega) (x.heap.size + 1) (by simp) ?_); intro g5 c5' w5 ho5 hg5 hat5 hl5; have M5 : Hid (MAt w0 w5 g5 c5' (T ++ [⟨k0, k1, k2, k3, k4, k5⟩])) := ⟨(by rw [List.length_append, ndCells_append]; exact ho5), Below.grown (HW.out.alloc wl _) hg5 (by rw [World.size_alloc]; omega) (fun k hk => (owns_lt HO.out k hk).1)⟩; have K5 : Hid (TK x w5) := (TK.below (below_alloc x _)).trans (TK.grown (HO.out.alloc _) hg5); obtain ⟨d4, d5⟩ := M5.out.cells T.length (by simp); have c6 : ((w5.setCell ⟨g5, T.length * 6 + 4, none⟩ (.int .i64 (-1))).setCell ⟨g5, T.length * 6 + 5, none⟩ (.int .i64 (-1))).cell? ⟨g, 6, none⟩ = some (.pointer (some ⟨gl, 0, none⟩)) := (cell_of ((M5.out.tk2 (-1) (-1)).out _ _ (K5.out.out _ _ HH.out)) 6 _ rfl).1; have l5 : g5 < w5.heap.size := M5.out.lt.2; have lg5 : g < w5.heap.size := (Array.getElem?_eq_some_iff.1 (K5.out.out _ _ HH.out)).1; have c6' : Hid (∀ a : Int, (((w5.setCell ⟨g5, T.length * 6 + 4, none⟩ (.int .i64 (-1))).setCell ⟨g5, T.length * 6 + 5, none⟩ (.int .i64 (-1))).setCell ⟨g5, T.length * 6 + 4, none⟩ (.int .i64 a)).cell? ⟨g, 6, none⟩ = some (.pointer (some ⟨gl, 0, none⟩))) := fun a => (cell_of ((M5.out.tk3 (-1) (-1) a).out _ _ (K5.out.out _ _ HH.out)) 6 _ rfl).1; have c6'' := c6'.out ((T.length : Int) + 1); clear ho5 hg5 hat5 hl5))
    refine (IL.out _ _ (T ++ ([⟨k0, k1, k2, k3, _, -1⟩] : NL)) ((HL.out.tk K5.out).tk (M5.out.tk3 (-1) (-1) _)) (M5.out.lay3 (-1) (-1) _).own1 (M5.out.lay3 (-1) (-1) _).below (by rw [List.length_append]; have := HS.out; simp; omega)).mono ?_
    rintro e w6 ⟨v6, U1, rfl, hU1, ho6, hb6, hk6⟩
    have HU1 : Hid (U1 = _) := hU1
    have lt1 : T.length < U1.length := by rw [hU1, List.length_append, List.length_append]; simp only [List.length_cons, List.length_nil]; omega
    have K6 : Hid (TK x w6) := (K5.out.trans (M5.out.tk3 (-1) (-1) _)).trans hk6
    have lu : U1.length + br.size ≤ 1000000 := by have := HS.out; rw [hU1, List.length_append, LLn.out]; simp; omega
    obtain ⟨g6, c6x, rfl, -, -, -, -, -, -⟩ := owns_some ho6 (by omega)
    have M6 : Hid (MAt w0 w6 g6 c6x U1) := ⟨ho6, hb6⟩
    obtain ⟨-, d5'⟩ := M6.out.cells T.length lt1
    have l6 : g6 < w6.heap.size := M6.out.lt.2
    have lt1' : (T.length : Int) < (U1.length : Int) := by omega
    have c7 : Hid (∀ u, (w6.setCell ⟨g6, T.length * 6 + 5, none⟩ u).cell? ⟨g, 7, none⟩ = some (.pointer (some ⟨gr, 0, none⟩))) := fun u => (cell_of ((M6.out.tk1 _ u).out _ _ (K6.out.out _ _ HH.out)) 7 _ rfl).1
    have c7' := c7.out (.int .i64 (U1.length : Int))
    have lg6 : g < w6.heap.size := (Array.getElem?_eq_some_iff.1 (K6.out.out _ _ HH.out)).1
    have LU : Hid (U1.length + br.size ≤ 1000000) := lu
    have LT : Hid (T.length < U1.length) := lt1
    clear hU1 ho6 hb6 hk6 lu
    go_wp2_with fail
    refine (IR.out _ _ (setR U1 T.length (U1.length : Int)) ((HR.out.tk K6.out).tk (M6.out.tk1 _ _)) (by have q := (M6.out.putR T.length (U1.length : Int) LT.out M6.out.lt.1).own; rw [setR_length] at q ⊢; exact q) (M6.out.putR T.length (U1.length : Int) LT.out M6.out.lt.1).below (by rw [setR_length]; exact LU.out)).mono ?_
    rintro e w7 ⟨v7, U2, rfl, hU2, ho7, hb7, hk7⟩
    have O7 : Hid (w7.ownsRow w0.heap.size 55 6 v7 U2.length (ndCells U2)) := ho7
    have B7 : Hid (Below w0.heap.size w0 w7) := hb7
    have K7 : Hid (TK x w7) := (K6.out.trans (M6.out.tk1 _ _)).trans hk7
    have HU2 : Hid (U2 = T ++ FIN) := by show _ = _; rw [hU2]; exact FE.out HU1.out (by first | rfl | simp) rfl
    clear hU2 ho7 hb7 hk7
    go_wp2_with fail
    go_ret
    exact ⟨_, U2, rfl, HU2.out, O7.out, B7.out, K7.out⟩
end Go.Proofs.Ythlhbajaogonnaa

namespace Go.Proofs.Ythlhbajaogonnaa

open Go.RowKit

attribute [local go_sem ↓] Go.wp_at_zero Go.wp_at_succ

theorem okw {P : PT} (h : P.bt.ok) : 0 ≤ P.n.wt ∧ P.n.wt ≤ 1000000 := by rw [← PT.bt_wt]; exact BT.ok_wt h
theorem rdo_any (B : Nat) (y : PT) (c : BT) (root : Bool) (k : Int) (g : Nat) (w : World) (hB : B ≤ w.heap.size) (hS : StepR root k y.bt c) (hok : y.bt.ok) (h : PTAt w B y g) :
    Calls Try.prog 30 #[.pointer (some ⟨g, 0, none⟩), .int .i64 k] w fun e w' => ∃ (g' : Nat) (Y : PT), e = .returned (.pointer (some ⟨g', 0, none⟩)) ∧ PTAt w' B Y g' ∧ Y.bt = c ∧ Below w.heap.size w w' := by
  have E := do_bt hS hok
  have Q : ∀ {e : Ending} {w' : World}, (∃ g' : Nat, e = .returned (.pointer (some ⟨g', 0, none⟩)) ∧ PTAt w' B (doP k y) g' ∧ Below w.heap.size w w') → ∃ (g' : Nat) (Y : PT), e = .returned (.pointer (some ⟨g', 0, none⟩)) ∧ PTAt w' B Y g' ∧ Y.bt = c ∧ Below w.heap.size w w' := fun ⟨g', h1, h2, h3⟩ => ⟨g', _, h1, h2, E, h3⟩
  have hS' := hS
  generalize hb : y.bt = b at hS'
  cases hS' with
  | blk =>
    obtain ⟨n0, p0, A, C, rfl, -, -, -⟩ := bt_node hb
    exact (rdo1 B n0 p0 A C g w hB (okw hok) h).mono fun _ _ q => Q q
  | rb1 =>
    obtain ⟨n0, p0, A, C, rfl, -, hA, -⟩ := bt_node hb
    obtain ⟨n1, p1, A1, A2, rfl, -, -, -⟩ := bt_node hA
    exact (rdo2 B n0 n1 p0 p1 A1 A2 C g w hB (okw hok) h).mono fun _ _ q => Q q
  | rb2 =>
    obtain ⟨n0, p0, A, C, rfl, -, hA, -⟩ := bt_node hb
    obtain ⟨n1, p1, A1, A2, rfl, -, -, hA2⟩ := bt_node hA
    obtain ⟨n2, p2, D1, D2, rfl, -, -, -⟩ := bt_node hA2
    exact (rdo3 B n0 n1 n2 p0 p1 p2 A1 D1 D2 C g w hB (okw hok) h).mono fun _ _ q => Q q
  | push =>
    obtain ⟨n0, p0, A, C, rfl, -, -, -⟩ := bt_node hb
    exact (rdo4 B n0 p0 A C g w hB (okw hok) (okw hok.2.2.1) h).mono fun _ _ q => Q q
  | w1 =>
    obtain ⟨n0, p0, A, C, rfl, -, -, hC⟩ := bt_node hb
    obtain ⟨n1, p1, C1, C2, rfl, -, -, -⟩ := bt_node hC
    exact (rdo5 B n0 n1 p0 p1 A C1 C2 g w hB (okw hok) (okw hok.2.2.1) (okw hok.2.2.2.2.2.1) h).mono fun _ _ q => Q q
  | w2 =>
    obtain ⟨n0, p0, A, C, rfl, -, -, hC⟩ := bt_node hb
    obtain ⟨n1, p1, C1, C2, rfl, -, -, -⟩ := bt_node hC
    exact (rdo6 B n0 n1 p0 p1 A C1 C2 g w hB (okw hok) (okw hok.2.2.1) h).mono fun _ _ q => Q q
  | w3 =>
    obtain ⟨n0, p0, A, C, rfl, -, -, hC⟩ := bt_node hb
    obtain ⟨n1, p1, C1, C2, rfl, -, hC1, -⟩ := bt_node hC
    obtain ⟨n2, p2, D1, D2, rfl, -, hD1, -⟩ := bt_node hC1
    obtain ⟨n3, p3, F1, F2, rfl, -, -, -⟩ := bt_node hD1
    exact (rdo7 B n0 n1 n2 n3 p0 p1 p2 p3 A F1 F2 D2 C2 g w hB (okw hok) (okw hok.2.2.1) h).mono fun _ _ q => Q q
  | w4 =>
    obtain ⟨n0, p0, A, C, rfl, -, -, hC⟩ := bt_node hb
    obtain ⟨n1, p1, C1, C2, rfl, -, hC1, -⟩ := bt_node hC
    obtain ⟨n2, p2, D1, D2, rfl, -, -, -⟩ := bt_node hC1
    exact (rdo8 B n0 n1 n2 p0 p1 p2 A D1 D2 C2 g w hB (okw hok) (okw hok.2.2.1) h).mono fun _ _ q => Q q
  | w5 =>
    obtain ⟨n0, p0, A, C, rfl, -, -, hC⟩ := bt_node hb
    obtain ⟨n1, p1, C1, C2, rfl, -, -, -⟩ := bt_node hC
    exact (rdo9 B n0 n1 p0 p1 A C1 C2 g w hB (okw hok) (okw hok.2.2.1) h).mono fun _ _ q => Q q
  | w6 =>
    obtain ⟨n0, p0, A, C, rfl, -, -, hC⟩ := bt_node hb
    obtain ⟨n1, p1, C1, C2, rfl, -, hC1, -⟩ := bt_node hC
    obtain ⟨n2, p2, D1, D2, rfl, -, -, -⟩ := bt_node hC1
    exact (rdo10 B n0 n1 n2 p0 p1 p2 A D1 D2 C2 g w hB (okw hok) (okw hok.2.2.1) h).mono fun _ _ q => Q q
  | w7 =>
    obtain ⟨n0, p0, A, C, rfl, -, -, -⟩ := bt_node hb
    exact (rdo11 B n0 p0 A C g w hB (okw hok) (okw hok.2.2.1) (okw hok.2.2.2) h).mono fun _ _ q => Q q
  | root => exact (rdo12 B y g w hB h).mono fun _ _ q => Q q
theorem new_gr {t : NL} {p k : Int} {mi : Bool} (h : todoE t p k mi = 0) : (doC t p k mi).gr = decide (1000000 < (doC t p k mi).wt) := by
  obtain ⟨x, B, C, M, -, -, -, hf, hA, -, hS, hd⟩ := todo_is h
  obtain ⟨-, hF⟩ := formE_ok hf
  have ok1 : (C.wset 1).ok := step_ok hS (BT.mt_ok mi (abs_ok hF hA.abs)) (by omega) (by omega)
  rw [hd]
  split
  · exact gr_top (a := 1) (by rw [BT.wset_wset]; exact ok1)
  · exact gr_top ok1
structure DR (t : NL) (p k : Int) (mi : Bool) (c : BT) : Prop where
  step : StepR (atR t p) k ((theB t p.toNat).mt mi) c
  ok : ((theB t p.toNat).mt mi).ok
  new : doC t p k mi = if atR t p then c.wset 1 else c
theorem dr_of {t : NL} {p k : Int} {mi : Bool} (h : todoE t p k mi = 0) : ∃ c, DR t p k mi c := by
  obtain ⟨x, B, C, M, rfl, -, -, hf, hA, -, hS, hd⟩ := todo_is h
  obtain ⟨-, hF⟩ := formE_ok hf
  have e : theB t ((x : Int)).toNat = B := theB_of hA.abs
  exact ⟨C, by rw [e]; exact hS, by rw [e]; exact BT.mt_ok mi (abs_ok hF hA.abs), hd⟩
theorem grp0 {t : NL} {p k : Int} {mi : Bool} (h : todoE t p k mi = 0) : ∃ P0, GrP t 0 P0 ∧ ∀ Y : PT, Y.bt = (doC t p k mi).mt mi → (PT.ins p Y P0).bt = doB t p k mi := by
  obtain ⟨x, B, C, M, rfl, -, -, hf, hA, -, hS, hd⟩ := todo_is h
  obtain ⟨-, hF⟩ := formE_ok hf
  obtain ⟨b0, h0, -, -⟩ := form_abs_at hF hF.pos
  obtain ⟨P0, hP, -⟩ := grp_of h0
  refine ⟨P0, hP, fun Y hY => ?_⟩
  have q := ins_graft (q := x) (Y := Y) hP
  rw [hY] at q
  exact (theG_of q).symm
set_option maxRecDepth 100000 in
set_option maxHeartbeats 8000000 in
theorem rDo_any (base : Option Addr) (b o c : Nat) (t : NL) (p k : Int) (mi : Bool) (w : World) (h : NodesAt w base b o t) :
    Calls Try.prog 8 #[.slice base t.length c, .int .i64 p, .agg #[.int .i64 k, .bool mi]] w fun e w' => ∃ v, e = .returned (.tuple #[v, .int .i64 (doE t p k mi)]) ∧ w'.ownsRow w.heap.size 55 6 v (doL t p k mi).length (ndCells (doL t p k mi)) ∧ Below w.heap.size w w' := by
  have HA : Hid (NodesAt w base b o t) := h
  have B0 : Hid (Below w.heap.size w (w.alloc (.cells #[.int .i64 k, .bool mi] 24))) := below_alloc _ _
  clear h
  by_cases h0 : lookE t p k mi = 0
  · have AS : Hid (∀ W, NodesAt W base b o t → Calls Try.prog 27 #[.slice base t.length c, .int .i64 p, .agg #[.int .i64 k, .bool mi]] W fun e w' => ∃ v, e = .returned (.tuple #[v, .bool (atR t p), .int .i64 0]) ∧ Below W.heap.size W w' ∧ ∃ Q, POAt w' W.heap.size (some Q) v ∧ Q.bt = theB t p.toNat) := fun W hW => by
      have q := asked_any base b o c t p k mi W hW
      rw [if_pos h0, h0] at q
      refine q.mono ?_
      rintro e w' ⟨v, h1, h2, h3⟩
      obtain ⟨Q, hQ, hG⟩ := h3 rfl
      exact ⟨v, h1, h2, Q, hQ, (theB_of (grp_det hG)).symm⟩
    have hk : 1 ≤ k ∧ k ≤ 12 := by obtain ⟨_, _, _, _, _, _, _, q⟩ := look_place h0; exact q
    have CA : Hid (∀ Q : PT, Q.bt = theB t p.toNat → ∀ W B v, POAt W B (some (Q.mt mi)) v → Calls Try.prog 28 #[v, .int .i64 k, .bool (atR t p)] W fun e w' => e = .returned (.bool (canA t p k mi)) ∧ Below W.heap.size W w') := fun Q hQ W B v hv => by
      have q := rcan_any B _ v k (atR t p) W hk hv
      rw [Option.map_some, PT.mt_bt, hQ] at q
      exact q
    cases hc : canA t p k mi
    · have DE : Hid (doE t p k mi = 6) := by
        show _ = _
        have e : todoE t p k mi = 6 := by unfold todoE; rw [if_neg (by simp [h0]), if_pos hc]
        unfold doE; rw [e, if_pos (by decide)]
      have DL : Hid (doL t p k mi = []) := by show _ = _; unfold doL; rw [DE.out, if_neg (by decide)]
      rw [DE.out, DL.out]
      rw [hc] at CA
      clear h0 hk hc DE DL
      generalize atR t p = rt at *
      generalize theB t p.toNat = TB at *
      go_enter Try.func8, Try.ntmps8
      go_wp2_with fail
      refine (AS.out _ (HA.out.below B0.out)).mono ?_
      rintro e w1 ⟨v1, rfl, hb, Q, hQ, eQ⟩
      have B1 : Hid (Below w.heap.size w w1) := B0.out.trans (hb.mono B0.out.size)
      have M1 : Hid (w1.heap[w.heap.size]? = some (.cells #[.int .i64 k, .bool mi] 24 (0, 0))) := (hb.block _ (by simp)).trans (heap_alloc_at _ _ _ rfl)
      have CC : Hid (∀ z, Below w1.heap.size w1 z → z.cell? ⟨w.heap.size, 0, none⟩ = some (.int .i64 k) ∧ z.cell? ⟨w.heap.size, 1, none⟩ = some (.bool mi)) := fun z hz => by
        have q := (hz.block _ (Array.getElem?_eq_some_iff.1 M1.out).1).trans M1.out
        exact ⟨(cell_of q 0 _ rfl).1, (cell_of q 1 _ rfl).1⟩
      obtain ⟨m0, m1⟩ := CC.out w1 (Below.refl _ _)
      have ml : w.heap.size < w1.heap.size := (Array.getElem?_eq_some_iff.1 M1.out).1
      have Q1 : Hid (POAt w1 w.heap.size (some Q) v1) := by obtain ⟨g, e1, e2⟩ := hQ; exact ⟨g, e1, e2.down B0.out.size⟩
      have SI : Hid (∀ W, w.heap.size ≤ W.heap.size → POAt W w.heap.size (some Q) v1 → Calls Try.prog 29 #[v1, .agg #[.int .i64 k, .bool mi]] W fun e w' => ∃ u, e = .returned u ∧ POAt w' w.heap.size (some (Q.mt mi)) u ∧ Below W.heap.size W w') := fun W h1 h2 => side_any _ Q v1 k mi W h1 h2
      have CN : Hid (∀ W v, POAt W w.heap.size (some (Q.mt mi)) v → Calls Try.prog 28 #[v, .int .i64 k, .bool rt] W fun e w' => e = .returned (.bool false) ∧ Below W.heap.size W w') := fun W v hv => CA.out Q eQ W _ v hv
      clear hb hQ eQ AS CA
      go_wp2_with fail
      refine (SI.out _ B1.out.size Q1.out).mono ?_
      rintro e w2 ⟨u2, rfl, hu, hb⟩
      have B2 : Hid (Below w1.heap.size w1 w2) := hb
      have U2 : Hid (POAt w2 w.heap.size (some (Q.mt mi)) u2) := hu
      obtain ⟨m2, m3⟩ := CC.out w2 hb
      have ml2 := Nat.lt_of_lt_of_le ml hb.size
      clear hb hu
      go_wp2_with fail
      refine (CN.out _ _ U2.out).mono ?_
      rintro e w3 ⟨rfl, hb⟩
      have B3 : Hid (Below w1.heap.size w1 w3) := B2.out.trans (hb.mono B2.out.size)
      clear hb
      go_wp2_with fail
      go_ret2
      exact ⟨_, rfl, World.ownsRow_nil _ _ _ _, B1.out.trans (B3.out.mono B1.out.size)⟩
    · have ht : todoE t p k mi = 0 := by unfold todoE; rw [if_neg (by simp [h0]), if_neg (by simp [hc])]
      obtain ⟨C, hD⟩ := dr_of ht
      obtain ⟨P0, hP0, hI⟩ := grp0 ht
      have hgr := new_gr ht
      have DO : Hid (∀ Q : PT, Q.bt = theB t p.toNat → ∀ W B g, B ≤ W.heap.size → PTAt W B (Q.mt mi) g → Calls Try.prog 30 #[.pointer (some ⟨g, 0, none⟩), .int .i64 k] W fun e w' => ∃ (g' : Nat) (Y : PT), e = .returned (.pointer (some ⟨g', 0, none⟩)) ∧ PTAt w' B Y g' ∧ Y.bt = C ∧ Below W.heap.size W w') := fun Q hQ W B g hB hv => rdo_any B (Q.mt mi) C (atR t p) k g W hB (by rw [PT.mt_bt, hQ]; exact hD.step) (by rw [PT.mt_bt, hQ]; exact hD.ok) hv
      have GW : Hid (∀ W, NodesAt W base b o t → Calls Try.prog 34 #[.slice base t.length c, .int .i64 0] W fun e w' => ∃ g : Nat, e = .returned (.pointer (some ⟨g, 0, none⟩)) ∧ PTAt w' W.heap.size P0 g ∧ Below W.heap.size W w') := fun W hW => grow_any base b o c t hP0 W hW
      have GR : Hid (∀ (Y : PT) W B g, Y.bt = doC t p k mi → PTAt W B Y g → Calls Try.prog 32 #[.pointer (some ⟨g, 0, none⟩)] W fun e w' => e = .returned (.bool (decide (1000000 < (doC t p k mi).wt))) ∧ Below W.heap.size W w') := fun Y W B g hY hP => by
        have q := great_any B Y g W hP
        rw [hY, hgr] at q
        exact q
      have HI : Hid (∀ Y : PT, Y.bt = doC t p k mi → (PT.ins p (Y.mt mi) P0).bt = doB t p k mi) := fun Y hY => hI (Y.mt mi) (by rw [PT.mt_bt, hY])
      have NW : Hid (doC t p k mi = if atR t p then C.wset 1 else C) := hD.new
      have DE : Hid (doE t p k mi = if 1000000 < (doC t p k mi).wt then 2 else 0) := by show _ = _; unfold doE; rw [if_neg (by simp [ht])]
      have DL : Hid (doL t p k mi = if doE t p k mi = 0 then (doB t p k mi).lay 0 else []) := rfl
      have SZ : Hid (¬ 1000000 < (doC t p k mi).wt → (doB t p k mi).size ≤ 1000000) := fun hq => by
        have he : doE t p k mi = 0 := by rw [DE.out, if_neg hq]
        obtain ⟨_, _, _, _, _, _, _, _, _, _, _, D⟩ := dof_of he
        have e1 : doL t p k mi = (doB t p k mi).lay 0 := by rw [DL.out, if_pos he]
        have e2 : (doB t p k mi).size = t.length := by rw [← BT.lay_length _ 0, ← e1, D.dol]; exact D.len
        have := (formE_ok D.crn.form).1
        rw [e2]; omega
      rw [hc] at CA
      clear h0 hk hc ht hD hP0 hI hgr
      generalize doE t p k mi = dE at *
      generalize doL t p k mi = dL at *
      generalize doB t p k mi = dB at *
      generalize doC t p k mi = dC at *
      generalize atR t p = rt at *
      generalize theB t p.toNat = TB at *
      cases hg : decide (1000000 < dC.wt)
      · have ng : ¬ 1000000 < dC.wt := by simpa using hg
        have sz := SZ.out ng
        have e1 : dE = 0 := by rw [DE.out, if_neg ng]
        have e2 : dL = dB.lay 0 := by rw [DL.out, if_pos e1]
        have S1 : Hid (dB.size ≤ 1000000) := sz
        rw [e1, e2]
        rw [hg] at GR
        clear hg ng sz e1 e2 DE DL SZ
        cases rt
        · have N1 : Hid (C = dC) := by show _ = _; rw [NW.out]; rfl
          rw [N1.out] at DO
          clear NW N1
          go_enter Try.func8, Try.ntmps8
          go_wp2_with fail
          refine (AS.out _ (HA.out.below B0.out)).mono ?_
          rintro e w1 ⟨v1, rfl, hb, Q, hQ, eQ⟩
          have B1 : Hid (Below w.heap.size w w1) := B0.out.trans (hb.mono B0.out.size)
          have M1 : Hid (w1.heap[w.heap.size]? = some (.cells #[.int .i64 k, .bool mi] 24 (0, 0))) := (hb.block _ (by simp)).trans (heap_alloc_at _ _ _ rfl)
          have CC : Hid (∀ z, Below w1.heap.size w1 z → z.cell? ⟨w.heap.size, 0, none⟩ = some (.int .i64 k) ∧ z.cell? ⟨w.heap.size, 1, none⟩ = some (.bool mi)) := fun z hz => by
            have q := (hz.block _ (Array.getElem?_eq_some_iff.1 M1.out).1).trans M1.out
            exact ⟨(cell_of q 0 _ rfl).1, (cell_of q 1 _ rfl).1⟩
          obtain ⟨m0, m1⟩ := CC.out w1 (Below.refl _ _)
          have ml : w.heap.size < w1.heap.size := (Array.getElem?_eq_some_iff.1 M1.out).1
          have Q1 : Hid (POAt w1 w.heap.size (some Q) v1) := by obtain ⟨g, e1, e2⟩ := hQ; exact ⟨g, e1, e2.down B0.out.size⟩
          have SI : Hid (∀ W, w.heap.size ≤ W.heap.size → POAt W w.heap.size (some Q) v1 → Calls Try.prog 29 #[v1, .agg #[.int .i64 k, .bool mi]] W fun e w' => ∃ u, e = .returned u ∧ POAt w' w.heap.size (some (Q.mt mi)) u ∧ Below W.heap.size W w') := fun W h1 h2 => side_any _ Q v1 k mi W h1 h2
          have CN : Hid (∀ W v, POAt W w.heap.size (some (Q.mt mi)) v → Calls Try.prog 28 #[v, .int .i64 k, .bool false] W fun e w' => e = .returned (.bool true) ∧ Below W.heap.size W w') := fun W v hv => CA.out Q eQ W _ v hv
          have DQ : Hid (∀ W g, w.heap.size ≤ W.heap.size → PTAt W w.heap.size (Q.mt mi) g → Calls Try.prog 30 #[.pointer (some ⟨g, 0, none⟩), .int .i64 k] W fun e w' => ∃ (g' : Nat) (Y : PT), e = .returned (.pointer (some ⟨g', 0, none⟩)) ∧ PTAt w' w.heap.size Y g' ∧ Y.bt = dC ∧ Below W.heap.size W w') := fun W g => DO.out Q eQ W w.heap.size g
          clear hb hQ eQ AS CA DO
          go_wp2_with fail
          refine (SI.out _ B1.out.size Q1.out).mono ?_
          rintro e w2 ⟨u2, rfl, hu, hb⟩
          have B2 : Hid (Below w1.heap.size w1 w2) := hb
          obtain ⟨g2, rfl, hu⟩ := hu
          have U2 : Hid (PTAt w2 w.heap.size (Q.mt mi) g2) := hu
          obtain ⟨m2, m3⟩ := CC.out w2 hb
          have ml2 := Nat.lt_of_lt_of_le ml hb.size
          clear hb hu
          go_wp2_with fail
          refine (CN.out _ _ ⟨g2, rfl, U2.out⟩).mono ?_
          rintro e w3 ⟨rfl, hb⟩
          have B3 : Hid (Below w1.heap.size w1 w3) := B2.out.trans (hb.mono B2.out.size)
          have U3 : Hid (PTAt w3 w.heap.size (Q.mt mi) g2) := U2.out.below hb
          obtain ⟨m4, m5⟩ := CC.out w3 B3.out
          have ml3 := Nat.lt_of_lt_of_le ml B3.out.size
          clear hb
          go_wp2_with fail
          refine (DQ.out _ _ (Nat.le_trans B1.out.size B3.out.size) U3.out).mono ?_
          rintro e w4 ⟨g4, Y, rfl, hT, hY, hb⟩
          have B4 : Hid (Below w1.heap.size w1 w4) := B3.out.trans (hb.mono B3.out.size)
          have T4 : Hid (PTAt w4 w.heap.size Y g4) := hT
          have E4 : Hid (Y.bt = dC) := hY
          obtain ⟨m6, m7⟩ := CC.out w4 B4.out
          have ml4 := Nat.lt_of_lt_of_le ml B4.out.size
          clear hb hT hY
          go_wp2_with fail
          refine (GR.out Y _ _ g4 E4.out T4.out).mono ?_
          rintro e w6 ⟨rfl, hb⟩
          have B6 : Hid (Below w1.heap.size w1 w6) := B4.out.trans (hb.mono B4.out.size)
          have T6 : Hid (PTAt w6 w.heap.size Y g4) := T4.out.below hb
          obtain ⟨n0, n1⟩ := CC.out w6 B6.out
          have ml6 := Nat.lt_of_lt_of_le ml B6.out.size
          have D6 : Hid (Below w1.heap.size w1 w6.drew) := B6.out.drew
          have L6 : Hid (w.heap.size ≤ w6.heap.size) := Nat.le_trans B1.out.size B6.out.size
          have T6' : Hid (PTAt w6.drew w.heap.size Y g4) := T6.out.below (Below.refl _ _).drew
          have IB : Hid ((PT.ins p (Y.mt mi) P0).bt = dB) := HI.out Y E4.out
          clear hb
          go_wp2_with fail
          go_region_held3 (fun w' => w'.cell? ⟨w.heap.size, 0, none⟩ = some (.int .i64 k) ∧ w'.cell? ⟨w.heap.size, 1, none⟩ = some (.bool mi))
            (first | (with_reducible exact X10.out) | (with_reducible exact X9.out) | (with_reducible exact X8.out) | (with_reducible exact X7.out) | go_keep)
            (first | (go_at_call 34; refine (GW.out _ (HA.out.below (B1.out.trans (D6.out.mono B1.out.size)))).mono ?_; rintro e w7 ⟨g7, rfl, hT, hb⟩; have B7 : Hid (Below w1.heap.size w1 w7) := D6.out.trans (hb.mono D6.out.size); have X7 : Hid (w7.cell? ⟨w.heap.size, 0, none⟩ = some (.int .i64 k) ∧ w7.cell? ⟨w.heap.size, 1, none⟩ = some (.bool mi)) := CC.out _ B7.out; have T7 : Hid (PTAt w7 w.heap.size P0 g7) := hT.down L6.out; have Y7 : Hid (PTAt w7 w.heap.size Y g4) := T6'.out.below hb; have L7 : Hid (w.heap.size ≤ w7.heap.size) := Nat.le_trans B1.out.size B7.out.size; clear hb hT) | (go_at_call 29; refine (side_any w.heap.size Y _ k mi _ L7.out ⟨g4, rfl, Y7.out⟩).mono ?_; rintro e w8 ⟨u8, rfl, hu, hb⟩; obtain ⟨g8, rfl, hu⟩ := hu; have B8 : Hid (Below w1.heap.size w1 w8) := B7.out.trans (hb.mono B7.out.size); have X8 : Hid (w8.cell? ⟨w.heap.size, 0, none⟩ = some (.int .i64 k) ∧ w8.cell? ⟨w.heap.size, 1, none⟩ = some (.bool mi)) := CC.out _ B8.out; have T8 : Hid (PTAt w8 w.heap.size P0 g7) := T7.out.below hb; have Y8 : Hid (PTAt w8 w.heap.size (Y.mt mi) g8) := hu; have L8 : Hid (w.heap.size ≤ w8.heap.size) := Nat.le_trans B1.out.size B8.out.size; clear hb hu) | (go_at_call 33; refine (instead_any p w.heap.size (Y.mt mi) g8 P0 g7 _ L8.out T8.out Y8.out).mono ?_; rintro e w9 ⟨g9, rfl, hT, hb⟩; have B9 : Hid (Below w1.heap.size w1 w9) := B8.out.trans (hb.mono B8.out.size); have X9 : Hid (w9.cell? ⟨w.heap.size, 0, none⟩ = some (.int .i64 k) ∧ w9.cell? ⟨w.heap.size, 1, none⟩ = some (.bool mi)) := CC.out _ B9.out; have T9 : Hid (PTAt w9 w.heap.size (PT.ins p (Y.mt mi) P0) g9) := hT; clear hb hT) | (go_at_call 35; refine (lay_any w.heap.size _ g9 w9 w9 _ [] T9.out (World.ownsRow_nil _ _ _ _) (Below.refl _ _) (by rw [IB.out]; simpa using S1.out)).mono ?_; rintro e w10 ⟨v10, U, rfl, hU, hO, hb, -⟩; have O10 : Hid (w10.ownsRow w.heap.size 55 6 v10 (dB.lay 0).length (ndCells (dB.lay 0))) := (by rw [hU, IB.out] at hO; exact owns_down hO (Nat.le_trans B1.out.size B9.out.size)); have B10 : Hid (Below w1.heap.size w1 w10) := B9.out.trans (hb.mono B9.out.size); have X10 : Hid (w10.cell? ⟨w.heap.size, 0, none⟩ = some (.int .i64 k) ∧ w10.cell? ⟨w.heap.size, 1, none⟩ = some (.bool mi)) := CC.out _ B10.out; clear hb hU hO))
          all_goals go_wp2_with fail
          all_goals go_ret2
          all_goals exact ⟨_, rfl, O10.out, B1.out.trans (B10.out.mono B1.out.size)⟩
        · have N1 : Hid (C.wset 1 = dC) := by show _ = _; rw [NW.out]; rfl
          clear NW
          go_enter Try.func8, Try.ntmps8
          go_wp2_with fail
          refine (AS.out _ (HA.out.below B0.out)).mono ?_
          rintro e w1 ⟨v1, rfl, hb, Q, hQ, eQ⟩
          have B1 : Hid (Below w.heap.size w w1) := B0.out.trans (hb.mono B0.out.size)
          have M1 : Hid (w1.heap[w.heap.size]? = some (.cells #[.int .i64 k, .bool mi] 24 (0, 0))) := (hb.block _ (by simp)).trans (heap_alloc_at _ _ _ rfl)
          have CC : Hid (∀ z, Below w1.heap.size w1 z → z.cell? ⟨w.heap.size, 0, none⟩ = some (.int .i64 k) ∧ z.cell? ⟨w.heap.size, 1, none⟩ = some (.bool mi)) := fun z hz => by
            have q := (hz.block _ (Array.getElem?_eq_some_iff.1 M1.out).1).trans M1.out
            exact ⟨(cell_of q 0 _ rfl).1, (cell_of q 1 _ rfl).1⟩
          obtain ⟨m0, m1⟩ := CC.out w1 (Below.refl _ _)
          have ml : w.heap.size < w1.heap.size := (Array.getElem?_eq_some_iff.1 M1.out).1
          have Q1 : Hid (POAt w1 w.heap.size (some Q) v1) := by obtain ⟨g, e1, e2⟩ := hQ; exact ⟨g, e1, e2.down B0.out.size⟩
          have SI : Hid (∀ W, w.heap.size ≤ W.heap.size → POAt W w.heap.size (some Q) v1 → Calls Try.prog 29 #[v1, .agg #[.int .i64 k, .bool mi]] W fun e w' => ∃ u, e = .returned u ∧ POAt w' w.heap.size (some (Q.mt mi)) u ∧ Below W.heap.size W w') := fun W h1 h2 => side_any _ Q v1 k mi W h1 h2
          have CN : Hid (∀ W v, POAt W w.heap.size (some (Q.mt mi)) v → Calls Try.prog 28 #[v, .int .i64 k, .bool true] W fun e w' => e = .returned (.bool true) ∧ Below W.heap.size W w') := fun W v hv => CA.out Q eQ W _ v hv
          have DQ : Hid (∀ W g, w.heap.size ≤ W.heap.size → PTAt W w.heap.size (Q.mt mi) g → Calls Try.prog 30 #[.pointer (some ⟨g, 0, none⟩), .int .i64 k] W fun e w' => ∃ (g' : Nat) (Y : PT), e = .returned (.pointer (some ⟨g', 0, none⟩)) ∧ PTAt w' w.heap.size Y g' ∧ Y.bt = C ∧ Below W.heap.size W w') := fun W g => DO.out Q eQ W w.heap.size g
          clear hb hQ eQ AS CA DO
          go_wp2_with fail
          refine (SI.out _ B1.out.size Q1.out).mono ?_
          rintro e w2 ⟨u2, rfl, hu, hb⟩
          have B2 : Hid (Below w1.heap.size w1 w2) := hb
          obtain ⟨g2, rfl, hu⟩ := hu
          have U2 : Hid (PTAt w2 w.heap.size (Q.mt mi) g2) := hu
          obtain ⟨m2, m3⟩ := CC.out w2 hb
          have ml2 := Nat.lt_of_lt_of_le ml hb.size
          clear hb hu
          go_wp2_with fail
          refine (CN.out _ _ ⟨g2, rfl, U2.out⟩).mono ?_
          rintro e w3 ⟨rfl, hb⟩
          have B3 : Hid (Below w1.heap.size w1 w3) := B2.out.trans (hb.mono B2.out.size)
          have U3 : Hid (PTAt w3 w.heap.size (Q.mt mi) g2) := U2.out.below hb
          obtain ⟨m4, m5⟩ := CC.out w3 B3.out
          have ml3 := Nat.lt_of_lt_of_le ml B3.out.size
          clear hb
          go_wp2_with fail
          refine (DQ.out _ _ (Nat.le_trans B1.out.size B3.out.size) U3.out).mono ?_
          rintro e w4 ⟨g4, Y, rfl, hT, hY, hb⟩
          have B4 : Hid (Below w1.heap.size w1 w4) := B3.out.trans (hb.mono B3.out.size)
          have T4 : Hid (PTAt w4 w.heap.size Y g4) := hT
          have E4 : Hid (Y.bt = C) := hY
          obtain ⟨m6, m7⟩ := CC.out w4 B4.out
          have ml4 := Nat.lt_of_lt_of_le ml B4.out.size
          clear hb hT hY
          go_wp2_with fail
          refine (rwith_any w.heap.size Y g4 1 _ (Nat.le_trans B1.out.size B4.out.size) T4.out).mono ?_
          rintro e w5 ⟨g5, rfl, hT, hb⟩
          have B5 : Hid (Below w1.heap.size w1 w5) := B4.out.trans (hb.mono B4.out.size)
          have T5 : Hid (PTAt w5 w.heap.size (Y.wset 1) g5) := hT
          have E5 : Hid ((Y.wset 1).bt = dC) := by show _ = _; rw [PT.wset_bt, E4.out, N1.out]
          obtain ⟨m8, m9⟩ := CC.out w5 B5.out
          have ml5 := Nat.lt_of_lt_of_le ml B5.out.size
          clear hb hT
          generalize Y.wset 1 = Z at *
          go_wp2_with fail
          refine (GR.out Z _ _ g5 E5.out T5.out).mono ?_
          rintro e w6 ⟨rfl, hb⟩
          have B6 : Hid (Below w1.heap.size w1 w6) := B5.out.trans (hb.mono B5.out.size)
          have T6 : Hid (PTAt w6 w.heap.size Z g5) := T5.out.below hb
          obtain ⟨n0, n1⟩ := CC.out w6 B6.out
          have ml6 := Nat.lt_of_lt_of_le ml B6.out.size
          have D6 : Hid (Below w1.heap.size w1 w6.drew) := B6.out.drew
          have L6 : Hid (w.heap.size ≤ w6.heap.size) := Nat.le_trans B1.out.size B6.out.size
          have T6' : Hid (PTAt w6.drew w.heap.size Z g5) := T6.out.below (Below.refl _ _).drew
          have IB : Hid ((PT.ins p (Z.mt mi) P0).bt = dB) := HI.out Z E5.out
          clear hb
          go_wp2_with fail
          go_region_held3 (fun w' => w'.cell? ⟨w.heap.size, 0, none⟩ = some (.int .i64 k) ∧ w'.cell? ⟨w.heap.size, 1, none⟩ = some (.bool mi))
            (first | (with_reducible exact X10.out) | (with_reducible exact X9.out) | (with_reducible exact X8.out) | (with_reducible exact X7.out) | go_keep)
            (first | (go_at_call 34; refine (GW.out _ (HA.out.below (B1.out.trans (D6.out.mono B1.out.size)))).mono ?_; rintro e w7 ⟨g7, rfl, hT, hb⟩; have B7 : Hid (Below w1.heap.size w1 w7) := D6.out.trans (hb.mono D6.out.size); have X7 : Hid (w7.cell? ⟨w.heap.size, 0, none⟩ = some (.int .i64 k) ∧ w7.cell? ⟨w.heap.size, 1, none⟩ = some (.bool mi)) := CC.out _ B7.out; have T7 : Hid (PTAt w7 w.heap.size P0 g7) := hT.down L6.out; have Y7 : Hid (PTAt w7 w.heap.size Z g5) := T6'.out.below hb; have L7 : Hid (w.heap.size ≤ w7.heap.size) := Nat.le_trans B1.out.size B7.out.size; clear hb hT) | (go_at_call 29; refine (side_any w.heap.size Z _ k mi _ L7.out ⟨g5, rfl, Y7.out⟩).mono ?_; rintro e w8 ⟨u8, rfl, hu, hb⟩; obtain ⟨g8, rfl, hu⟩ := hu; have B8 : Hid (Below w1.heap.size w1 w8) := B7.out.trans (hb.mono B7.out.size); have X8 : Hid (w8.cell? ⟨w.heap.size, 0, none⟩ = some (.int .i64 k) ∧ w8.cell? ⟨w.heap.size, 1, none⟩ = some (.bool mi)) := CC.out _ B8.out; have T8 : Hid (PTAt w8 w.heap.size P0 g7) := T7.out.below hb; have Y8 : Hid (PTAt w8 w.heap.size (Z.mt mi) g8) := hu; have L8 : Hid (w.heap.size ≤ w8.heap.size) := Nat.le_trans B1.out.size B8.out.size; clear hb hu) | (go_at_call 33; refine (instead_any p w.heap.size (Z.mt mi) g8 P0 g7 _ L8.out T8.out Y8.out).mono ?_; rintro e w9 ⟨g9, rfl, hT, hb⟩; have B9 : Hid (Below w1.heap.size w1 w9) := B8.out.trans (hb.mono B8.out.size); have X9 : Hid (w9.cell? ⟨w.heap.size, 0, none⟩ = some (.int .i64 k) ∧ w9.cell? ⟨w.heap.size, 1, none⟩ = some (.bool mi)) := CC.out _ B9.out; have T9 : Hid (PTAt w9 w.heap.size (PT.ins p (Z.mt mi) P0) g9) := hT; clear hb hT) | (go_at_call 35; refine (lay_any w.heap.size _ g9 w9 w9 _ [] T9.out (World.ownsRow_nil _ _ _ _) (Below.refl _ _) (by rw [IB.out]; simpa using S1.out)).mono ?_; rintro e w10 ⟨v10, U, rfl, hU, hO, hb, -⟩; have O10 : Hid (w10.ownsRow w.heap.size 55 6 v10 (dB.lay 0).length (ndCells (dB.lay 0))) := (by rw [hU, IB.out] at hO; exact owns_down hO (Nat.le_trans B1.out.size B9.out.size)); have B10 : Hid (Below w1.heap.size w1 w10) := B9.out.trans (hb.mono B9.out.size); have X10 : Hid (w10.cell? ⟨w.heap.size, 0, none⟩ = some (.int .i64 k) ∧ w10.cell? ⟨w.heap.size, 1, none⟩ = some (.bool mi)) := CC.out _ B10.out; clear hb hU hO))
          all_goals go_wp2_with fail
          all_goals go_ret2
          all_goals exact ⟨_, rfl, O10.out, B1.out.trans (B10.out.mono B1.out.size)⟩
      · have yg : 1000000 < dC.wt := by simpa using hg
        have e1 : dE = 2 := by rw [DE.out, if_pos yg]
        have e2 : dL = [] := by rw [DL.out, e1]; rfl
        rw [e1, e2]
        rw [hg] at GR
        clear hg yg e1 e2 DE DL SZ HI GW
        cases rt
        · have N1 : Hid (C = dC) := by show _ = _; rw [NW.out]; rfl
          rw [N1.out] at DO
          clear NW N1
          go_enter Try.func8, Try.ntmps8
          go_wp2_with fail
          refine (AS.out _ (HA.out.below B0.out)).mono ?_
          rintro e w1 ⟨v1, rfl, hb, Q, hQ, eQ⟩
          have B1 : Hid (Below w.heap.size w w1) := B0.out.trans (hb.mono B0.out.size)
          have M1 : Hid (w1.heap[w.heap.size]? = some (.cells #[.int .i64 k, .bool mi] 24 (0, 0))) := (hb.block _ (by simp)).trans (heap_alloc_at _ _ _ rfl)
          have CC : Hid (∀ z, Below w1.heap.size w1 z → z.cell? ⟨w.heap.size, 0, none⟩ = some (.int .i64 k) ∧ z.cell? ⟨w.heap.size, 1, none⟩ = some (.bool mi)) := fun z hz => by
            have q := (hz.block _ (Array.getElem?_eq_some_iff.1 M1.out).1).trans M1.out
            exact ⟨(cell_of q 0 _ rfl).1, (cell_of q 1 _ rfl).1⟩
          obtain ⟨m0, m1⟩ := CC.out w1 (Below.refl _ _)
          have ml : w.heap.size < w1.heap.size := (Array.getElem?_eq_some_iff.1 M1.out).1
          have Q1 : Hid (POAt w1 w.heap.size (some Q) v1) := by obtain ⟨g, e1, e2⟩ := hQ; exact ⟨g, e1, e2.down B0.out.size⟩
          have SI : Hid (∀ W, w.heap.size ≤ W.heap.size → POAt W w.heap.size (some Q) v1 → Calls Try.prog 29 #[v1, .agg #[.int .i64 k, .bool mi]] W fun e w' => ∃ u, e = .returned u ∧ POAt w' w.heap.size (some (Q.mt mi)) u ∧ Below W.heap.size W w') := fun W h1 h2 => side_any _ Q v1 k mi W h1 h2
          have CN : Hid (∀ W v, POAt W w.heap.size (some (Q.mt mi)) v → Calls Try.prog 28 #[v, .int .i64 k, .bool false] W fun e w' => e = .returned (.bool true) ∧ Below W.heap.size W w') := fun W v hv => CA.out Q eQ W _ v hv
          have DQ : Hid (∀ W g, w.heap.size ≤ W.heap.size → PTAt W w.heap.size (Q.mt mi) g → Calls Try.prog 30 #[.pointer (some ⟨g, 0, none⟩), .int .i64 k] W fun e w' => ∃ (g' : Nat) (Y : PT), e = .returned (.pointer (some ⟨g', 0, none⟩)) ∧ PTAt w' w.heap.size Y g' ∧ Y.bt = dC ∧ Below W.heap.size W w') := fun W g => DO.out Q eQ W w.heap.size g
          clear hb hQ eQ AS CA DO
          go_wp2_with fail
          refine (SI.out _ B1.out.size Q1.out).mono ?_
          rintro e w2 ⟨u2, rfl, hu, hb⟩
          have B2 : Hid (Below w1.heap.size w1 w2) := hb
          obtain ⟨g2, rfl, hu⟩ := hu
          have U2 : Hid (PTAt w2 w.heap.size (Q.mt mi) g2) := hu
          obtain ⟨m2, m3⟩ := CC.out w2 hb
          have ml2 := Nat.lt_of_lt_of_le ml hb.size
          clear hb hu
          go_wp2_with fail
          refine (CN.out _ _ ⟨g2, rfl, U2.out⟩).mono ?_
          rintro e w3 ⟨rfl, hb⟩
          have B3 : Hid (Below w1.heap.size w1 w3) := B2.out.trans (hb.mono B2.out.size)
          have U3 : Hid (PTAt w3 w.heap.size (Q.mt mi) g2) := U2.out.below hb
          obtain ⟨m4, m5⟩ := CC.out w3 B3.out
          have ml3 := Nat.lt_of_lt_of_le ml B3.out.size
          clear hb
          go_wp2_with fail
          refine (DQ.out _ _ (Nat.le_trans B1.out.size B3.out.size) U3.out).mono ?_
          rintro e w4 ⟨g4, Y, rfl, hT, hY, hb⟩
          have B4 : Hid (Below w1.heap.size w1 w4) := B3.out.trans (hb.mono B3.out.size)
          have T4 : Hid (PTAt w4 w.heap.size Y g4) := hT
          have E4 : Hid (Y.bt = dC) := hY
          obtain ⟨m6, m7⟩ := CC.out w4 B4.out
          have ml4 := Nat.lt_of_lt_of_le ml B4.out.size
          clear hb hT hY
          go_wp2_with fail
          refine (GR.out Y _ _ g4 E4.out T4.out).mono ?_
          rintro e w6 ⟨rfl, hb⟩
          have B6 : Hid (Below w1.heap.size w1 w6) := B4.out.trans (hb.mono B4.out.size)
          clear hb
          go_wp2_with fail
          go_ret2
          exact ⟨_, rfl, World.ownsRow_nil _ _ _ _, B1.out.trans (B6.out.mono B1.out.size)⟩
        · have N1 : Hid (C.wset 1 = dC) := by show _ = _; rw [NW.out]; rfl
          clear NW
          go_enter Try.func8, Try.ntmps8
          go_wp2_with fail
          refine (AS.out _ (HA.out.below B0.out)).mono ?_
          rintro e w1 ⟨v1, rfl, hb, Q, hQ, eQ⟩
          have B1 : Hid (Below w.heap.size w w1) := B0.out.trans (hb.mono B0.out.size)
          have M1 : Hid (w1.heap[w.heap.size]? = some (.cells #[.int .i64 k, .bool mi] 24 (0, 0))) := (hb.block _ (by simp)).trans (heap_alloc_at _ _ _ rfl)
          have CC : Hid (∀ z, Below w1.heap.size w1 z → z.cell? ⟨w.heap.size, 0, none⟩ = some (.int .i64 k) ∧ z.cell? ⟨w.heap.size, 1, none⟩ = some (.bool mi)) := fun z hz => by
            have q := (hz.block _ (Array.getElem?_eq_some_iff.1 M1.out).1).trans M1.out
            exact ⟨(cell_of q 0 _ rfl).1, (cell_of q 1 _ rfl).1⟩
          obtain ⟨m0, m1⟩ := CC.out w1 (Below.refl _ _)
          have ml : w.heap.size < w1.heap.size := (Array.getElem?_eq_some_iff.1 M1.out).1
          have Q1 : Hid (POAt w1 w.heap.size (some Q) v1) := by obtain ⟨g, e1, e2⟩ := hQ; exact ⟨g, e1, e2.down B0.out.size⟩
          have SI : Hid (∀ W, w.heap.size ≤ W.heap.size → POAt W w.heap.size (some Q) v1 → Calls Try.prog 29 #[v1, .agg #[.int .i64 k, .bool mi]] W fun e w' => ∃ u, e = .returned u ∧ POAt w' w.heap.size (some (Q.mt mi)) u ∧ Below W.heap.size W w') := fun W h1 h2 => side_any _ Q v1 k mi W h1 h2
          have CN : Hid (∀ W v, POAt W w.heap.size (some (Q.mt mi)) v → Calls Try.prog 28 #[v, .int .i64 k, .bool true] W fun e w' => e = .returned (.bool true) ∧ Below W.heap.size W w') := fun W v hv => CA.out Q eQ W _ v hv
          have DQ : Hid (∀ W g, w.heap.size ≤ W.heap.size → PTAt W w.heap.size (Q.mt mi) g → Calls Try.prog 30 #[.pointer (some ⟨g, 0, none⟩), .int .i64 k] W fun e w' => ∃ (g' : Nat) (Y : PT), e = .returned (.pointer (some ⟨g', 0, none⟩)) ∧ PTAt w' w.heap.size Y g' ∧ Y.bt = C ∧ Below W.heap.size W w') := fun W g => DO.out Q eQ W w.heap.size g
          clear hb hQ eQ AS CA DO
          go_wp2_with fail
          refine (SI.out _ B1.out.size Q1.out).mono ?_
          rintro e w2 ⟨u2, rfl, hu, hb⟩
          have B2 : Hid (Below w1.heap.size w1 w2) := hb
          obtain ⟨g2, rfl, hu⟩ := hu
          have U2 : Hid (PTAt w2 w.heap.size (Q.mt mi) g2) := hu
          obtain ⟨m2, m3⟩ := CC.out w2 hb
          have ml2 := Nat.lt_of_lt_of_le ml hb.size
          clear hb hu
          go_wp2_with fail
          refine (CN.out _ _ ⟨g2, rfl, U2.out⟩).mono ?_
          rintro e w3 ⟨rfl, hb⟩
          have B3 : Hid (Below w1.heap.size w1 w3) := B2.out.trans (hb.mono B2.out.size)
          have U3 : Hid (PTAt w3 w.heap.size (Q.mt mi) g2) := U2.out.below hb
          obtain ⟨m4, m5⟩ := CC.out w3 B3.out
          have ml3 := Nat.lt_of_lt_of_le ml B3.out.size
          clear hb
          go_wp2_with fail
          refine (DQ.out _ _ (Nat.le_trans B1.out.size B3.out.size) U3.out).mono ?_
          rintro e w4 ⟨g4, Y, rfl, hT, hY, hb⟩
          have B4 : Hid (Below w1.heap.size w1 w4) := B3.out.trans (hb.mono B3.out.size)
          have T4 : Hid (PTAt w4 w.heap.size Y g4) := hT
          have E4 : Hid (Y.bt = C) := hY
          obtain ⟨m6, m7⟩ := CC.out w4 B4.out
          have ml4 := Nat.lt_of_lt_of_le ml B4.out.size
          clear hb hT hY
          go_wp2_with fail
          refine (rwith_any w.heap.size Y g4 1 _ (Nat.le_trans B1.out.size B4.out.size) T4.out).mono ?_
          rintro e w5 ⟨g5, rfl, hT, hb⟩
          have B5 : Hid (Below w1.heap.size w1 w5) := B4.out.trans (hb.mono B4.out.size)
          have T5 : Hid (PTAt w5 w.heap.size (Y.wset 1) g5) := hT
          have E5 : Hid ((Y.wset 1).bt = dC) := by show _ = _; rw [PT.wset_bt, E4.out, N1.out]
          obtain ⟨m8, m9⟩ := CC.out w5 B5.out
          have ml5 := Nat.lt_of_lt_of_le ml B5.out.size
          clear hb hT
          generalize Y.wset 1 = Z at *
          go_wp2_with fail
          refine (GR.out Z _ _ g5 E5.out T5.out).mono ?_
          rintro e w6 ⟨rfl, hb⟩
          have B6 : Hid (Below w1.heap.size w1 w6) := B5.out.trans (hb.mono B5.out.size)
          clear hb
          go_wp2_with fail
          go_ret2
          exact ⟨_, rfl, World.ownsRow_nil _ _ _ _, B1.out.trans (B6.out.mono B1.out.size)⟩
  · have AS : Hid (∀ W, NodesAt W base b o t → Calls Try.prog 27 #[.slice base t.length c, .int .i64 p, .agg #[.int .i64 k, .bool mi]] W fun e w' => ∃ v, e = .returned (.tuple #[v, .bool false, .int .i64 (lookE t p k mi)]) ∧ Below W.heap.size W w') := fun W hW => by
      have q := asked_any base b o c t p k mi W hW
      rw [if_neg h0] at q
      refine q.mono ?_
      rintro e w' ⟨v, h1, h2, h3⟩
      exact ⟨v, h1, h2⟩
    have d0 : (lookE t p k mi != 0) = true := by simp [h0]
    have DE : Hid (doE t p k mi = lookE t p k mi) := by
      show _ = _
      have e : todoE t p k mi = lookE t p k mi := by unfold todoE; rw [if_pos h0]
      unfold doE; rw [e, if_pos h0]
    have DL : Hid (doL t p k mi = []) := by show _ = _; unfold doL; rw [DE.out, if_neg h0]
    rw [DE.out, DL.out]
    clear h0 DE DL
    generalize lookE t p k mi = E at *
    go_enter Try.func8, Try.ntmps8
    go_wp2_with fail
    refine (AS.out _ (HA.out.below B0.out)).mono ?_
    rintro e w1 ⟨v1, rfl, hb⟩
    have B1 : Hid (Below w.heap.size w w1) := B0.out.trans (hb.mono B0.out.size)
    clear hb
    go_wp2_with fail
    go_ret2
    exact ⟨_, rfl, World.ownsRow_nil _ _ _ _, B1.out⟩
end Go.Proofs.Ythlhbajaogonnaa

namespace Go.Proofs.Ythlhbajaogonnaa

open Go.RowKit

attribute [local go_sem ↓] Go.wp_at_zero Go.wp_at_succ

set_option maxRecDepth 100000 in
set_option maxHeartbeats 2000000 in
theorem rTouched_any (base : Option Addr) (b o c : Nat) (t : NL) (p k : Int) (mi : Bool) (w : World) (h : NodesAt w base b o t) :
    Calls Try.prog 10 #[.slice base t.length c, .int .i64 p, .agg #[.int .i64 k, .bool mi]] w fun e w' => ∃ v, e = .returned (.tuple #[v, .int .i64 (todoE t p k mi)]) ∧ IntR w w' v (touL t p k mi) := by
  by_cases ht : todoE t p k mi = 0
  · have q := rTou_go base b o c t p k mi w h ht
    rw [ht]
    have e : touL t p k mi = touI t p k mi := by unfold touL; rw [if_pos ht]
    rw [e]
    exact q
  · have HA : Hid (NodesAt w base b o t) := h
    have B0 : Hid (Below w.heap.size w (w.alloc (.cells #[.int .i64 k, .bool mi] 24))) := below_alloc _ _
    have DL : Hid (touL t p k mi = []) := by show _ = _; unfold touL; rw [if_neg ht]
    rw [DL.out]
    clear h
    by_cases h0 : lookE t p k mi = 0
    · have hc : canA t p k mi = false := by
        cases hc : canA t p k mi
        · rfl
        · exact absurd (by unfold todoE; rw [if_neg (by simp [h0]), if_neg (by simp [hc])]) ht
      have TE : Hid (todoE t p k mi = 6) := by show _ = _; unfold todoE; rw [if_neg (by simp [h0]), if_pos hc]
      rw [TE.out]
      have AS : Hid (∀ W, NodesAt W base b o t → Calls Try.prog 27 #[.slice base t.length c, .int .i64 p, .agg #[.int .i64 k, .bool mi]] W fun e w' => ∃ v, e = .returned (.tuple #[v, .bool (atR t p), .int .i64 0]) ∧ Below W.heap.size W w' ∧ ∃ Q, POAt w' W.heap.size (some Q) v ∧ Q.bt = theB t p.toNat) := fun W hW => by
        have q := asked_any base b o c t p k mi W hW
        rw [if_pos h0, h0] at q
        refine q.mono ?_
        rintro e w' ⟨v, h1, h2, h3⟩
        obtain ⟨Q, hQ, hG⟩ := h3 rfl
        exact ⟨v, h1, h2, Q, hQ, (theB_of (grp_det hG)).symm⟩
      have hk : 1 ≤ k ∧ k ≤ 12 := by obtain ⟨_, _, _, _, _, _, _, q⟩ := look_place h0; exact q
      have CA : Hid (∀ Q : PT, Q.bt = theB t p.toNat → ∀ W B v, POAt W B (some (Q.mt mi)) v → Calls Try.prog 28 #[v, .int .i64 k, .bool (atR t p)] W fun e w' => e = .returned (.bool false) ∧ Below W.heap.size W w') := fun Q hQ W B v hv => by
        have q := rcan_any B _ v k (atR t p) W hk hv
        rw [Option.map_some, PT.mt_bt, hQ] at q
        rw [← hc]
        exact q
      clear h0 hk hc ht DL TE
      generalize atR t p = rt at *
      generalize theB t p.toNat = TB at *
      go_enter Try.func10, Try.ntmps10
      go_wp2_with fail
      refine (AS.out _ (HA.out.below B0.out)).mono ?_
      rintro e w1 ⟨v1, rfl, hb, Q, hQ, eQ⟩
      have B1 : Hid (Below w.heap.size w w1) := B0.out.trans (hb.mono B0.out.size)
      have M1 : Hid (w1.heap[w.heap.size]? = some (.cells #[.int .i64 k, .bool mi] 24 (0, 0))) := (hb.block _ (by simp)).trans (heap_alloc_at _ _ _ rfl)
      have CC : Hid (∀ z, Below w1.heap.size w1 z → z.cell? ⟨w.heap.size, 0, none⟩ = some (.int .i64 k) ∧ z.cell? ⟨w.heap.size, 1, none⟩ = some (.bool mi)) := fun z hz => by
        have q := (hz.block _ (Array.getElem?_eq_some_iff.1 M1.out).1).trans M1.out
        exact ⟨(cell_of q 0 _ rfl).1, (cell_of q 1 _ rfl).1⟩
      obtain ⟨m0, m1⟩ := CC.out w1 (Below.refl _ _)
      have ml : w.heap.size < w1.heap.size := (Array.getElem?_eq_some_iff.1 M1.out).1
      have Q1 : Hid (POAt w1 w.heap.size (some Q) v1) := by obtain ⟨g, e1, e2⟩ := hQ; exact ⟨g, e1, e2.down B0.out.size⟩
      have SI : Hid (∀ W, w.heap.size ≤ W.heap.size → POAt W w.heap.size (some Q) v1 → Calls Try.prog 29 #[v1, .agg #[.int .i64 k, .bool mi]] W fun e w' => ∃ u, e = .returned u ∧ POAt w' w.heap.size (some (Q.mt mi)) u ∧ Below W.heap.size W w') := fun W h1 h2 => side_any _ Q v1 k mi W h1 h2
      have CN : Hid (∀ W v, POAt W w.heap.size (some (Q.mt mi)) v → Calls Try.prog 28 #[v, .int .i64 k, .bool rt] W fun e w' => e = .returned (.bool false) ∧ Below W.heap.size W w') := fun W v hv => CA.out Q eQ W _ v hv
      clear hb hQ eQ AS CA
      go_wp2_with fail
      refine (SI.out _ B1.out.size Q1.out).mono ?_
      rintro e w2 ⟨u2, rfl, hu, hb⟩
      have B2 : Hid (Below w1.heap.size w1 w2) := hb
      have U2 : Hid (POAt w2 w.heap.size (some (Q.mt mi)) u2) := hu
      obtain ⟨m2, m3⟩ := CC.out w2 hb
      have ml2 := Nat.lt_of_lt_of_le ml hb.size
      clear hb hu
      go_wp2_with fail
      refine (CN.out _ _ U2.out).mono ?_
      rintro e w3 ⟨rfl, hb⟩
      have B3 : Hid (Below w1.heap.size w1 w3) := B2.out.trans (hb.mono B2.out.size)
      clear hb
      go_wp2_with fail
      go_ret2
      exact ⟨_, rfl, IntR.nil (B1.out.trans (B3.out.mono B1.out.size))⟩
    · have AS : Hid (∀ W, NodesAt W base b o t → Calls Try.prog 27 #[.slice base t.length c, .int .i64 p, .agg #[.int .i64 k, .bool mi]] W fun e w' => ∃ v, e = .returned (.tuple #[v, .bool false, .int .i64 (lookE t p k mi)]) ∧ Below W.heap.size W w') := fun W hW => by
        have q := asked_any base b o c t p k mi W hW
        rw [if_neg h0] at q
        refine q.mono ?_
        rintro e w' ⟨v, h1, h2, h3⟩
        exact ⟨v, h1, h2⟩
      have d0 : (lookE t p k mi != 0) = true := by simp [h0]
      have TE : Hid (todoE t p k mi = lookE t p k mi) := by show _ = _; unfold todoE; rw [if_pos h0]
      rw [TE.out]
      clear h0 ht TE DL
      generalize lookE t p k mi = E at *
      go_enter Try.func10, Try.ntmps10
      go_wp2_with fail
      refine (AS.out _ (HA.out.below B0.out)).mono ?_
      rintro e w1 ⟨v1, rfl, hb⟩
      have B1 : Hid (Below w.heap.size w w1) := B0.out.trans (hb.mono B0.out.size)
      clear hb
      go_wp2_with fail
      go_ret2
      exact ⟨_, rfl, IntR.nil B1.out⟩
/-- A row of numbers that is read. -/
structure ItAt (w : World) (a : Option Addr) (g : Nat) (V : List Int) : Prop where
  base : 0 < V.length → a = some ⟨g, 0, none⟩ ∧ g < w.heap.size
  cells : ∀ j, j < V.length → w.cell? ⟨g, j, none⟩ = some (.int .i64 (V.getD j 0))
theorem ItAt.below {w y : World} {a : Option Addr} {g : Nat} {V : List Int} (h : ItAt w a g V) (hb : Below w.heap.size w y) : ItAt y a g V :=
  ⟨fun hn => ⟨(h.base hn).1, Nat.lt_of_lt_of_le (h.base hn).2 hb.size⟩, fun j hj => (hb.cell (p := ⟨g, j, none⟩) (h.base (by omega)).2).trans (h.cells j hj)⟩
theorem itAt_of {x : World} {B : Nat} {v : Value} {V : List Int} (h : x.ownsRow B 3 1 v V.length (V.map (Value.int .i64))) : ∃ (a : Option Addr) (c g : Nat), v = .slice a V.length c ∧ ItAt x a g V := by
  by_cases hn : 0 < V.length
  · obtain ⟨g, cap, rfl, -, hg, -, -, hc, -⟩ := owns_some h hn
    exact ⟨_, cap, g, rfl, fun _ => ⟨rfl, hg⟩, fun j hj => (hc _ (by omega)).trans (by simp [List.getD_eq_getElem?_getD, List.getElem?_eq_getElem hj])⟩
  · rcases h.2 with ⟨rfl, e0⟩ | ⟨g, cap, cur, rfl, _⟩
    · exact ⟨none, 0, 0, by rw [e0], fun q => absurd q hn, fun j hj => by omega⟩
    · exact ⟨_, cap, g, rfl, fun q => absurd q hn, fun j hj => by omega⟩
set_option maxRecDepth 100000 in
set_option maxHeartbeats 1000000 in
theorem ints_same (x y : Option Addr) (ga gb ca cb : Nat) (V : List Int) (w : World) (h : ItAt w x ga V) (k : ItAt w y gb V) (hn : V.length ≤ 3000000) :
    Calls Try.prog 20 #[.slice x V.length ca, .slice y V.length cb] w fun e w' => e = .returned (.bool true) ∧ Below w.heap.size w w' := by
  have H1 : Hid (ItAt w x ga V) := h
  have H2 : Hid (ItAt w y gb V) := k
  clear h k
  go_enter Try.func20, Try.ntmps20
  go_wp2_with fail
  go_loopw [5] (fun i wr => ∃ j : Nat, j ≤ V.length ∧ i = .int .i64 j ∧ Below w.heap.size w wr) (fun i _ => V.length - (intOf i).toNat)
  case atStart => exact ⟨0, Nat.zero_le _, rfl, Below.refl _ _⟩
  case round =>
    obtain ⟨j, hj, rfl, hnx⟩ := hrel
    by_cases hlt : j < V.length
    · obtain ⟨rfl, l1⟩ := (H1.out.below hnx).base (by omega)
      obtain ⟨rfl, l2⟩ := (H2.out.below hnx).base (by omega)
      have x0 := (H1.out.below hnx).cells j hlt
      have y0 := (H2.out.below hnx).cells j hlt
      have j0 : (0 : Int) ≤ (j : Int) := Int.natCast_nonneg _
      have j1 : (j : Int) < (V.length : Int) := by omega
      have HX : Hid (Below w.heap.size w wr) := hnx
      clear hnx
      generalize V.getD j 0 = m at *
      go_wp2_with fail
      go_quiet (fail)
      go_wp2_with fail
      exact ⟨⟨j + 1, by omega, by go_num, below_drewN HX.out _⟩, by simp [intOf]; omega⟩
    · have nj : ¬ ((j : Int) < (V.length : Int)) := by omega
      go_wp2_with fail
      go_ret
      exact ⟨rfl, hnx⟩
theorem nlEq_sf (a : NL) : nlEq a a = true := by unfold nlEq; simp
theorem sameT_same (ba bb : Option Addr) (ga oa ca gb ob cb : Nat) (a : NL) (w : World) (ha : NodesAt w ba ga oa a) (hb : NodesAt w bb gb ob a) :
    Calls Try.prog 15 #[.slice ba a.length ca, .slice bb a.length cb] w fun e w' => e = .returned (.bool true) ∧ Below w.heap.size w w' := by
  have q := sameT_any ba bb ga oa ca gb ob cb a a w ha hb
  rw [nlEq_sf] at q
  exact q
theorem hereL_len (t : NL) (p : Int) : (hereL t p).length ≤ 3000000 := by
  unfold hereL
  have := mvsA_len t p
  split
  · omega
  · simp
theorem outI_len (k x l L R lr rl rr rll rlr : Int) : (outI k x l L R lr rl rr rll rlr).length ≤ 5 := by
  unfold outI
  by_cases h1 : k = 1
  · rw [if_pos h1]; exact Nat.le_of_ble_eq_true rfl
  rw [if_neg h1]
  by_cases h2 : k = 2
  · rw [if_pos h2]; exact Nat.le_of_ble_eq_true rfl
  rw [if_neg h2]
  by_cases h3 : k = 3
  · rw [if_pos h3]; exact Nat.le_of_ble_eq_true rfl
  rw [if_neg h3]
  by_cases h4 : k = 4
  · rw [if_pos h4]; exact Nat.le_of_ble_eq_true rfl
  rw [if_neg h4]
  by_cases h5 : k = 5
  · rw [if_pos h5]; exact Nat.le_of_ble_eq_true rfl
  rw [if_neg h5]
  by_cases h6 : k = 6
  · rw [if_pos h6]; exact Nat.le_of_ble_eq_true rfl
  rw [if_neg h6]
  by_cases h7 : k = 7
  · rw [if_pos h7]; exact Nat.le_of_ble_eq_true rfl
  rw [if_neg h7]
  by_cases h8 : k = 8
  · rw [if_pos h8]; exact Nat.le_of_ble_eq_true rfl
  rw [if_neg h8]
  by_cases h9 : k = 9
  · rw [if_pos h9]; exact Nat.le_of_ble_eq_true rfl
  rw [if_neg h9]
  by_cases h10 : k = 10
  · rw [if_pos h10]; exact Nat.le_of_ble_eq_true rfl
  rw [if_neg h10]
  by_cases h11 : k = 11
  · rw [if_pos h11]; exact Nat.le_of_ble_eq_true rfl
  rw [if_neg h11]
  exact Nat.le_of_ble_eq_true rfl
theorem touL_len (t : NL) (p k : Int) (mi : Bool) : (touL t p k mi).length ≤ 3000000 := by
  unfold touL
  split
  · exact Nat.le_trans (outI_len _ _ _ _ _ _ _ _ _ _) (by omega)
  · simp
set_option maxRecDepth 100000 in
set_option maxHeartbeats 8000000 in
theorem stepsDo_any (base : Option Addr) (b o c : Nat) (t : NL) (p k : Int) (mi : Bool) (w : World) (h : NodesAt w base b o t) :
    Calls Try.prog 3 #[.slice base t.length c, .int .i64 p, .agg #[.int .i64 k, .bool mi]] w fun e w' => e = .returned (.bool true) ∧ Below w.heap.size w w' := by
  have HA : Hid (∀ z, Below w.heap.size w z → NodesAt z base b o t) := fun z hz => h.below hz
  have B0 : Hid (Below w.heap.size w (w.alloc (.cells #[.int .i64 k, .bool mi] 24))) := below_alloc _ _
  have AW : Hid (∀ W, Calls Try.prog 6 #[] W fun e w' => e = .returned (.bool true) ∧ Below W.heap.size W w') := fun W => awake_any W
  have TV : Hid (∀ W, Calls Try.prog 12 #[.agg #[.int .i64 k, .bool mi]] W fun e w' => e = .returned (.agg #[.int .i64 k, .bool mi]) ∧ Below W.heap.size W w') := fun W => to_any k mi W
  have RC : Hid (∀ W, NodesAt W base b o t → Calls Try.prog 7 #[.slice base t.length c, .int .i64 p, .agg #[.int .i64 k, .bool mi]] W fun e w' => e = .returned (.tuple #[.bool (if lookE t p k mi = 0 then canA t p k mi else false), .int .i64 (lookE t p k mi)]) ∧ Below W.heap.size W w') := fun W hW => rCan_any base b o c t p k mi W hW
  have PC : Hid (∀ W, NodesAt W base b o t → Calls Try.prog 11 #[.slice base t.length c, .int .i64 p, .agg #[.int .i64 k, .bool mi]] W fun e w' => e = .returned (.tuple #[.bool (if lookE t p k mi = 0 then canA t p k mi else false), .int .i64 (lookE t p k mi)]) ∧ Below W.heap.size W w') := fun W hW => Can_any base b o c t p k mi W hW
  have RD : Hid (∀ W, NodesAt W base b o t → Calls Try.prog 8 #[.slice base t.length c, .int .i64 p, .agg #[.int .i64 k, .bool mi]] W fun e w' => ∃ v, e = .returned (.tuple #[v, .int .i64 (doE t p k mi)]) ∧ w'.ownsRow W.heap.size 55 6 v (doL t p k mi).length (ndCells (doL t p k mi)) ∧ Below W.heap.size W w') := fun W hW => rDo_any base b o c t p k mi W hW
  have PD : Hid (∀ W, NodesAt W base b o t → Calls Try.prog 14 #[.slice base t.length c, .int .i64 p, .agg #[.int .i64 k, .bool mi]] W fun e w' => ∃ v, e = .returned (.tuple #[v, .int .i64 (doE t p k mi)]) ∧ w'.ownsRow W.heap.size 55 6 v (doL t p k mi).length (ndCells (doL t p k mi)) ∧ Below W.heap.size W w') := fun W hW => Do_any base b o c t p k mi W hW
  have RH : Hid (∀ W, NodesAt W base b o t → Calls Try.prog 9 #[.slice base t.length c, .int .i64 p] W fun e w' => ∃ v, e = .returned (.tuple #[v, .int .i64 (hereE t p)]) ∧ RvRow W w' v (hereL t p)) := fun W hW => rHere_any base b o c t p W hW
  have PH : Hid (∀ W, NodesAt W base b o t → Calls Try.prog 16 #[.slice base t.length c, .int .i64 p] W fun e w' => ∃ v, e = .returned (.tuple #[v, .int .i64 (hereE t p)]) ∧ MvRow W w' v (hereL t p)) := fun W hW => Here_any base b o c t p W hW
  have RT : Hid (∀ W, NodesAt W base b o t → Calls Try.prog 10 #[.slice base t.length c, .int .i64 p, .agg #[.int .i64 k, .bool mi]] W fun e w' => ∃ v, e = .returned (.tuple #[v, .int .i64 (todoE t p k mi)]) ∧ IntR W w' v (touL t p k mi)) := fun W hW => rTouched_any base b o c t p k mi W hW
  have PO : Hid (∀ W, NodesAt W base b o t → Calls Try.prog 19 #[.slice base t.length c, .int .i64 p, .agg #[.int .i64 k, .bool mi]] W fun e w' => ∃ v, e = .returned (.tuple #[v, .int .i64 (todoE t p k mi)]) ∧ IntR W w' v (touL t p k mi)) := fun W hW => Touched_any base b o c t p k mi W hW
  have PL : Hid (∀ (x : Int) W, Calls Try.prog 13 #[.int .i64 x, .int .i64 x] W fun r w' => r = .returned (.bool true) ∧ Below W.heap.size W w') := fun x W => plain_same x W
  have LH : Hid ((hereL t p).length ≤ 3000000) := hereL_len t p
  have LT : Hid ((touL t p k mi).length ≤ 3000000) := touL_len t p k mi
  clear h
  generalize (if lookE t p k mi = 0 then canA t p k mi else false) = cb at *
  generalize lookE t p k mi = e1 at *
  generalize doL t p k mi = U at *
  generalize doE t p k mi = e2 at *
  generalize hereL t p = V at *
  generalize hereE t p = e3 at *
  generalize touL t p k mi = I at *
  generalize todoE t p k mi = e4 at *
  have nb : (cb != cb) = false := by simp
  go_enter Try.func3, Try.ntmps3
  go_wp2_with fail
  refine (AW.out _).mono ?_
  rintro e w1 ⟨rfl, hb⟩
  have B1 : Hid (Below w.heap.size w w1) := B0.out.trans (hb.mono B0.out.size)
  have M1 : Hid (w1.heap[w.heap.size]? = some (.cells #[.int .i64 k, .bool mi] 24 (0, 0))) := (hb.block _ (by simp)).trans (heap_alloc_at _ _ _ rfl)
  have CC : Hid (∀ z, Below w1.heap.size w1 z → w.heap.size < z.heap.size ∧ z.cell? ⟨w.heap.size, 0, none⟩ = some (.int .i64 k) ∧ z.cell? ⟨w.heap.size, 1, none⟩ = some (.bool mi)) := fun z hz => by
    have q := (hz.block _ (Array.getElem?_eq_some_iff.1 M1.out).1).trans M1.out
    exact ⟨(Array.getElem?_eq_some_iff.1 q).1, (cell_of q 0 _ rfl).1, (cell_of q 1 _ rfl).1⟩
  have HB : Hid (∀ z, Below w1.heap.size w1 z → NodesAt z base b o t) := fun z hz => HA.out z (B1.out.trans (hz.mono B1.out.size))
  obtain ⟨ml1, m1, n1⟩ := CC.out w1 (Below.refl _ _)
  have C1 : Hid (Below w1.heap.size w1 w1) := Below.refl _ _
  clear hb
  go_wp2_with fail
  refine (RC.out _ (HB.out _ C1.out)).mono ?_
  rintro e w2 ⟨rfl, hb⟩
  have C2 : Hid (Below w1.heap.size w1 w2) := C1.out.trans (hb.mono C1.out.size)
  obtain ⟨ml2, m2, n2⟩ := CC.out w2 C2.out
  clear hb
  go_wp2_with fail
  refine (RD.out _ (HB.out _ C2.out)).mono ?_
  rintro e w3 ⟨v, rfl, ho, hb⟩
  obtain ⟨aRU, cRU, gRU, rfl, -, -, hn⟩ := nodes_of_owns ho
  have RU_3 : Hid (NodesAt w3 aRU gRU 0 U) := hn
  have C3 : Hid (Below w1.heap.size w1 w3) := C2.out.trans (hb.mono C2.out.size)
  obtain ⟨ml3, m3, n3⟩ := CC.out w3 C3.out
  clear hb ho hn
  go_wp2_with fail
  refine (RH.out _ (HB.out _ C3.out)).mono ?_
  rintro e w4 ⟨v, rfl, hr⟩
  obtain ⟨aRV, cRV, gRV, rfl, hn⟩ := mvAt_of hr.own
  have RV_4 : Hid (MvAt w4 24 aRV gRV V) := hn
  have C4 : Hid (Below w1.heap.size w1 w4) := C3.out.trans (hr.below.mono C3.out.size)
  have RU_4 : Hid (NodesAt w4 aRU gRU 0 U) := RU_3.out.below hr.below
  obtain ⟨ml4, m4, n4⟩ := CC.out w4 C4.out
  clear hr hn
  go_wp2_with fail
  refine (RT.out _ (HB.out _ C4.out)).mono ?_
  rintro e w5 ⟨v, rfl, hr⟩
  obtain ⟨aRI, cRI, gRI, rfl, hn⟩ := itAt_of hr.own
  have RI_5 : Hid (ItAt w5 aRI gRI I) := hn
  have C5 : Hid (Below w1.heap.size w1 w5) := C4.out.trans (hr.below.mono C4.out.size)
  have RU_5 : Hid (NodesAt w5 aRU gRU 0 U) := RU_4.out.below hr.below
  have RV_5 : Hid (MvAt w5 24 aRV gRV V) := RV_4.out.below hr.below
  obtain ⟨ml5, m5, n5⟩ := CC.out w5 C5.out
  clear hr hn
  go_wp2_with fail
  refine (TV.out _).mono ?_
  rintro e w6 ⟨rfl, hb⟩
  have C6 : Hid (Below w1.heap.size w1 w6) := C5.out.trans (hb.mono C5.out.size)
  have RU_6 : Hid (NodesAt w6 aRU gRU 0 U) := RU_5.out.below hb
  have RV_6 : Hid (MvAt w6 24 aRV gRV V) := RV_5.out.below hb
  have RI_6 : Hid (ItAt w6 aRI gRI I) := RI_5.out.below hb
  obtain ⟨ml6, m6, n6⟩ := CC.out w6 C6.out
  clear hb
  go_wp2_with fail
  refine (PC.out _ (HB.out _ C6.out)).mono ?_
  rintro e w7 ⟨rfl, hb⟩
  have C7 : Hid (Below w1.heap.size w1 w7) := C6.out.trans (hb.mono C6.out.size)
  have RU_7 : Hid (NodesAt w7 aRU gRU 0 U) := RU_6.out.below hb
  have RV_7 : Hid (MvAt w7 24 aRV gRV V) := RV_6.out.below hb
  have RI_7 : Hid (ItAt w7 aRI gRI I) := RI_6.out.below hb
  obtain ⟨ml7, m7, n7⟩ := CC.out w7 C7.out
  clear hb
  go_wp2_with fail
  refine (PL.out _ _).mono ?_
  rintro e w8 ⟨rfl, hb⟩
  have C8 : Hid (Below w1.heap.size w1 w8) := C7.out.trans (hb.mono C7.out.size)
  have RU_8 : Hid (NodesAt w8 aRU gRU 0 U) := RU_7.out.below hb
  have RV_8 : Hid (MvAt w8 24 aRV gRV V) := RV_7.out.below hb
  have RI_8 : Hid (ItAt w8 aRI gRI I) := RI_7.out.below hb
  obtain ⟨ml8, m8, n8⟩ := CC.out w8 C8.out
  clear hb
  go_wp2_with fail
  refine (TV.out _).mono ?_
  rintro e w9 ⟨rfl, hb⟩
  have C9 : Hid (Below w1.heap.size w1 w9) := C8.out.trans (hb.mono C8.out.size)
  have RU_9 : Hid (NodesAt w9 aRU gRU 0 U) := RU_8.out.below hb
  have RV_9 : Hid (MvAt w9 24 aRV gRV V) := RV_8.out.below hb
  have RI_9 : Hid (ItAt w9 aRI gRI I) := RI_8.out.below hb
  obtain ⟨ml9, m9, n9⟩ := CC.out w9 C9.out
  clear hb
  go_wp2_with fail
  refine (PD.out _ (HB.out _ C9.out)).mono ?_
  rintro e w10 ⟨v, rfl, ho, hb⟩
  obtain ⟨aPU, cPU, gPU, rfl, -, -, hn⟩ := nodes_of_owns ho
  have PU_10 : Hid (NodesAt w10 aPU gPU 0 U) := hn
  have C10 : Hid (Below w1.heap.size w1 w10) := C9.out.trans (hb.mono C9.out.size)
  have RU_10 : Hid (NodesAt w10 aRU gRU 0 U) := RU_9.out.below hb
  have RV_10 : Hid (MvAt w10 24 aRV gRV V) := RV_9.out.below hb
  have RI_10 : Hid (ItAt w10 aRI gRI I) := RI_9.out.below hb
  obtain ⟨ml10, m10, n10⟩ := CC.out w10 C10.out
  clear hb ho hn
  go_wp2_with fail
  refine (PL.out _ _).mono ?_
  rintro e w11 ⟨rfl, hb⟩
  have C11 : Hid (Below w1.heap.size w1 w11) := C10.out.trans (hb.mono C10.out.size)
  have RU_11 : Hid (NodesAt w11 aRU gRU 0 U) := RU_10.out.below hb
  have RV_11 : Hid (MvAt w11 24 aRV gRV V) := RV_10.out.below hb
  have RI_11 : Hid (ItAt w11 aRI gRI I) := RI_10.out.below hb
  have PU_11 : Hid (NodesAt w11 aPU gPU 0 U) := PU_10.out.below hb
  obtain ⟨ml11, m11, n11⟩ := CC.out w11 C11.out
  clear hb
  go_wp2_with fail
  refine (sameT_same _ _ _ _ _ _ _ _ U _ PU_11.out RU_11.out).mono ?_
  rintro e w12 ⟨rfl, hb⟩
  have C12 : Hid (Below w1.heap.size w1 w12) := C11.out.trans (hb.mono C11.out.size)
  have RU_12 : Hid (NodesAt w12 aRU gRU 0 U) := RU_11.out.below hb
  have RV_12 : Hid (MvAt w12 24 aRV gRV V) := RV_11.out.below hb
  have RI_12 : Hid (ItAt w12 aRI gRI I) := RI_11.out.below hb
  have PU_12 : Hid (NodesAt w12 aPU gPU 0 U) := PU_11.out.below hb
  obtain ⟨ml12, m12, n12⟩ := CC.out w12 C12.out
  clear hb
  go_wp2_with fail
  refine (PH.out _ (HB.out _ C12.out)).mono ?_
  rintro e w13 ⟨v, rfl, hr⟩
  obtain ⟨aPV, cPV, gPV, rfl, hn⟩ := mvAt_of hr.own
  have PV_13 : Hid (MvAt w13 39 aPV gPV V) := hn
  have C13 : Hid (Below w1.heap.size w1 w13) := C12.out.trans (hr.below.mono C12.out.size)
  have RU_13 : Hid (NodesAt w13 aRU gRU 0 U) := RU_12.out.below hr.below
  have RV_13 : Hid (MvAt w13 24 aRV gRV V) := RV_12.out.below hr.below
  have RI_13 : Hid (ItAt w13 aRI gRI I) := RI_12.out.below hr.below
  have PU_13 : Hid (NodesAt w13 aPU gPU 0 U) := PU_12.out.below hr.below
  obtain ⟨ml13, m13, n13⟩ := CC.out w13 C13.out
  clear hr hn
  go_wp2_with fail
  refine (PL.out _ _).mono ?_
  rintro e w14 ⟨rfl, hb⟩
  have C14 : Hid (Below w1.heap.size w1 w14) := C13.out.trans (hb.mono C13.out.size)
  have RU_14 : Hid (NodesAt w14 aRU gRU 0 U) := RU_13.out.below hb
  have RV_14 : Hid (MvAt w14 24 aRV gRV V) := RV_13.out.below hb
  have RI_14 : Hid (ItAt w14 aRI gRI I) := RI_13.out.below hb
  have PU_14 : Hid (NodesAt w14 aPU gPU 0 U) := PU_13.out.below hb
  have PV_14 : Hid (MvAt w14 39 aPV gPV V) := PV_13.out.below hb
  obtain ⟨ml14, m14, n14⟩ := CC.out w14 C14.out
  clear hb
  go_wp2_with fail
  refine (from_any _ _ _ _ V _ PV_14.out LH.out).mono ?_
  rintro e w15 ⟨v, rfl, hr⟩
  obtain ⟨aFV, cFV, gFV, rfl, hn⟩ := mvAt_of hr.own
  have FV_15 : Hid (MvAt w15 24 aFV gFV V) := hn
  have C15 : Hid (Below w1.heap.size w1 w15) := C14.out.trans (hr.below.mono C14.out.size)
  have RU_15 : Hid (NodesAt w15 aRU gRU 0 U) := RU_14.out.below hr.below
  have RV_15 : Hid (MvAt w15 24 aRV gRV V) := RV_14.out.below hr.below
  have RI_15 : Hid (ItAt w15 aRI gRI I) := RI_14.out.below hr.below
  have PU_15 : Hid (NodesAt w15 aPU gPU 0 U) := PU_14.out.below hr.below
  have PV_15 : Hid (MvAt w15 39 aPV gPV V) := PV_14.out.below hr.below
  obtain ⟨ml15, m15, n15⟩ := CC.out w15 C15.out
  clear hr hn
  go_wp2_with fail
  refine (sameMoves_same _ _ _ _ _ _ _ _ V _ FV_15.out RV_15.out LH.out).mono ?_
  rintro e w16 ⟨rfl, hb⟩
  have C16 : Hid (Below w1.heap.size w1 w16) := C15.out.trans (hb.mono C15.out.size)
  have RU_16 : Hid (NodesAt w16 aRU gRU 0 U) := RU_15.out.below hb
  have RV_16 : Hid (MvAt w16 24 aRV gRV V) := RV_15.out.below hb
  have RI_16 : Hid (ItAt w16 aRI gRI I) := RI_15.out.below hb
  have PU_16 : Hid (NodesAt w16 aPU gPU 0 U) := PU_15.out.below hb
  have PV_16 : Hid (MvAt w16 39 aPV gPV V) := PV_15.out.below hb
  have FV_16 : Hid (MvAt w16 24 aFV gFV V) := FV_15.out.below hb
  obtain ⟨ml16, m16, n16⟩ := CC.out w16 C16.out
  clear hb
  go_wp2_with fail
  refine (TV.out _).mono ?_
  rintro e w17 ⟨rfl, hb⟩
  have C17 : Hid (Below w1.heap.size w1 w17) := C16.out.trans (hb.mono C16.out.size)
  have RU_17 : Hid (NodesAt w17 aRU gRU 0 U) := RU_16.out.below hb
  have RV_17 : Hid (MvAt w17 24 aRV gRV V) := RV_16.out.below hb
  have RI_17 : Hid (ItAt w17 aRI gRI I) := RI_16.out.below hb
  have PU_17 : Hid (NodesAt w17 aPU gPU 0 U) := PU_16.out.below hb
  have PV_17 : Hid (MvAt w17 39 aPV gPV V) := PV_16.out.below hb
  have FV_17 : Hid (MvAt w17 24 aFV gFV V) := FV_16.out.below hb
  obtain ⟨ml17, m17, n17⟩ := CC.out w17 C17.out
  clear hb
  go_wp2_with fail
  refine (PO.out _ (HB.out _ C17.out)).mono ?_
  rintro e w18 ⟨v, rfl, hr⟩
  obtain ⟨aPI, cPI, gPI, rfl, hn⟩ := itAt_of hr.own
  have PI_18 : Hid (ItAt w18 aPI gPI I) := hn
  have C18 : Hid (Below w1.heap.size w1 w18) := C17.out.trans (hr.below.mono C17.out.size)
  have RU_18 : Hid (NodesAt w18 aRU gRU 0 U) := RU_17.out.below hr.below
  have RV_18 : Hid (MvAt w18 24 aRV gRV V) := RV_17.out.below hr.below
  have RI_18 : Hid (ItAt w18 aRI gRI I) := RI_17.out.below hr.below
  have PU_18 : Hid (NodesAt w18 aPU gPU 0 U) := PU_17.out.below hr.below
  have PV_18 : Hid (MvAt w18 39 aPV gPV V) := PV_17.out.below hr.below
  have FV_18 : Hid (MvAt w18 24 aFV gFV V) := FV_17.out.below hr.below
  obtain ⟨ml18, m18, n18⟩ := CC.out w18 C18.out
  clear hr hn
  go_wp2_with fail
  refine (PL.out _ _).mono ?_
  rintro e w19 ⟨rfl, hb⟩
  have C19 : Hid (Below w1.heap.size w1 w19) := C18.out.trans (hb.mono C18.out.size)
  have RU_19 : Hid (NodesAt w19 aRU gRU 0 U) := RU_18.out.below hb
  have RV_19 : Hid (MvAt w19 24 aRV gRV V) := RV_18.out.below hb
  have RI_19 : Hid (ItAt w19 aRI gRI I) := RI_18.out.below hb
  have PU_19 : Hid (NodesAt w19 aPU gPU 0 U) := PU_18.out.below hb
  have PV_19 : Hid (MvAt w19 39 aPV gPV V) := PV_18.out.below hb
  have FV_19 : Hid (MvAt w19 24 aFV gFV V) := FV_18.out.below hb
  have PI_19 : Hid (ItAt w19 aPI gPI I) := PI_18.out.below hb
  obtain ⟨ml19, m19, n19⟩ := CC.out w19 C19.out
  clear hb
  go_wp2_with fail
  refine (ints_same _ _ _ _ _ _ I _ PI_19.out RI_19.out LT.out).mono ?_
  rintro e w20 ⟨rfl, hb⟩
  have C20 : Hid (Below w1.heap.size w1 w20) := C19.out.trans (hb.mono C19.out.size)
  have RU_20 : Hid (NodesAt w20 aRU gRU 0 U) := RU_19.out.below hb
  have RV_20 : Hid (MvAt w20 24 aRV gRV V) := RV_19.out.below hb
  have RI_20 : Hid (ItAt w20 aRI gRI I) := RI_19.out.below hb
  have PU_20 : Hid (NodesAt w20 aPU gPU 0 U) := PU_19.out.below hb
  have PV_20 : Hid (MvAt w20 39 aPV gPV V) := PV_19.out.below hb
  have FV_20 : Hid (MvAt w20 24 aFV gFV V) := FV_19.out.below hb
  have PI_20 : Hid (ItAt w20 aPI gPI I) := PI_19.out.below hb
  obtain ⟨ml20, m20, n20⟩ := CC.out w20 C20.out
  clear hb
  go_wp2_with fail
  go_ret
  exact ⟨rfl, B1.out.trans (C20.out.mono B1.out.size)⟩
end Go.Proofs.Ythlhbajaogonnaa
