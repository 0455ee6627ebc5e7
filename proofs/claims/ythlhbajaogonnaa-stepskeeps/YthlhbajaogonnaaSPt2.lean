
/- Layer 18: the reference's place. -/

import Derived.Test.YthlhbajaogonnaaSPt

namespace Go.Proofs.Ythlhbajaogonnaa

open Go.RowKit

attribute [local go_sem ↓] Go.wp_at_zero Go.wp_at_succ

/-- The node of a place, from the top on. -/
def PT.find (a : Int) : PT → Option PT
  | .lf n pl => if pl = a then some (.lf n pl) else none
  | .nd n pl l r => if pl = a then some (.nd n pl l r) else (l.find a).or (r.find a)
set_option maxRecDepth 100000 in
theorem place_nil (a : Int) (w : World) : Calls Try.prog 59 #[.pointer none, .int .i64 a] w fun e w' => e = .returned (.pointer none) ∧ Below w.heap.size w w' := by
  go_enter Try.func59, Try.ntmps59
  go_wp2_with fail
  go_ret
  exact ⟨rfl, Below.refl _ _⟩
set_option maxRecDepth 100000 in
set_option maxHeartbeats 2000000 in
theorem place_any (a : Int) (B : Nat) (P : PT) : ∀ (g : Nat) (w : World), PTAt w B P g →
    Calls Try.prog 59 #[.pointer (some ⟨g, 0, none⟩), .int .i64 a] w fun e w' => ∃ v, e = .returned v ∧ POAt w' B (P.find a) v ∧ Below w.heap.size w w' := by
  induction P with
  | lf n pl =>
    intro g w h
    have HP : Hid (PTAt w B (.lf n pl) g) := h
    have c6 : w.cell? ⟨g, 6, none⟩ = some (.pointer none) := (cell_of h.2 6 _ rfl).1
    have c7 : w.cell? ⟨g, 7, none⟩ = some (.pointer none) := (cell_of h.2 7 _ rfl).1
    have c8 : w.cell? ⟨g, 8, none⟩ = some (.int .i64 pl) := (cell_of h.2 8 _ rfl).1
    have hl := (Array.getElem?_eq_some_iff.1 h.2).1
    clear h
    by_cases e : pl = a
    · have F : Hid (PT.find a (.lf n pl) = some (.lf n pl)) := by show _ = _; simp [PT.find, e]
      have d : (pl == a) = true := by simp [e]
      clear e
      go_enter Try.func59, Try.ntmps59
      go_wp2_with fail
      go_ret
      exact ⟨_, rfl, by rw [F.out]; exact ⟨g, rfl, HP.out⟩, Below.refl _ _⟩
    · have F : Hid (PT.find a (.lf n pl) = none) := by show _ = _; simp [PT.find, e]
      have d : (pl == a) = false := by simp [e]
      have NI : Hid (∀ W, Calls Try.prog 59 #[.pointer none, .int .i64 a] W fun e w' => e = .returned (.pointer none) ∧ Below W.heap.size W w') := fun W => place_nil a W
      clear e
      go_enter Try.func59, Try.ntmps59
      go_wp2_with fail
      refine (NI.out _).mono ?_
      rintro e w1 ⟨rfl, hb⟩
      have B1 : Hid (Below w.heap.size w w1) := hb
      have d7 := (hb.cell (p := ⟨g, 7, none⟩) hl).trans c7
      have hl1 := Nat.lt_of_lt_of_le hl hb.size
      clear hb
      go_wp2_with fail
      refine (NI.out _).mono ?_
      rintro e w2 ⟨rfl, hb⟩
      have B2 : Hid (Below w.heap.size w w2) := B1.out.trans (hb.mono B1.out.size)
      clear hb
      go_wp2_with fail
      go_ret
      exact ⟨_, rfl, by rw [F.out]; rfl, B2.out⟩
  | nd n pl l r i1 i2 =>
    intro g w h
    have HP : Hid (PTAt w B (.nd n pl l r) g) := h
    obtain ⟨gl, gr, -, hh, hL, hR⟩ := h
    have c6 : w.cell? ⟨g, 6, none⟩ = some (.pointer (some ⟨gl, 0, none⟩)) := (cell_of hh 6 _ rfl).1
    have c7 : w.cell? ⟨g, 7, none⟩ = some (.pointer (some ⟨gr, 0, none⟩)) := (cell_of hh 7 _ rfl).1
    have c8 : w.cell? ⟨g, 8, none⟩ = some (.int .i64 pl) := (cell_of hh 8 _ rfl).1
    have hl := (Array.getElem?_eq_some_iff.1 hh).1
    have HL : Hid (PTAt w B l gl) := hL
    have HR : Hid (PTAt w B r gr) := hR
    have I1 : Hid (∀ (g : Nat) (w : World), PTAt w B l g → Calls Try.prog 59 #[.pointer (some ⟨g, 0, none⟩), .int .i64 a] w fun e w' => ∃ v, e = .returned v ∧ POAt w' B (l.find a) v ∧ Below w.heap.size w w') := i1
    have I2 : Hid (∀ (g : Nat) (w : World), PTAt w B r g → Calls Try.prog 59 #[.pointer (some ⟨g, 0, none⟩), .int .i64 a] w fun e w' => ∃ v, e = .returned v ∧ POAt w' B (r.find a) v ∧ Below w.heap.size w w') := i2
    clear hh hL hR i1 i2
    by_cases e : pl = a
    · have F : Hid (PT.find a (.nd n pl l r) = some (.nd n pl l r)) := by show _ = _; simp [PT.find, e]
      have d : (pl == a) = true := by simp [e]
      clear e
      go_enter Try.func59, Try.ntmps59
      go_wp2_with fail
      go_ret
      exact ⟨_, rfl, by rw [F.out]; exact ⟨g, rfl, HP.out⟩, Below.refl _ _⟩
    · have F : Hid (PT.find a (.nd n pl l r) = (l.find a).or (r.find a)) := by show _ = _; simp [PT.find, e]
      have d : (pl == a) = false := by simp [e]
      clear e
      cases hf : l.find a with
      | none =>
        rw [hf] at I1 F
        clear hf
        go_enter Try.func59, Try.ntmps59
        go_wp2_with fail
        refine (I1.out _ _ HL.out).mono ?_
        rintro e w1 ⟨v, rfl, hv, hb⟩
        obtain rfl : v = .pointer none := hv
        have B1 : Hid (Below w.heap.size w w1) := hb
        have d7 := (hb.cell (p := ⟨g, 7, none⟩) hl).trans c7
        have hl1 := Nat.lt_of_lt_of_le hl hb.size
        clear hb
        go_wp2_with fail
        refine (I2.out _ _ (HR.out.below B1.out)).mono ?_
        rintro e w2 ⟨v, rfl, hv, hb⟩
        have B2 : Hid (Below w.heap.size w w2) := B1.out.trans (hb.mono B1.out.size)
        have V2 : Hid (POAt w2 B (r.find a) v) := hv
        clear hb hv
        go_wp2_with fail
        go_ret
        exact ⟨_, rfl, by rw [F.out]; exact V2.out, B2.out⟩
      | some Q =>
        rw [hf] at I1 F
        clear hf
        go_enter Try.func59, Try.ntmps59
        go_wp2_with fail
        refine (I1.out _ _ HL.out).mono ?_
        rintro e w1 ⟨v, rfl, ⟨g1, rfl, hv⟩, hb⟩
        have B1 : Hid (Below w.heap.size w w1) := hb
        have V1 : Hid (PTAt w1 B Q g1) := hv
        clear hb hv
        go_wp2_with fail
        go_ret
        exact ⟨_, rfl, by rw [F.out]; exact ⟨g1, rfl, V1.out⟩, B1.out⟩
/-- A tree with left and right exchanged everywhere. -/
def PT.mir : PT → PT
  | .lf n pl => .lf n pl
  | .nd n pl l r => .nd n pl r.mir l.mir
theorem PT.mir_bt : ∀ P : PT, P.mir.bt = P.bt.mir
  | .lf _ _ => rfl
  | .nd _ _ l r => by simp [PT.mir, PT.bt, BT.mir, PT.mir_bt l, PT.mir_bt r]
set_option maxRecDepth 100000 in
theorem mirrored_nil (w : World) : Calls Try.prog 64 #[.pointer none] w fun e w' => e = .returned (.pointer none) ∧ Below w.heap.size w w' := by
  go_enter Try.func64, Try.ntmps64
  go_wp2_with fail
  go_ret
  exact ⟨rfl, Below.refl _ _⟩
set_option maxRecDepth 100000 in
set_option maxHeartbeats 4000000 in
theorem mirrored_any (B : Nat) (P : PT) : ∀ (g : Nat) (w : World), PTAt w B P g →
    Calls Try.prog 64 #[.pointer (some ⟨g, 0, none⟩)] w fun e w' => ∃ g' : Nat, e = .returned (.pointer (some ⟨g', 0, none⟩)) ∧ PTAt w' w.heap.size P.mir g' ∧ Below w.heap.size w w' := by
  induction P with
  | lf n pl =>
    intro g w h
    have hh := h.2
    obtain ⟨k0, k1, k2, k3, k4, k5⟩ := n
    have CC : Hid (∀ z, Below w.heap.size w z → z.cell? ⟨g, 0, none⟩ = some (.int .i64 k0) ∧ z.cell? ⟨g, 1, none⟩ = some (.int .i64 k1) ∧ z.cell? ⟨g, 2, none⟩ = some (.int .i64 k2) ∧ z.cell? ⟨g, 3, none⟩ = some (.int .i64 k3) ∧ z.cell? ⟨g, 4, none⟩ = some (.int .i64 k4) ∧ z.cell? ⟨g, 5, none⟩ = some (.int .i64 k5) ∧ z.cell? ⟨g, 6, none⟩ = some (.pointer none) ∧ z.cell? ⟨g, 7, none⟩ = some (.pointer none) ∧ z.cell? ⟨g, 8, none⟩ = some (.int .i64 pl)) := fun z hz => by
      have q := (hz.block g (Array.getElem?_eq_some_iff.1 hh).1).trans hh
      exact ⟨(cell_of q 0 _ rfl).1, (cell_of q 1 _ rfl).1, (cell_of q 2 _ rfl).1, (cell_of q 3 _ rfl).1, (cell_of q 4 _ rfl).1, (cell_of q 5 _ rfl).1, (cell_of q 6 _ rfl).1, (cell_of q 7 _ rfl).1, (cell_of q 8 _ rfl).1⟩
    obtain ⟨c0, c1, c2, c3, c4, c5, c6, c7, c8⟩ := CC.out w (Below.refl _ _)
    have hl := (Array.getElem?_eq_some_iff.1 hh).1
    have B0 : Hid (Below w.heap.size w w.drew) := (Below.refl _ _).drew
    have NI : Hid (∀ W, Calls Try.prog 64 #[.pointer none] W fun e w' => e = .returned (.pointer none) ∧ Below W.heap.size W w') := fun W => mirrored_nil W
    clear h hh
    have K0 : Hid True := trivial
    go_enter Try.func64, Try.ntmps64
    go_wp2_with fail
    go_region_held3 (fun w' => w'.cell? ⟨g, 0, none⟩ = some (.int .i64 k0) ∧ w'.cell? ⟨g, 1, none⟩ = some (.int .i64 k1) ∧ w'.cell? ⟨g, 2, none⟩ = some (.int .i64 k2) ∧ w'.cell? ⟨g, 3, none⟩ = some (.int .i64 k3) ∧ w'.cell? ⟨g, 4, none⟩ = some (.int .i64 k4) ∧ w'.cell? ⟨g, 5, none⟩ = some (.int .i64 k5) ∧ w'.cell? ⟨g, 6, none⟩ = some (.pointer none) ∧ w'.cell? ⟨g, 7, none⟩ = some (.pointer none) ∧ w'.cell? ⟨g, 8, none⟩ = some (.int .i64 pl))
      (first | (with_reducible exact X2.out) | (with_reducible exact X1.out) | go_keep)
      (first | (go_at_call 64; have hq := K0; refine (NI.out _).mono ?_; rintro e w1 ⟨rfl, hb⟩; have B1 : Hid (Below w.heap.size w w1) := B0.out.trans (hb.mono B0.out.size); have X1 : Hid (w1.cell? ⟨g, 0, none⟩ = some (.int .i64 k0) ∧ w1.cell? ⟨g, 1, none⟩ = some (.int .i64 k1) ∧ w1.cell? ⟨g, 2, none⟩ = some (.int .i64 k2) ∧ w1.cell? ⟨g, 3, none⟩ = some (.int .i64 k3) ∧ w1.cell? ⟨g, 4, none⟩ = some (.int .i64 k4) ∧ w1.cell? ⟨g, 5, none⟩ = some (.int .i64 k5) ∧ w1.cell? ⟨g, 6, none⟩ = some (.pointer none) ∧ w1.cell? ⟨g, 7, none⟩ = some (.pointer none) ∧ w1.cell? ⟨g, 8, none⟩ = some (.int .i64 pl)) := CC.out _ B1.out; clear hb hq K0) | (go_at_call 64; refine (NI.out _).mono ?_; rintro e w2 ⟨rfl, hb⟩; have B2 : Hid (Below w.heap.size w w2) := B1.out.trans (hb.mono B1.out.size); have X2 : Hid (w2.cell? ⟨g, 0, none⟩ = some (.int .i64 k0) ∧ w2.cell? ⟨g, 1, none⟩ = some (.int .i64 k1) ∧ w2.cell? ⟨g, 2, none⟩ = some (.int .i64 k2) ∧ w2.cell? ⟨g, 3, none⟩ = some (.int .i64 k3) ∧ w2.cell? ⟨g, 4, none⟩ = some (.int .i64 k4) ∧ w2.cell? ⟨g, 5, none⟩ = some (.int .i64 k5) ∧ w2.cell? ⟨g, 6, none⟩ = some (.pointer none) ∧ w2.cell? ⟨g, 7, none⟩ = some (.pointer none) ∧ w2.cell? ⟨g, 8, none⟩ = some (.int .i64 pl)) := CC.out _ B2.out; clear hb))
    all_goals go_wp2_with fail
    all_goals go_ret
    all_goals exact ⟨_, rfl, ⟨B2.out.size, heap_alloc_at _ _ _ rfl⟩, B2.out.alloc B2.out.size _⟩
  | nd n pl l r i1 i2 =>
    intro g w h
    obtain ⟨gl, gr, -, hh, hL, hR⟩ := h
    obtain ⟨k0, k1, k2, k3, k4, k5⟩ := n
    have CC : Hid (∀ z, Below w.heap.size w z → z.cell? ⟨g, 0, none⟩ = some (.int .i64 k0) ∧ z.cell? ⟨g, 1, none⟩ = some (.int .i64 k1) ∧ z.cell? ⟨g, 2, none⟩ = some (.int .i64 k2) ∧ z.cell? ⟨g, 3, none⟩ = some (.int .i64 k3) ∧ z.cell? ⟨g, 4, none⟩ = some (.int .i64 k4) ∧ z.cell? ⟨g, 5, none⟩ = some (.int .i64 k5) ∧ z.cell? ⟨g, 6, none⟩ = some (.pointer (some ⟨gl, 0, none⟩)) ∧ z.cell? ⟨g, 7, none⟩ = some (.pointer (some ⟨gr, 0, none⟩)) ∧ z.cell? ⟨g, 8, none⟩ = some (.int .i64 pl)) := fun z hz => by
      have q := (hz.block g (Array.getElem?_eq_some_iff.1 hh).1).trans hh
      exact ⟨(cell_of q 0 _ rfl).1, (cell_of q 1 _ rfl).1, (cell_of q 2 _ rfl).1, (cell_of q 3 _ rfl).1, (cell_of q 4 _ rfl).1, (cell_of q 5 _ rfl).1, (cell_of q 6 _ rfl).1, (cell_of q 7 _ rfl).1, (cell_of q 8 _ rfl).1⟩
    obtain ⟨c0, c1, c2, c3, c4, c5, c6, c7, c8⟩ := CC.out w (Below.refl _ _)
    have hl := (Array.getElem?_eq_some_iff.1 hh).1
    have B0 : Hid (Below w.heap.size w w.drew) := (Below.refl _ _).drew
    have HL : Hid (∀ z, Below w.heap.size w z → PTAt z B l gl) := fun z hz => hL.below hz
    have HR : Hid (∀ z, Below w.heap.size w z → PTAt z B r gr) := fun z hz => hR.below hz
    have IL : Hid (∀ W, PTAt W B l gl → Calls Try.prog 64 #[.pointer (some ⟨gl, 0, none⟩)] W fun e w' => ∃ g' : Nat, e = .returned (.pointer (some ⟨g', 0, none⟩)) ∧ PTAt w' W.heap.size l.mir g' ∧ Below W.heap.size W w') := fun W hW => i1 gl W hW
    have IR : Hid (∀ W, PTAt W B r gr → Calls Try.prog 64 #[.pointer (some ⟨gr, 0, none⟩)] W fun e w' => ∃ g' : Nat, e = .returned (.pointer (some ⟨g', 0, none⟩)) ∧ PTAt w' W.heap.size r.mir g' ∧ Below W.heap.size W w') := fun W hW => i2 gr W hW
    clear hh hL hR i1 i2
    have K0 : Hid True := trivial
    go_enter Try.func64, Try.ntmps64
    go_wp2_with fail
    go_region_held3 (fun w' => w'.cell? ⟨g, 0, none⟩ = some (.int .i64 k0) ∧ w'.cell? ⟨g, 1, none⟩ = some (.int .i64 k1) ∧ w'.cell? ⟨g, 2, none⟩ = some (.int .i64 k2) ∧ w'.cell? ⟨g, 3, none⟩ = some (.int .i64 k3) ∧ w'.cell? ⟨g, 4, none⟩ = some (.int .i64 k4) ∧ w'.cell? ⟨g, 5, none⟩ = some (.int .i64 k5) ∧ w'.cell? ⟨g, 6, none⟩ = some (.pointer (some ⟨gl, 0, none⟩)) ∧ w'.cell? ⟨g, 7, none⟩ = some (.pointer (some ⟨gr, 0, none⟩)) ∧ w'.cell? ⟨g, 8, none⟩ = some (.int .i64 pl))
      (first | (with_reducible exact X2.out) | (with_reducible exact X1.out) | go_keep)
      (first | (go_at_call 64; have hq := K0; refine (IR.out _ (HR.out _ B0.out)).mono ?_; rintro e w1 ⟨g1, rfl, hT, hb⟩; have B1 : Hid (Below w.heap.size w w1) := B0.out.trans (hb.mono B0.out.size); have X1 : Hid (w1.cell? ⟨g, 0, none⟩ = some (.int .i64 k0) ∧ w1.cell? ⟨g, 1, none⟩ = some (.int .i64 k1) ∧ w1.cell? ⟨g, 2, none⟩ = some (.int .i64 k2) ∧ w1.cell? ⟨g, 3, none⟩ = some (.int .i64 k3) ∧ w1.cell? ⟨g, 4, none⟩ = some (.int .i64 k4) ∧ w1.cell? ⟨g, 5, none⟩ = some (.int .i64 k5) ∧ w1.cell? ⟨g, 6, none⟩ = some (.pointer (some ⟨gl, 0, none⟩)) ∧ w1.cell? ⟨g, 7, none⟩ = some (.pointer (some ⟨gr, 0, none⟩)) ∧ w1.cell? ⟨g, 8, none⟩ = some (.int .i64 pl)) := CC.out _ B1.out; have TR : Hid (PTAt w1 w.heap.size r.mir g1) := hT; clear hb hT hq K0) | (go_at_call 64; have hq := K0; refine (IL.out _ (HL.out _ B0.out)).mono ?_; rintro e w1 ⟨g1, rfl, hT, hb⟩; have B1 : Hid (Below w.heap.size w w1) := B0.out.trans (hb.mono B0.out.size); have X1 : Hid (w1.cell? ⟨g, 0, none⟩ = some (.int .i64 k0) ∧ w1.cell? ⟨g, 1, none⟩ = some (.int .i64 k1) ∧ w1.cell? ⟨g, 2, none⟩ = some (.int .i64 k2) ∧ w1.cell? ⟨g, 3, none⟩ = some (.int .i64 k3) ∧ w1.cell? ⟨g, 4, none⟩ = some (.int .i64 k4) ∧ w1.cell? ⟨g, 5, none⟩ = some (.int .i64 k5) ∧ w1.cell? ⟨g, 6, none⟩ = some (.pointer (some ⟨gl, 0, none⟩)) ∧ w1.cell? ⟨g, 7, none⟩ = some (.pointer (some ⟨gr, 0, none⟩)) ∧ w1.cell? ⟨g, 8, none⟩ = some (.int .i64 pl)) := CC.out _ B1.out; have TL : Hid (PTAt w1 w.heap.size l.mir g1) := hT; clear hb hT hq K0) | (go_at_call 64; have hq := TR; refine (IL.out _ (HL.out _ B1.out)).mono ?_; rintro e w2 ⟨g2, rfl, hT, hb⟩; have B2 : Hid (Below w.heap.size w w2) := B1.out.trans (hb.mono B1.out.size); have X2 : Hid (w2.cell? ⟨g, 0, none⟩ = some (.int .i64 k0) ∧ w2.cell? ⟨g, 1, none⟩ = some (.int .i64 k1) ∧ w2.cell? ⟨g, 2, none⟩ = some (.int .i64 k2) ∧ w2.cell? ⟨g, 3, none⟩ = some (.int .i64 k3) ∧ w2.cell? ⟨g, 4, none⟩ = some (.int .i64 k4) ∧ w2.cell? ⟨g, 5, none⟩ = some (.int .i64 k5) ∧ w2.cell? ⟨g, 6, none⟩ = some (.pointer (some ⟨gl, 0, none⟩)) ∧ w2.cell? ⟨g, 7, none⟩ = some (.pointer (some ⟨gr, 0, none⟩)) ∧ w2.cell? ⟨g, 8, none⟩ = some (.int .i64 pl)) := CC.out _ B2.out; have FR : Hid (PTAt w2 w.heap.size r.mir g1) := TR.out.below hb; have FL : Hid (PTAt w2 w.heap.size l.mir g2) := hT.down B1.out.size; clear hb hT hq) | (go_at_call 64; have hq := TL; refine (IR.out _ (HR.out _ B1.out)).mono ?_; rintro e w2 ⟨g2, rfl, hT, hb⟩; have B2 : Hid (Below w.heap.size w w2) := B1.out.trans (hb.mono B1.out.size); have X2 : Hid (w2.cell? ⟨g, 0, none⟩ = some (.int .i64 k0) ∧ w2.cell? ⟨g, 1, none⟩ = some (.int .i64 k1) ∧ w2.cell? ⟨g, 2, none⟩ = some (.int .i64 k2) ∧ w2.cell? ⟨g, 3, none⟩ = some (.int .i64 k3) ∧ w2.cell? ⟨g, 4, none⟩ = some (.int .i64 k4) ∧ w2.cell? ⟨g, 5, none⟩ = some (.int .i64 k5) ∧ w2.cell? ⟨g, 6, none⟩ = some (.pointer (some ⟨gl, 0, none⟩)) ∧ w2.cell? ⟨g, 7, none⟩ = some (.pointer (some ⟨gr, 0, none⟩)) ∧ w2.cell? ⟨g, 8, none⟩ = some (.int .i64 pl)) := CC.out _ B2.out; have FL : Hid (PTAt w2 w.heap.size l.mir g1) := TL.out.below hb; have FR : Hid (PTAt w2 w.heap.size r.mir g2) := hT.down B1.out.size; clear hb hT hq))
    all_goals go_wp2_with fail
    all_goals go_ret
    all_goals exact ⟨_, rfl, ⟨_, _, B2.out.size, heap_alloc_at _ _ _ rfl, FR.out.below (below_alloc _ _), FL.out.below (below_alloc _ _)⟩, B2.out.alloc B2.out.size _⟩
end Go.Proofs.Ythlhbajaogonnaa
