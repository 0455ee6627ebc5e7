
/- Layer 18: the statements' red and bad; StepsViolations. -/

import Derived.Test.YtfjkddjjpbdjkaaSLaw0

import Derived.Lib.MinMax

namespace Go.Proofs.Ytfjkddjjpbdjkaa

open Go.RowKit

attribute [local go_sem ↓] Go.wp_at_zero Go.wp_at_succ

theorem BT.bad_le : ∀ {b : BT}, b.ok → 0 ≤ b.bad ∧ b.bad ≤ 1000002 * (b.size : Int)
  | .leaf d, h => by simp only [BT.bad, BT.size]; have := h.2; omega
  | .node d l r, h => by
    have := h.1.2
    have h1 := BT.bad_le h.2.2.1
    have h2 := BT.bad_le h.2.2.2
    have z1 := l.z_01
    have z2 := r.z_01
    rw [BT.node_bad]
    simp only [BT.size]
    split <;> omega
set_option maxRecDepth 100000 in
set_option maxHeartbeats 1000000 in
theorem red_any (base : Option Addr) (b o c : Nat) (t : NL) (p q : Nat) (w : World) (h : NodesAt w base b o t) (hp : p < t.length) (hq : q < t.length) :
    Calls Try.prog 75 #[.slice base t.length c, .int .i64 (p : Int), .int .i64 (q : Int)] w fun e w' => e = .returned (.int .i64 (if (ndAt t p).wt = 0 ∧ (ndAt t q).wt = 0 then 1 else 0)) ∧ Below w.heap.size w w' := by
  obtain rfl : base = some ⟨b, o, none⟩ := h.base (by omega)
  have hb := h.lt (by omega)
  obtain ⟨-, -, c2, -, -, -⟩ := h.cells p hp
  obtain ⟨-, -, d2, -, -, -⟩ := h.cells q hq
  have p0 : (0 : Int) ≤ (p : Int) := Int.natCast_nonneg _
  have p1 : (p : Int) < (t.length : Int) := by omega
  have q0 : (0 : Int) ≤ (q : Int) := Int.natCast_nonneg _
  have q1 : (q : Int) < (t.length : Int) := by omega
  clear h
  generalize (ndAt t p).wt = u at *
  generalize (ndAt t q).wt = v at *
  by_cases h1 : u = 0
  · have e1 : (u == 0) = true := by simp [h1]
    by_cases h2 : v = 0
    · have e2 : (v == 0) = true := by simp [h2]
      rw [if_pos ⟨h1, h2⟩]
      clear h1 h2
      go_enter Try.func75, Try.ntmps75
      go_wp2_with fail
      go_ret
      exact ⟨rfl, Below.refl _ _⟩
    · have e2 : (v == 0) = false := by simp [h2]
      rw [if_neg (fun q => h2 q.2)]
      clear h1 h2
      go_enter Try.func75, Try.ntmps75
      go_wp2_with fail
      go_ret
      exact ⟨rfl, Below.refl _ _⟩
  · have e1 : (u == 0) = false := by simp [h1]
    rw [if_neg (fun q => h1 q.1)]
    clear h1
    go_enter Try.func75, Try.ntmps75
    go_wp2_with fail
    go_ret
    exact ⟨rfl, Below.refl _ _⟩
set_option maxRecDepth 100000 in
set_option maxHeartbeats 4000000 in
theorem bad_any (base : Option Addr) (b o c : Nat) (t : NL) (hf : InForm t) (hbig : t.length ≤ 100000) {p : Nat} {B : BT} (h : Abs t p B) : ∀ w, NodesAt w base b o t →
    Calls Try.prog 36 #[.slice base t.length c, .int .i64 (p : Int)] w fun e w' => e = .returned (.int .i64 B.bad) ∧ Below w.heap.size w w' := by
  have BD : Hid (∀ {q : Nat} {C : BT}, Abs t q C → 0 ≤ C.bad ∧ C.bad ≤ 100000200000) := by
    intro q C hC
    have := BT.bad_le (abs_ok hf hC)
    obtain ⟨C', h1, h2, -⟩ := form_abs_at hf hC.lt
    obtain rfl := hC.det h1
    exact ⟨this.1, by omega⟩
  induction h with
  | @leaf p hp hl hr =>
    intro w h
    obtain rfl : base = some ⟨b, o, none⟩ := h.base (by omega)
    have hb := h.lt (by omega)
    obtain ⟨-, -, c2, -, c4, -⟩ := h.cells p hp
    have hw := form_wt hf hp
    rw [hl] at c4
    have F : Hid ((BT.leaf (ndP (ndAt t p))).bad = max ((ndAt t p).wt - 1) 0) := rfl
    generalize (BT.leaf (ndP (ndAt t p))).bad = R at *
    generalize (ndAt t p).wt = u at *
    have e1 : IntKind.i64.wrap (u - 1) = u - 1 := by rw [IntKind.wrap_i64] <;> omega
    have p0 : (0 : Int) ≤ (p : Int) := Int.natCast_nonneg _
    have p1 : (p : Int) < (t.length : Int) := by omega
    clear h BD hf hbig
    go_enter Try.func36, Try.ntmps36
    go_wp2_with fail
    go_ret
    exact ⟨by rw [F.out]; rfl, Below.refl _ _⟩
  | @node p l r A C hp hl hr hA hC ih1 ih2 =>
    intro w h
    obtain rfl : base = some ⟨b, o, none⟩ := h.base (by omega)
    have hb := h.lt (by omega)
    obtain ⟨-, -, c2, -, c4, c5⟩ := h.cells p hp
    have hw := form_wt hf hp
    have ll := hA.lt
    have lr := hC.lt
    have HN : Hid (NodesAt w (some ⟨b, o, none⟩) b o t) := h
    have wA : (ndAt t l).wt = A.wt := by cases hA <;> rfl
    have wC : (ndAt t r).wt = C.wt := by cases hC <;> rfl
    have R1 : Hid (∀ W, NodesAt W (some ⟨b, o, none⟩) b o t → Calls Try.prog 75 #[.slice (some ⟨b, o, none⟩) t.length c, .int .i64 (l : Int), .int .i64 (p : Int)] W fun e w' => e = .returned (.int .i64 (if A.wt = 0 ∧ (ndAt t p).wt = 0 then 1 else 0)) ∧ Below W.heap.size W w') := fun W hW => by have := red_any _ b o c t l p W hW ll hp; rw [wA] at this; exact this
    have R2 : Hid (∀ W, NodesAt W (some ⟨b, o, none⟩) b o t → Calls Try.prog 75 #[.slice (some ⟨b, o, none⟩) t.length c, .int .i64 (r : Int), .int .i64 (p : Int)] W fun e w' => e = .returned (.int .i64 (if C.wt = 0 ∧ (ndAt t p).wt = 0 then 1 else 0)) ∧ Below W.heap.size W w') := fun W hW => by have := red_any _ b o c t r p W hW lr hp; rw [wC] at this; exact this
    have I1 : Hid (∀ W, NodesAt W (some ⟨b, o, none⟩) b o t → Calls Try.prog 36 #[.slice (some ⟨b, o, none⟩) t.length c, .int .i64 (l : Int)] W fun e w' => e = .returned (.int .i64 A.bad) ∧ Below W.heap.size W w') := ih1
    have I2 : Hid (∀ W, NodesAt W (some ⟨b, o, none⟩) b o t → Calls Try.prog 36 #[.slice (some ⟨b, o, none⟩) t.length c, .int .i64 (r : Int)] W fun e w' => e = .returned (.int .i64 C.bad) ∧ Below W.heap.size W w') := ih2
    have bA := BD.out hA
    have bC := BD.out hC
    have F : Hid ((BT.node (ndP (ndAt t p)) A C).bad = max ((ndAt t p).wt - 1) 0 + ((if A.wt = 0 ∧ (ndAt t p).wt = 0 then 1 else 0) + (if C.wt = 0 ∧ (ndAt t p).wt = 0 then 1 else 0) + A.bad + C.bad)) := rfl
    have r1 : (0 : Int) ≤ (if A.wt = 0 ∧ (ndAt t p).wt = 0 then 1 else 0) ∧ (if A.wt = 0 ∧ (ndAt t p).wt = 0 then (1 : Int) else 0) ≤ 1 := by split <;> omega
    have r2 : (0 : Int) ≤ (if C.wt = 0 ∧ (ndAt t p).wt = 0 then 1 else 0) ∧ (if C.wt = 0 ∧ (ndAt t p).wt = 0 then (1 : Int) else 0) ≤ 1 := by split <;> omega
    clear ih1 ih2 hA hC wA wC BD h
    rw [hl] at c4
    rw [hr] at c5
    clear hl hr
    generalize (BT.node (ndP (ndAt t p)) A C).bad = R at *
    generalize (if A.wt = 0 ∧ (ndAt t p).wt = 0 then (1 : Int) else 0) = x1 at *
    generalize (if C.wt = 0 ∧ (ndAt t p).wt = 0 then (1 : Int) else 0) = x2 at *
    generalize A.bad = x3 at *
    generalize C.bad = x4 at *
    generalize (ndAt t p).wt = u at *
    have e1 : IntKind.i64.wrap (u - 1) = u - 1 := by rw [IntKind.wrap_i64] <;> omega
    have e2 : IntKind.i64.wrap (x1 + x2) = x1 + x2 := by rw [IntKind.wrap_i64] <;> omega
    have e3 : IntKind.i64.wrap (x1 + x2 + x3) = x1 + x2 + x3 := by rw [IntKind.wrap_i64] <;> omega
    have e4 : IntKind.i64.wrap (x1 + x2 + x3 + x4) = x1 + x2 + x3 + x4 := by rw [IntKind.wrap_i64] <;> omega
    have e5 : IntKind.i64.wrap (max (u - 1) 0 + (x1 + x2 + x3 + x4)) = max (u - 1) 0 + (x1 + x2 + x3 + x4) := by rw [IntKind.wrap_i64] <;> omega
    have p0 : (0 : Int) ≤ (p : Int) := Int.natCast_nonneg _
    have p1 : (p : Int) < (t.length : Int) := by omega
    have l0 : decide (0 ≤ (l : Int)) = true := by simp
    have HBd : Hid (Below w.heap.size w w.drew) := (Below.refl _ _).drew
    have HC : Hid (∀ z, Below w.heap.size w z → z.cell? ⟨b, o + p * 6 + 4, none⟩ = some (.int .i64 (l : Int)) ∧ z.cell? ⟨b, o + p * 6 + 5, none⟩ = some (.int .i64 (r : Int))) := fun z hz => ⟨(hz.cell (p := ⟨b, o + p * 6 + 4, none⟩) hb).trans c4, (hz.cell (p := ⟨b, o + p * 6 + 5, none⟩) hb).trans c5⟩
    have K0 : Hid True := trivial
    clear hf hbig ll lr r1 r2 bA bC hw
    go_enter Try.func36, Try.ntmps36
    go_wp2_with fail
    go_region_held3 (fun w' => w'.cell? ⟨b, o + p * 6 + 4, none⟩ = some (.int .i64 (l : Int)) ∧ w'.cell? ⟨b, o + p * 6 + 5, none⟩ = some (.int .i64 (r : Int)))
      (first | (with_reducible exact X4.out) | (with_reducible exact X3.out) | (with_reducible exact X2.out) | (with_reducible exact X1.out) | go_keep)
      (first | (go_at_call 75; have hq := K0; refine (R1.out _ (HN.out.below HBd.out)).mono ?_; rintro e w1 ⟨rfl, hb1⟩; have B1 : Hid (Below w.heap.size w w1) := HBd.out.trans (hb1.mono HBd.out.size); have X1 : Hid _ := HC.out _ B1.out; have K1 : Hid True := trivial; clear hb1 hq K0)
             | (go_at_call 75; have hq := K1; refine (R2.out _ (HN.out.below B1.out)).mono ?_; rintro e w2 ⟨rfl, hb1⟩; have B2 : Hid (Below w.heap.size w w2) := B1.out.trans (hb1.mono B1.out.size); have X2 : Hid _ := HC.out _ B2.out; have K2 : Hid True := trivial; clear hb1 hq K1)
             | (go_at_call 36; have hq := K2; refine (I1.out _ (HN.out.below B2.out)).mono ?_; rintro e w3 ⟨rfl, hb1⟩; have B3 : Hid (Below w.heap.size w w3) := B2.out.trans (hb1.mono B2.out.size); have X3 : Hid _ := HC.out _ B3.out; have K3 : Hid True := trivial; clear hb1 hq K2)
             | (go_at_call 36; have hq := K3; refine (I2.out _ (HN.out.below B3.out)).mono ?_; rintro e w4 ⟨rfl, hb1⟩; have B4 : Hid (Below w.heap.size w w4) := B3.out.trans (hb1.mono B3.out.size); have X4 : Hid _ := HC.out _ B4.out; clear hb1 hq K3))
    go_wp2_with fail
    go_ret
    exact ⟨by rw [F.out]; rfl, B4.out⟩
end Go.Proofs.Ytfjkddjjpbdjkaa
