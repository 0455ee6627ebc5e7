
/- Layer 18: a change's with and over. -/

import Derived.Test.YtfjkddjjpbdjkaaSSt3

import Derived.Deep.RegionHeld

namespace Go.Proofs.Ytfjkddjjpbdjkaa

open Go.RowKit

attribute [local go_sem ↓] Go.wp_at_zero Go.wp_at_succ

set_option maxRecDepth 100000 in
theorem with_any (cb g n cap p : Nat) (a q : Int) (w : World) (h : w.cell? ⟨cb, 12, none⟩ = some (.slice (some ⟨g, 0, none⟩) n cap)) (hp : p < n) (hc : w.cell? ⟨g, p * 6 + 2, none⟩ = some (.int .i64 q)) (hf : w.frozen? ⟨g, p * 6 + 2, none⟩ = false) :
    Calls Try.prog 95 #[.pointer (some ⟨cb, 0, none⟩), .int .i64 (p : Int), .int .i64 a] w fun e w' => e = .returned (.int .i64 (p : Int)) ∧ w' = w.setCell ⟨g, p * 6 + 2, none⟩ (.int .i64 a) := by
  have p0 : (0 : Int) ≤ (p : Int) := Int.natCast_nonneg _
  have p1 : (p : Int) < (n : Int) := by omega
  go_enter Try.func95, Try.ntmps95
  go_wp2_with fail
  go_ret
  exact ⟨rfl, rfl⟩
set_option maxRecDepth 100000 in
set_option maxHeartbeats 1000000 in
theorem over_any (cb g n cap p : Nat) (mi : Bool) (a l r q k4 k5 : Int) (w : World) (h : w.cell? ⟨cb, 12, none⟩ = some (.slice (some ⟨g, 0, none⟩) n cap)) (hm : w.cell? ⟨cb, 2, none⟩ = some (.bool mi)) (hgc : g ≠ cb) (hl : cb < w.heap.size) (hg : g < w.heap.size) (hp : p < n)
    (hc : w.cell? ⟨g, p * 6 + 2, none⟩ = some (.int .i64 q) ∧ w.frozen? ⟨g, p * 6 + 2, none⟩ = false) (hc4 : w.cell? ⟨g, p * 6 + 4, none⟩ = some (.int .i64 k4) ∧ w.frozen? ⟨g, p * 6 + 4, none⟩ = false) (hc5 : w.cell? ⟨g, p * 6 + 5, none⟩ = some (.int .i64 k5) ∧ w.frozen? ⟨g, p * 6 + 5, none⟩ = false) :
    Calls Try.prog 94 #[.pointer (some ⟨cb, 0, none⟩), .int .i64 (p : Int), .int .i64 a, .int .i64 l, .int .i64 r] w fun e w' => e = .returned (.int .i64 (p : Int)) ∧ ∃ z : World, Below w.heap.size w z ∧ w' = ((z.setCell ⟨g, p * 6 + 4, none⟩ (.int .i64 (if mi then r else l))).setCell ⟨g, p * 6 + 5, none⟩ (.int .i64 (if mi then l else r))).setCell ⟨g, p * 6 + 2, none⟩ (.int .i64 a) := by
  have p0 : (0 : Int) ≤ (p : Int) := Int.natCast_nonneg _
  have p1 : (p : Int) < (n : Int) := by omega
  obtain ⟨c2, f2⟩ := hc
  obtain ⟨c4, f4⟩ := hc4
  obtain ⟨c5, f5⟩ := hc5
  have TU : Hid (Calls Try.prog 98 #[.pointer (some ⟨cb, 0, none⟩), .int .i64 l, .int .i64 r] w fun e w' => e = .returned (.tuple #[.int .i64 (if mi then r else l), .int .i64 (if mi then l else r)]) ∧ Below w.heap.size w w') := turned_any cb mi l r w hm
  generalize (if mi then r else l) = x at *
  generalize (if mi then l else r) = y at *
  go_enter Try.func94, Try.ntmps94
  go_wp2_with fail
  refine TU.out.mono ?_
  rintro e z ⟨rfl, hb⟩
  have BZ : Hid (Below w.heap.size w z) := hb
  have z12 := (hb.cell (p := ⟨cb, 12, none⟩) hl).trans h
  have z2 := (hb.cell (p := ⟨g, p * 6 + 2, none⟩) hg).trans c2
  have z4 := (hb.cell (p := ⟨g, p * 6 + 4, none⟩) hg).trans c4
  have z5 := (hb.cell (p := ⟨g, p * 6 + 5, none⟩) hg).trans c5
  have y2 := (hb.frozen (p := ⟨g, p * 6 + 2, none⟩) hg).trans f2
  have y4 := (hb.frozen (p := ⟨g, p * 6 + 4, none⟩) hg).trans f4
  have y5 := (hb.frozen (p := ⟨g, p * 6 + 5, none⟩) hg).trans f5
  have HW : Hid (∀ Z : World, Z = (z.setCell ⟨g, p * 6 + 4, none⟩ (.int .i64 x)).setCell ⟨g, p * 6 + 5, none⟩ (.int .i64 y) → Calls Try.prog 95 #[.pointer (some ⟨cb, 0, none⟩), .int .i64 (p : Int), .int .i64 a] Z fun e w' => e = .returned (.int .i64 (p : Int)) ∧ w' = Z.setCell ⟨g, p * 6 + 2, none⟩ (.int .i64 a)) := fun Z hZ => by
    subst hZ
    refine with_any cb g n cap p a q _ ?_ hp ?_ (by simpa using y2)
    · rw [World.cell?_setCell_far _ _ _ _ hgc, World.cell?_setCell_far _ _ _ _ hgc]; exact z12
    · rw [World.cell?_setCell_other _ _ _ _ (fun q => by have := congrArg Addr.off q; simp at this), World.cell?_setCell_other _ _ _ _ (fun q => by have := congrArg Addr.off q; simp at this)]; exact z2
  clear hb c2 f2 c4 f4 c5 f5
  go_wp2_with (first | (go_at_call 95; refine (HW.out _ rfl).mono ?_; rintro e w2 ⟨rfl, rfl⟩))
  go_ret
  exact ⟨rfl, z, BZ.out, rfl⟩
set_option maxRecDepth 100000 in
set_option maxHeartbeats 1000000 in
theorem less_any (cb g n cap p : Nat) (base : Option Addr) (b o c : Nat) (t : NL) (mi : Bool) (q : Int) (w : World) (hs : StAt w cb base b o c t mi) (h : w.cell? ⟨cb, 12, none⟩ = some (.slice (some ⟨g, 0, none⟩) n cap)) (hg : g < w.heap.size) (hp : p < n) (hpt : p < t.length) (hwt : 0 ≤ (ndAt t p).wt ∧ (ndAt t p).wt ≤ 1000000)
    (hc : w.cell? ⟨g, p * 6 + 2, none⟩ = some (.int .i64 q) ∧ w.frozen? ⟨g, p * 6 + 2, none⟩ = false) :
    Calls Try.prog 97 #[.pointer (some ⟨cb, 0, none⟩), .int .i64 (p : Int)] w fun e w' => e = .returned (.int .i64 (p : Int)) ∧ ∃ z : World, Below w.heap.size w z ∧ w' = z.setCell ⟨g, p * 6 + 2, none⟩ (.int .i64 ((ndAt t p).wt - 1)) := by
  have WT : Hid (Calls _ _ _ _ _) := weight_any cb base b o c t mi (p : Int) w hs (Or.inr ⟨by omega, by omega⟩)
  have FW : Hid (wtP t (p : Int) = (ndAt t p).wt) := by show _ = _; unfold wtP; rw [if_neg (by omega), Int.toNat_natCast]
  have hl := hs.lt
  obtain ⟨c2, f2⟩ := hc
  rw [FW.out] at WT
  clear hs FW
  generalize (ndAt t p).wt = k2 at *
  have e1 : IntKind.i64.wrap (k2 - 1) = k2 - 1 := by rw [IntKind.wrap_i64] <;> omega
  go_enter Try.func97, Try.ntmps97
  go_wp2_with fail
  refine WT.out.mono ?_
  rintro e z ⟨rfl, hb⟩
  have BZ : Hid (Below w.heap.size w z) := hb
  have z12 := (hb.cell (p := ⟨cb, 12, none⟩) hl).trans h
  have z2 := (hb.cell (p := ⟨g, p * 6 + 2, none⟩) hg).trans c2
  have y2 := (hb.frozen (p := ⟨g, p * 6 + 2, none⟩) hg).trans f2
  have HW : Hid (Calls _ _ _ _ _) := with_any cb g n cap p (k2 - 1) q z z12 hp z2 y2
  clear hb
  go_wp2_with fail
  refine HW.out.mono ?_
  rintro e w2 ⟨rfl, rfl⟩
  go_wp2_with fail
  go_ret
  exact ⟨rfl, z, BZ.out, rfl⟩
end Go.Proofs.Ytfjkddjjpbdjkaa
