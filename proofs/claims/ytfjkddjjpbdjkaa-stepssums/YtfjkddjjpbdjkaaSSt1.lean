
/- Layer 18: a site's view: turned, below, weight, isInner; hasMirror, isMove. -/

import Derived.Test.YtfjkddjjpbdjkaaTRoot

import Derived.Deep.RegionHeld3

namespace Go.Proofs.Ytfjkddjjpbdjkaa

open Go.RowKit

attribute [local go_sem ↓] Go.wp_at_zero Go.wp_at_succ

/-- What a site's methods read of it. -/
structure StAt (w : World) (sb : Nat) (base : Option Addr) (b o c : Nat) (t : NL) (mi : Bool) : Prop where
  tab : w.cell? ⟨sb, 0, none⟩ = some (.slice base t.length c)
  mir : w.cell? ⟨sb, 2, none⟩ = some (.bool mi)
  lt : sb < w.heap.size
  nodes : NodesAt w base b o t
theorem StAt.below {w x : World} {sb b o c : Nat} {base : Option Addr} {t : NL} {mi : Bool} (h : StAt w sb base b o c t mi) (hb : Below w.heap.size w x) : StAt x sb base b o c t mi :=
  ⟨(hb.cell (p := ⟨sb, 0, none⟩) h.lt).trans h.tab, (hb.cell (p := ⟨sb, 2, none⟩) h.lt).trans h.mir, Nat.lt_of_lt_of_le h.lt hb.size, h.nodes.below hb⟩
set_option maxRecDepth 100000 in
theorem turned_any (sb : Nat) (mi : Bool) (l r : Int) (w : World) (h : w.cell? ⟨sb, 2, none⟩ = some (.bool mi)) :
    Calls Try.prog 98 #[.pointer (some ⟨sb, 0, none⟩), .int .i64 l, .int .i64 r] w fun e w' => e = .returned (.tuple #[.int .i64 (if mi then r else l), .int .i64 (if mi then l else r)]) ∧ Below w.heap.size w w' := by
  cases mi
  · go_enter Try.func98, Try.ntmps98
    go_wp2_with fail
    go_ret2
    exact ⟨rfl, Below.refl _ _⟩
  · go_enter Try.func98, Try.ntmps98
    go_wp2_with fail
    go_ret2
    exact ⟨rfl, Below.refl _ _⟩
/-- The children of a place, as the site sees them; -1: there is none. -/
def belL (t : NL) (mi : Bool) (p : Int) : Int := if p = -1 then -1 else if mi then (ndAt t p.toNat).r else (ndAt t p.toNat).l
def belR (t : NL) (mi : Bool) (p : Int) : Int := if p = -1 then -1 else if mi then (ndAt t p.toNat).l else (ndAt t p.toNat).r
def wtP (t : NL) (p : Int) : Int := if p = -1 then -1 else (ndAt t p.toNat).wt
set_option maxRecDepth 100000 in
set_option maxHeartbeats 1000000 in
theorem sbelow_any (sb : Nat) (base : Option Addr) (b o c : Nat) (t : NL) (mi : Bool) (p : Int) (w : World) (h : StAt w sb base b o c t mi) (hp : p = -1 ∨ 0 ≤ p ∧ p < t.length) :
    Calls Try.prog 96 #[.pointer (some ⟨sb, 0, none⟩), .int .i64 p] w fun e w' => e = .returned (.tuple #[.int .i64 (belL t mi p), .int .i64 (belR t mi p)]) ∧ Below w.heap.size w w' := by
  by_cases hq : p = -1
  · have F : Hid (belL t mi p = -1 ∧ belR t mi p = -1) := by show _ ∧ _; unfold belL belR; rw [if_pos hq, if_pos hq]; exact ⟨rfl, rfl⟩
    subst hq
    go_enter Try.func96, Try.ntmps96
    go_wp2_with fail
    go_ret2
    exact ⟨by rw [F.out.1, F.out.2]; rfl, Below.refl _ _⟩
  · obtain ⟨n, rfl⟩ : ∃ n : Nat, p = (n : Int) := ⟨p.toNat, by omega⟩
    have hn : n < t.length := by omega
    have F : Hid (belL t mi (n : Int) = (if mi then (ndAt t n).r else (ndAt t n).l) ∧ belR t mi (n : Int) = (if mi then (ndAt t n).l else (ndAt t n).r)) := by show _ ∧ _; unfold belL belR; rw [if_neg hq, if_neg hq, Int.toNat_natCast]; exact ⟨rfl, rfl⟩
    obtain rfl : base = some ⟨b, o, none⟩ := h.nodes.base (by omega)
    have hb := h.nodes.lt (by omega)
    obtain ⟨-, -, -, -, c4, c5⟩ := h.nodes.cells n hn
    have z0 := h.tab
    have z2 := h.mir
    have zl := h.lt
    have HB0 : Hid (Below w.heap.size w w.drew) := (Below.refl _ _).drew
    have HST : Hid (StAt w sb (some ⟨b, o, none⟩) b o c t mi) := h
    have HCC : Hid (∀ z, Below w.heap.size w z → z.cell? ⟨sb, 0, none⟩ = some (.slice (some ⟨b, o, none⟩) t.length c) ∧ z.cell? ⟨b, o + n * 6 + 4, none⟩ = some (.int .i64 (ndAt t n).l) ∧ z.cell? ⟨b, o + n * 6 + 5, none⟩ = some (.int .i64 (ndAt t n).r)) := fun z hz => ⟨(hz.cell (p := ⟨sb, 0, none⟩) h.lt).trans h.tab, (hz.cell (p := ⟨b, o + n * 6 + 4, none⟩) hb).trans c4, (hz.cell (p := ⟨b, o + n * 6 + 5, none⟩) hb).trans c5⟩
    have n0 : (0 : Int) ≤ (n : Int) := Int.natCast_nonneg _
    have n1 : (n : Int) < (t.length : Int) := by omega
    have dq : ((n : Int) == -1) = false := by rw [beq_eq_false_iff_ne]; omega
    clear h hp hq
    generalize (ndAt t n).l = k4 at *
    generalize (ndAt t n).r = k5 at *
    have TU : Hid (∀ W, W.cell? ⟨sb, 2, none⟩ = some (.bool mi) → Calls Try.prog 98 #[.pointer (some ⟨sb, 0, none⟩), .int .i64 k4, .int .i64 k5] W fun e w' => e = .returned (.tuple #[.int .i64 (if mi then k5 else k4), .int .i64 (if mi then k4 else k5)]) ∧ Below W.heap.size W w') := fun W hW => turned_any sb mi k4 k5 W hW
    generalize (if mi then k5 else k4) = x at *
    generalize (if mi then k4 else k5) = y at *
    go_enter Try.func96, Try.ntmps96
    go_wp2_with fail
    go_region_held3 (fun w' => w'.cell? ⟨sb, 0, none⟩ = some (.slice (some ⟨b, o, none⟩) t.length c) ∧ w'.cell? ⟨b, o + n * 6 + 4, none⟩ = some (.int .i64 k4) ∧ w'.cell? ⟨b, o + n * 6 + 5, none⟩ = some (.int .i64 k5))
      (first | (with_reducible exact X1.out) | go_keep)
      (first | (go_at_call 98; refine (TU.out _ (HST.out.below HB0.out).mir).mono ?_; rintro e w1 ⟨rfl, hb1⟩; have B1 : Hid (Below w.heap.size w w1) := HB0.out.trans (hb1.mono HB0.out.size); have X1 : Hid _ := HCC.out _ B1.out; clear hb1))
    go_wp2_with fail
    go_ret2
    exact ⟨by rw [F.out.1, F.out.2]; rfl, B1.out⟩
set_option maxRecDepth 100000 in
theorem weight_any (sb : Nat) (base : Option Addr) (b o c : Nat) (t : NL) (mi : Bool) (p : Int) (w : World) (h : StAt w sb base b o c t mi) (hp : p = -1 ∨ 0 ≤ p ∧ p < t.length) :
    Calls Try.prog 92 #[.pointer (some ⟨sb, 0, none⟩), .int .i64 p] w fun e w' => e = .returned (.int .i64 (wtP t p)) ∧ Below w.heap.size w w' := by
  by_cases hq : p = -1
  · have F : Hid (wtP t p = -1) := by show _ = _; unfold wtP; rw [if_pos hq]
    subst hq
    go_enter Try.func92, Try.ntmps92
    go_wp2_with fail
    go_ret
    exact ⟨by rw [F.out]; rfl, Below.refl _ _⟩
  · obtain ⟨n, rfl⟩ : ∃ n : Nat, p = (n : Int) := ⟨p.toNat, by omega⟩
    have hn : n < t.length := by omega
    have F : Hid (wtP t (n : Int) = (ndAt t n).wt) := by show _ = _; unfold wtP; rw [if_neg hq, Int.toNat_natCast]
    obtain rfl : base = some ⟨b, o, none⟩ := h.nodes.base (by omega)
    have hb := h.nodes.lt (by omega)
    obtain ⟨-, -, c2, -, -, -⟩ := h.nodes.cells n hn
    have z0 := h.tab
    have zl := h.lt
    have n0 : (0 : Int) ≤ (n : Int) := Int.natCast_nonneg _
    have n1 : (n : Int) < (t.length : Int) := by omega
    have dq : ((n : Int) == -1) = false := by rw [beq_eq_false_iff_ne]; omega
    clear h hp hq
    generalize (ndAt t n).wt = k2 at *
    go_enter Try.func92, Try.ntmps92
    go_wp2_with fail
    go_ret
    exact ⟨by rw [F.out]; rfl, Below.refl _ _⟩
set_option maxRecDepth 100000 in
theorem isInner_any (sb : Nat) (base : Option Addr) (b o c : Nat) (t : NL) (mi : Bool) (p : Int) (w : World) (h : StAt w sb base b o c t mi) (hp : p = -1 ∨ 0 ≤ p ∧ p < t.length) :
    Calls Try.prog 93 #[.pointer (some ⟨sb, 0, none⟩), .int .i64 p] w fun e w' => e = .returned (.bool (belL t mi p != -1)) ∧ Below w.heap.size w w' := by
  have HC : Hid (Calls _ _ _ _ _) := sbelow_any sb base b o c t mi p w h hp
  clear h hp
  generalize belL t mi p = x at *
  generalize belR t mi p = y at *
  go_enter Try.func93, Try.ntmps93
  go_wp2_with fail
  refine HC.out.mono ?_
  rintro e w1 ⟨rfl, hb1⟩
  have B1 : Hid (Below w.heap.size w w1) := hb1
  clear hb1
  go_wp2_with fail
  go_ret
  exact ⟨rfl, B1.out⟩
def hasM (k : Int) : Bool := k != 1 && (k != 11 && k != 12)
set_option maxRecDepth 100000 in
theorem hasMirror_any (k : Int) (w : World) : Calls Try.prog 77 #[.int .i64 k] w fun e w' => e = .returned (.bool (hasM k)) ∧ Below w.heap.size w w' := by
  have HF : Hid (hasM k = (k != 1 && (k != 11 && k != 12))) := rfl
  cases h1 : (k != 1)
  · rw [h1] at HF
    go_enter Try.func77, Try.ntmps77
    go_wp2_with fail
    go_ret
    exact ⟨by rw [HF.out]; rfl, Below.refl _ _⟩
  · cases h2 : (k != 11)
    · rw [h1, h2] at HF
      go_enter Try.func77, Try.ntmps77
      go_wp2_with fail
      go_ret
      exact ⟨by rw [HF.out]; rfl, Below.refl _ _⟩
    · rw [h1, h2] at HF
      go_enter Try.func77, Try.ntmps77
      go_wp2_with fail
      go_ret
      exact ⟨by rw [HF.out]; rfl, Below.refl _ _⟩
end Go.Proofs.Ytfjkddjjpbdjkaa
