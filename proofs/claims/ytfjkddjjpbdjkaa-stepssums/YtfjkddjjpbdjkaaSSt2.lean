
/- Layer 18: isMove, isOfKeys; a change's with. -/

import Derived.Test.YtfjkddjjpbdjkaaSSt1

import Derived.Test.YtfjkddjjpbdjkaaTMir

namespace Go.Proofs.Ytfjkddjjpbdjkaa

open Go.RowKit

attribute [local go_sem ↓] Go.wp_at_zero Go.wp_at_succ

def mvB (k : Int) (mi : Bool) : Bool := decide (1 ≤ k) && (decide (k ≤ 12) && (!mi || hasM k))
set_option maxRecDepth 100000 in
set_option maxHeartbeats 1000000 in
theorem isMove_any (k : Int) (mi : Bool) (w : World) : Calls Try.prog 90 #[.agg #[.int .i64 k, .bool mi]] w fun e w' => e = .returned (.bool (mvB k mi)) ∧ Below w.heap.size w w' := by
  have HF : Hid (mvB k mi = (decide (1 ≤ k) && (decide (k ≤ 12) && (!mi || hasM k)))) := rfl
  have HH : Hid (∀ W, Calls Try.prog 77 #[.int .i64 k] W fun e w' => e = .returned (.bool (hasM k)) ∧ Below W.heap.size W w') := fun W => hasMirror_any k W
  have B0 : Hid (Below w.heap.size w (w.alloc (.cells #[.int .i64 k, .bool mi] 39))) := below_alloc _ _
  generalize hasM k = hm at *
  cases h1 : decide (1 ≤ k)
  · rw [h1] at HF
    go_enter Try.func90, Try.ntmps90
    go_wp2_with fail
    go_ret
    exact ⟨by rw [HF.out]; rfl, B0.out⟩
  · cases h2 : decide (k ≤ 12)
    · rw [h1, h2] at HF
      go_enter Try.func90, Try.ntmps90
      go_wp2_with fail
      go_ret
      exact ⟨by rw [HF.out]; rfl, B0.out⟩
    · rw [h1, h2] at HF
      cases mi
      · go_enter Try.func90, Try.ntmps90
        go_wp2_with fail
        go_ret
        exact ⟨by rw [HF.out]; rfl, B0.out⟩
      · go_enter Try.func90, Try.ntmps90
        go_wp2_with (first | (go_at_call 77; refine (HH.out _).mono ?_; rintro e w1 ⟨rfl, hb1⟩; have B1 : Hid (Below w.heap.size w w1) := B0.out.trans (hb1.mono B0.out.size); clear hb1))
        go_ret
        exact ⟨by rw [HF.out]; rfl, B1.out⟩
/-- Is it a place, and none of the crown's? -/
def ofK (t : NL) (p : Int) : Bool := decide (0 < p) && (decide (p < t.length) && (p != (ndAt t 0).r && (p != (ndAt t 0).l && p != (ndAt t (ndAt t 0).l.toNat).r)))
set_option maxRecDepth 100000 in
set_option maxHeartbeats 1000000 in
theorem isOfKeys_any (base : Option Addr) (b o c : Nat) (t : NL) (p : Int) (w : World) (h : NodesAt w base b o t) (hpos : 0 < t.length) (hl : 0 ≤ (ndAt t 0).l ∧ (ndAt t 0).l < t.length) :
    Calls Try.prog 60 #[.slice base t.length c, .int .i64 p] w fun e w' => e = .returned (.bool (ofK t p)) ∧ Below w.heap.size w w' := by
  obtain rfl : base = some ⟨b, o, none⟩ := h.base (by omega)
  have hb := h.lt (by omega)
  obtain ⟨l, hl'⟩ : ∃ l : Nat, (ndAt t 0).l = (l : Int) := ⟨(ndAt t 0).l.toNat, by omega⟩
  have hll : l < t.length := by omega
  obtain ⟨-, -, -, -, c4, c5⟩ := h.cells 0 hpos
  obtain ⟨-, -, -, -, -, d5⟩ := h.cells l hll
  have HF : Hid (ofK t p = (decide (0 < p) && (decide (p < t.length) && (p != (ndAt t 0).r && (p != (l : Int) && p != (ndAt t l).r))))) := by show _ = _; unfold ofK; rw [hl', Int.toNat_natCast]
  rw [hl'] at c4
  simp only [Nat.zero_mul, Nat.add_zero] at c4 c5
  have p0 : (0 : Int) < (t.length : Int) := by omega
  have l0 : (0 : Int) ≤ (l : Int) := Int.natCast_nonneg _
  have l1 : (l : Int) < (t.length : Int) := by omega
  clear h hl hl'
  generalize (ndAt t 0).r = r at *
  generalize (ndAt t l).r = s at *
  cases h1 : decide (0 < p)
  · rw [h1] at HF
    go_enter Try.func60, Try.ntmps60
    go_wp2_with fail
    go_ret
    exact ⟨by rw [HF.out]; rfl, Below.refl _ _⟩
  · cases h2 : decide (p < t.length)
    · rw [h1, h2] at HF
      go_enter Try.func60, Try.ntmps60
      go_wp2_with fail
      go_ret
      exact ⟨by rw [HF.out]; rfl, Below.refl _ _⟩
    · cases h3 : (p != r)
      · rw [h1, h2, h3] at HF
        go_enter Try.func60, Try.ntmps60
        go_wp2_with fail
        go_ret
        exact ⟨by rw [HF.out]; rfl, Below.refl _ _⟩
      · cases h4 : (p != (l : Int))
        · rw [h1, h2, h3, h4] at HF
          go_enter Try.func60, Try.ntmps60
          go_wp2_with fail
          go_ret
          exact ⟨by rw [HF.out]; rfl, Below.refl _ _⟩
        · rw [h1, h2, h3, h4] at HF
          go_enter Try.func60, Try.ntmps60
          go_wp2_with fail
          go_ret
          exact ⟨by rw [HF.out]; rfl, Below.refl _ _⟩
end Go.Proofs.Ytfjkddjjpbdjkaa
