/- Layer 2: LarchIdentity's helpers. -/
import Derived.Test.YtlbfkgecckdlgaaCIdLaw
namespace Go.Proofs.Ytlbfkgecckdlgaa
open Go.RowKit

set_option maxRecDepth 100000 in
set_option maxHeartbeats 1000000 in
theorem sameInts_same (ab ao bb bo n ca cb : Nat) (x y : Option Addr) (f : Nat → Int) (w : World) (h : NumsAt w x ab ao n f) (k : NumsAt w y bb bo n f) :
    Calls Try.prog 46 #[.slice x n ca, .slice y n cb] w fun e w' => e = .returned (.bool true) ∧ Below w.heap.size w w' := by
  have hn := h.len
  unfold maxLen at hn
  have H1 : Hid _ := h
  have H2 : Hid _ := k
  clear h k
  go_enter Try.func46, Try.ntmps46
  go_wp2_with fail
  go_loopw [13] (fun i wr => ∃ j : Nat, j ≤ n ∧ i = .int .i64 j ∧ Below w.heap.size w wr) (fun i _ => n - (intOf i).toNat)
  case atStart => exact ⟨0, Nat.zero_le _, rfl, Below.refl _ _⟩
  case round =>
    obtain ⟨j, hj, rfl, hnx⟩ := hrel
    by_cases hlt : j < n
    · obtain rfl : x = some ⟨ab, ao, none⟩ := H1.out.base (by omega)
      obtain rfl : y = some ⟨bb, bo, none⟩ := H2.out.base (by omega)
      have x0 := (H1.out.below hnx).cells j hlt
      have y0 := (H2.out.below hnx).cells j hlt
      have j0 : (0 : Int) ≤ (j : Int) := Int.natCast_nonneg _
      have j1 : (j : Int) < (n : Int) := by omega
      have HX : Hid _ := hnx
      clear hnx
      go_wp2_with fail
      go_quiet (fail)
      go_wp2
      exact ⟨⟨j + 1, by omega, by go_num, below_drewN HX.out _⟩, by simp [intOf]; omega⟩
    · obtain rfl : j = n := by omega
      go_wp2
      go_ret
      exact ⟨rfl, hnx⟩

set_option maxRecDepth 100000 in
set_option maxHeartbeats 1000000 in
theorem copyInts_any (b o n c : Nat) (x : Option Addr) (f : Nat → Int) (w : World) (h : NumsAt w x b o n f) (hx : x = none → n = 0 ∧ c = 0) (hn : n * 8 ≤ 140737488355328) :
    Calls Try.prog 47 #[.slice x n c] w fun e w' => ∃ g cap, e = .returned (.slice (some ⟨g, 0, none⟩) n cap) ∧ w.heap.size ≤ g ∧ g < w'.heap.size ∧ IntsTo w' g n n f ∧ Below w.heap.size w w' := by
  obtain ⟨i0, hi0, hz0, hz1, hz2⟩ := info_parts int_info
  have hB : Below w.heap.size w (w.alloc (.cells #[] 3)) := (Below.refl _ _).alloc (Nat.le_refl _) _
  have ho : (w.alloc (.cells #[] 3)).ownsRow w.heap.size 3 1 (.slice (some ⟨w.heap.size, 0, none⟩) 0 0) 0 [] := ⟨rfl, Or.inr ⟨w.heap.size, 0, #[], rfl, Nat.le_refl _, heap_alloc_at _ _ _ rfl, Nat.le_refl _, by unfold maxLen; omega, rfl, rfl⟩⟩
  have hnews : ∀ ad, x = some ad → ∀ j u, ((List.range n).map fun j => Value.int .i64 (f j))[j]? = some u → (w.alloc (.cells #[] 3)).cell? (ad.add j) = some u := by
    intro ad hxa j u hu
    have hj : j < n := by
      have := List.getElem?_eq_some_iff.1 hu
      obtain ⟨q, _⟩ := this
      simpa using q
    have h0 := (h.below hB).base (by omega)
    rw [hxa] at h0
    cases h0
    have := (h.below hB).cells j hj
    rw [List.getElem?_map, List.getElem?_range hj] at hu
    simp at hu
    rw [← hu]
    unfold Addr.add
    split
    · rename_i q; subst q; simpa using this
    · exact this
  have HO : Hid (World.ownsRow _ _ _ _ _ _ _) := ho
  have HN : Hid _ := hnews
  have hlen := h.len
  clear ho hnews
  go_enter Try.func47, Try.ntmps47
  go_wp2_with (first | (at_builtin; (refine wpList_append_all (by rfl) _ _ _ (by rfl) w.heap.size 3 i0 _ 1 8 ints_under hi0 hz0 hz1 hz2 rfl (by omega) _ 0 [] (by rfl) HO.out x n c ((List.range n).map fun j => Value.int .i64 (f j)) (by rfl) hx (by simp) HN.out (by simp [Value.oneCell']) (by omega) (by omega) (by simp) ?_); intro v' w1 hown1 hgrow hnil))
  go_ret
  have hown2 : w1.ownsRow w.heap.size 3 1 v' n ((List.range n).map fun j => Value.int .i64 (f j)) := by simpa using hown1
  obtain ⟨g, cap, rfl, q1, q2, q3⟩ := owns_ints hown2 (fun e => by have := hnil.1 e; cases this.1)
  refine ⟨g, cap, rfl, q1, q2, q3, ?_⟩
  exact Below.grown hB hgrow (by simp) (by intro b hb; simp [Value.ownBlock] at hb; omega)

def lf : Nat → Int := fun _ => 0
def lk : Nat → Int := fun j => if j = 2 then 1 else 5
def li : Nat → Int := fun _ => 0
def la : Nat → Int := fun j => if j = 0 then 1 else 0
def lb : Nat → Int := fun j => if j = 2 then 0 else 1

theorem lit_ids (w : World) : Calls Try.prog 42 #[.slice (some ⟨w.heap.size, 0, none⟩) 1 1, .int .i64 2, .slice (some ⟨w.heap.size + 1, 0, none⟩) 3 3] ((w.alloc (.cells #[.int .i64 0] 3)).alloc (.cells #[.int .i64 5, .int .i64 0, .int .i64 1, .int .i64 1, .int .i64 5, .int .i64 0, .int .i64 0, .int .i64 1, .int .i64 1, .int .i64 0, .int .i64 0, .int .i64 0] 36))
    fun e w' => ∃ a1 c1 g1 a2 c2 g2 a3 c3 g3, e = .returned (.tuple #[.slice a1 3 c1, .slice a2 1 c2, .slice a3 3 c3, .int .i64 0]) ∧ Below w.heap.size w w' ∧ NumsAt w' a1 g1 0 3 (cso lf lk li la lb) ∧ NumsAt w' a2 g2 0 1 (csn lf lk li la lb 3) ∧ NumsAt w' a3 g3 0 3 lk := by
  have hB : Below w.heap.size w ((w.alloc (.cells #[.int .i64 0] 3)).alloc (.cells #[.int .i64 5, .int .i64 0, .int .i64 1, .int .i64 1, .int .i64 5, .int .i64 0, .int .i64 0, .int .i64 1, .int .i64 1, .int .i64 0, .int .i64 0, .int .i64 0] 36)) := ((Below.refl _ _).alloc (Nat.le_refl _) _).alloc (by simp) _
  refine (ids_out w.heap.size 0 1 1 (w.heap.size + 1) 0 3 3 2 (some ⟨w.heap.size, 0, none⟩) (some ⟨w.heap.size + 1, 0, none⟩) lf lk li la lb _ ((lit1 w 3 0 lf rfl).below ((Below.refl _ _).alloc (Nat.le_refl _) _)) ?_ (by omega) (by omega) (by omega) (by decide) (by decide)).mono ?_
  · refine ⟨fun _ => rfl, fun _ => by simp, fun i hi => ?_, by unfold maxLen; omega⟩
    have : i = 0 ∨ i = 1 ∨ i = 2 := by omega
    rcases this with rfl | rfl | rfl
    · simp [lk, li, la, lb]
    · simp [lk, li, la, lb]
    · simp [lk, li, la, lb]
  · rintro e w' ⟨a1, c1, g1, a2, c2, g2, a3, c3, g3, rfl, hb, h1, h2, h3⟩
    exact ⟨a1, c1, g1, a2, c2, g2, a3, c3, g3, rfl, hB.trans (hb.mono (by simp; omega)), h1, h2, h3⟩
theorem lit3 (w : World) (t : TypeId) (a b c : Int) (F : Nat → Int) (h : F 0 = a) (k : F 1 = b) (l : F 2 = c) : NumsAt (w.alloc (.cells #[.int .i64 a, .int .i64 b, .int .i64 c] t)) (some ⟨w.heap.size, 0, none⟩) w.heap.size 0 3 F := by
  refine ⟨fun _ => rfl, fun _ => by simp, fun i hi => ?_, by unfold maxLen; omega⟩
  have : i = 0 ∨ i = 1 ∨ i = 2 := by omega
  rcases this with rfl | rfl | rfl
  · simp [h]
  · simp [k]
  · simp [l]
end Go.Proofs.Ytlbfkgecckdlgaa
