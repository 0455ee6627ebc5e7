/- Layer 2: awake, and CellRound's walk. -/
import Derived.Test.YtlbfkgecckdlgaaCNums2
namespace Go.Proofs.Ytlbfkgecckdlgaa
open Go.RowKit

theorem IntsTo.nums {w : World} {b n : Nat} {f : Nat → Int} (h : IntsTo w b n n f) (hb : b < w.heap.size) (hn : n ≤ maxLen) : NumsAt w (some ⟨b, 0, none⟩) b 0 n f :=
  ⟨fun _ => rfl, fun _ => hb, fun i hi => by rw [Nat.zero_add]; exact h.done i hi, hn⟩
theorem owns_nums {w : World} {B n : Nat} {v : Value} {f : Nat → Int} (h : w.ownsRow B 3 1 v n ((List.range n).map fun j => .int .i64 (f j))) (hn : n ≤ maxLen) : ∃ a c b, v = .slice a n c ∧ NumsAt w a b 0 n f := by
  obtain ⟨hl, h⟩ := h
  rcases h with ⟨rfl, rfl⟩ | ⟨g, cap, cur, rfl, hg, hh, h1, h2, h3, h4⟩
  · exact ⟨none, 0, 0, rfl, fun h => absurd rfl h, fun h => absurd rfl h, fun i hi => by omega, hn⟩
  · refine ⟨_, _, g, rfl, fun _ => rfl, fun _ => (Array.getElem?_eq_some_iff.1 hh).1, fun i hi => ?_, hn⟩
    have := World.news_of_block hh i (.int .i64 (f i)) (by
      have e : (cur.toList.take (n * 1))[i]? = some (.int .i64 (f i)) := by rw [h4]; simp [hi]
      rw [List.getElem?_take] at e
      split at e
      · exact e
      · cases e)
    rw [Nat.zero_add]
    unfold Addr.add at this
    split at this
    · rename_i h0
      subst h0
      exact this
    · simpa using this

theorem lit1 (w : World) (t : TypeId) (a : Int) (F : Nat → Int) (h : F 0 = a) : NumsAt (w.alloc (.cells #[.int .i64 a] t)) (some ⟨w.heap.size, 0, none⟩) w.heap.size 0 1 F :=
  ⟨fun _ => rfl, fun _ => by simp, fun i hi => by obtain rfl : i = 0 := by omega
                                                  simp [h], by unfold maxLen; omega⟩
theorem lit2 (w : World) (t : TypeId) (a b : Int) (F : Nat → Int) (h : F 0 = a) (k : F 1 = b) : NumsAt (w.alloc (.cells #[.int .i64 a, .int .i64 b] t)) (some ⟨w.heap.size, 0, none⟩) w.heap.size 0 2 F := by
  refine ⟨fun _ => rfl, fun _ => by simp, fun i hi => ?_, by unfold maxLen; omega⟩
  have : i = 0 ∨ i = 1 := by omega
  rcases this with rfl | rfl
  · simp [h]
  · simp [k]

def wf : Nat → Int := fun _ => 5
def wk : Nat → Int := fun j => if j = 0 then 3 else 5
def wi : Nat → Int := fun _ => 0
def wa : Nat → Int := fun j => if j = 0 then 3 else 8
def wb : Nat → Int := fun j => if j = 0 then 0 else 9

theorem awake_nums (w : World) : Calls Try.prog 13 #[.slice (some ⟨w.heap.size, 0, none⟩) 1 1, .slice (some ⟨w.heap.size + 1, 0, none⟩) 2 2] ((w.alloc (.cells #[.int .i64 5] 3)).alloc (.cells #[.int .i64 3, .int .i64 0, .int .i64 3, .int .i64 0, .int .i64 5, .int .i64 0, .int .i64 8, .int .i64 9] 36))
    fun e w' => ∃ b1 b2 a3 c3 b3, e = .returned (.tuple #[.slice (some ⟨b1, 0, none⟩) 2 2, .slice (some ⟨b2, 0, none⟩) 1 1, .slice a3 2 c3, .int .i64 0]) ∧ Below w.heap.size w w' ∧ NumsAt w' (some ⟨b1, 0, none⟩) b1 0 2 (cso wf wk wi wa wb) ∧ NumsAt w' (some ⟨b2, 0, none⟩) b2 0 1 (csn wf wk wi wa wb 2) ∧ NumsAt w' a3 b3 0 2 wk := by
  have hB : Below w.heap.size w ((w.alloc (.cells #[.int .i64 5] 3)).alloc (.cells #[.int .i64 3, .int .i64 0, .int .i64 3, .int .i64 0, .int .i64 5, .int .i64 0, .int .i64 8, .int .i64 9] 36)) := ((Below.refl _ _).alloc (Nat.le_refl _) _).alloc (by simp) _
  refine (nums_ok w.heap.size 0 1 1 (w.heap.size + 1) 0 2 2 (some ⟨w.heap.size, 0, none⟩) (some ⟨w.heap.size + 1, 0, none⟩) wf wk wi wa wb _ ((lit1 w 3 5 wf rfl).below ((Below.refl _ _).alloc (Nat.le_refl _) _)) ?_ (by omega) (by omega) (by decide)).mono ?_
  · refine ⟨fun _ => rfl, fun _ => by simp, fun i hi => ?_, by unfold maxLen; omega⟩
    have : i = 0 ∨ i = 1 := by omega
    rcases this with rfl | rfl
    · simp [wk, wi, wa, wb]
    · simp [wk, wi, wa, wb]
  · rintro e w' ⟨b1, b2, v, rfl, hb, q1, q2, q3, q4, h1, h2, h3⟩
    obtain ⟨a3, c3, b3, rfl, h3'⟩ := owns_nums h3 (by unfold maxLen; omega)
    exact ⟨b1, b2, a3, c3, b3, rfl, hB.trans (hb.mono (by simp; omega)), h1.nums q2 (by unfold maxLen; omega), h2.nums q4 (by unfold maxLen; omega), h3'⟩

set_option maxRecDepth 100000 in
set_option maxHeartbeats 1000000 in
theorem awake_any (w : World) : Calls Try.prog 11 #[] w fun e w' => e = .returned (.bool true) ∧ Below w.heap.size w w' := by
  go_enter Try.func11, Try.ntmps11
  go_wp2_with fail
  refine (awake_nums w).mono ?_
  rintro e w1 ⟨b1, b2, a3, c3, b3, rfl, hb1, h1, h2, h3⟩
  have H1 : Hid _ := h1
  have H2 : Hid _ := h2
  have H3 : Hid _ := h3
  have HB : Hid _ := hb1
  clear h1 h2 h3 hb1
  go_wp2_with fail
  refine (ints_same b1 0 w1.heap.size 0 2 2 2 _ _ (cso wf wk wi wa wb) _ (H1.out.below ((Below.refl _ _).alloc (Nat.le_refl _) _)) (lit2 w1 3 8 1 _ (by decide) (by decide))).mono ?_
  rintro e w2 ⟨rfl, hb2⟩
  have hB2 : Below w1.heap.size w1 w2 := ((Below.refl _ _).alloc (Nat.le_refl _) _).trans (hb2.mono (by simp))
  have HB2 : Hid _ := hB2
  clear hb2 hB2
  go_wp2_with fail
  refine (ints_same b2 0 w2.heap.size 0 1 1 1 _ _ (csn wf wk wi wa wb 2) _ ((H2.out.below HB2.out).below ((Below.refl _ _).alloc (Nat.le_refl _) _)) (lit1 w2 3 9 _ (by decide))).mono ?_
  rintro e w3 ⟨rfl, hb3⟩
  have hB3 : Below w1.heap.size w1 w3 := HB2.out.trans ((((Below.refl _ _).alloc (Nat.le_refl _) _).trans (hb3.mono (by simp))).mono HB2.out.size)
  have HB3 : Hid _ := hB3
  clear hb3 hB3
  go_wp2_with fail
  refine (ints_same b3 0 w3.heap.size 0 2 c3 2 _ _ wk _ ((H3.out.below HB3.out).below ((Below.refl _ _).alloc (Nat.le_refl _) _)) (lit2 w3 3 3 5 _ (by decide) (by decide))).mono ?_
  rintro e w4 ⟨rfl, hb4⟩
  have hB4 : Below w1.heap.size w1 w4 := HB3.out.trans ((((Below.refl _ _).alloc (Nat.le_refl _) _).trans (hb4.mono (by simp))).mono HB3.out.size)
  have HB4 : Hid _ := hB4
  clear hb4 hB4
  go_wp2
  go_ret
  exact ⟨rfl, HB.out.trans (HB4.out.mono HB.out.size)⟩
end Go.Proofs.Ytlbfkgecckdlgaa
