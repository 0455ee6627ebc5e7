
/- Layer 28: the empty text: Run of it. -/

import Derived.Test.YtgiblcieplnncaaGreatDoorHNew

import Derived.Test.YtgiblcieplnncaaGreatDoorHTl1

namespace Go.Proofs.YtgiblcieplnncaaGreatDoor

open Go.RowKit

attribute [local go_sem ↓] Go.wp_at_zero Go.wp_at_succ

/-- A call that makes something and answers where it lies. -/
def Makes (w : World) (e : Ending) (w' : World) : Prop := ∃ g v, e = .returned (.pointer (some ⟨g, 0, none⟩)) ∧ w.heap.size ≤ g ∧ w'.cell? ⟨g, 0, none⟩ = some v ∧ Below w.heap.size w w'
theorem leaf_any (a b c d : Int) (w : World) : Calls Tryz.prog 144 #[.int .i64 a, .int .i64 b, .int .i64 c, .int .i64 d] w fun e w' => Makes w e w' := by
  go_enter Tryz.func144, Tryz.ntmps144
  go_wp2_with (first | (go_at_call 156; refine (new_any a b c d true none 0 0 _ (by omega) (fun j hj => by omega)).mono ?_; rintro e w1 ⟨g, v, rfl, h1, h2, h3⟩; have M : Hid (Makes _ _ _) := ⟨g, v, rfl, h1, h2, h3⟩; clear h1 h2 h3))
  go_ret
  exact M.out
theorem inner_any (a b c : Int) (p q : Nat) (u v : Value) (w : World) (hp : p < w.heap.size) (hq : q < w.heap.size) (hu : w.cell? ⟨p, 0, none⟩ = some u) (hv : w.cell? ⟨q, 0, none⟩ = some v) : Calls Tryz.prog 143 #[.int .i64 a, .int .i64 b, .int .i64 c, .pointer (some ⟨p, 0, none⟩), .pointer (some ⟨q, 0, none⟩)] w fun e w' => Makes w e w' := by
  obtain ⟨W, hW⟩ : ∃ W, W = w.alloc (.cells #[.pointer (some ⟨p, 0, none⟩), .pointer (some ⟨q, 0, none⟩)] 167) := ⟨_, rfl⟩
  have B0 : Hid (Below w.heap.size w W) := by rw [hW]; exact below_alloc _ _
  have hb : W.heap[w.heap.size]? = some (.cells #[.pointer (some ⟨p, 0, none⟩), .pointer (some ⟨q, 0, none⟩)] 167) := by rw [hW]; exact heap_alloc_at _ _ _ rfl
  have hz : w.heap.size < W.heap.size := (Array.getElem?_eq_some_iff.1 hb).1
  have HN : Hid (∀ j, j < 2 → some (⟨w.heap.size, 0, none⟩ : Addr) = some ⟨w.heap.size, 0, none⟩ ∧ w.heap.size < W.heap.size ∧ ∃ q v, q < W.heap.size ∧ W.cell? ⟨w.heap.size, j, none⟩ = some (.pointer (some ⟨q, 0, none⟩)) ∧ W.cell? ⟨q, 0, none⟩ = some v) := by
    intro j hj
    refine ⟨rfl, hz, ?_⟩
    rcases (by omega : j = 0 ∨ j = 1) with rfl | rfl
    · exact ⟨p, u, by omega, by simp only [World.cell?, hb]; rfl, (B0.out.cell (p := ⟨p, 0, none⟩) hp).trans hu⟩
    · exact ⟨q, v, by omega, by simp only [World.cell?, hb]; rfl, (B0.out.cell (p := ⟨q, 0, none⟩) hq).trans hv⟩
  have HC : Hid (Calls Tryz.prog 156 #[.agg #[.int .i64 a, .int .i64 b, .int .i64 c, .int .i64 0, .bool false], .slice (some ⟨w.heap.size, 0, none⟩) 2 2] W fun e w' => Makes w e w') := by
    refine (new_any a b c 0 false _ w.heap.size 2 W (by omega) HN.out).mono ?_
    rintro e w1 ⟨g, v, rfl, h1, h2, h3⟩
    exact ⟨g, v, rfl, by omega, h2, B0.out.trans (h3.mono B0.out.size)⟩
  clear HN hb hz hp hq hu hv B0
  subst hW
  go_enter Tryz.func143, Tryz.ntmps143
  go_wp2_with (first | (go_at_call 156; refine HC.out.mono ?_; rintro e w1 ⟨g, v, rfl, h1, h2, h3⟩; have M : Hid (Makes _ _ _) := ⟨g, v, rfl, h1, h2, h3⟩; clear h1 h2 h3))
  go_ret
  exact M.out
theorem entry_any (w : World) : Calls Tryz.prog 117 #[] w fun e w' => Makes w e w' := by
  go_enter Tryz.func117, Tryz.ntmps117
  have K0 : Hid True := trivial
  go_wp2_with (first
    | (go_at_call 144; have q := K0; refine (leaf_any _ _ _ _ _).mono ?_; rintro e w1 ⟨g1, v1, rfl, h1, h2, h3⟩; have B1 : Hid (Below w.heap.size w w1) := h3; have C1 : Hid (w1.cell? ⟨g1, 0, none⟩ = some v1) := h2; have l1 : g1 < w1.heap.size := World.block_lt_of_cell? w1 _ h2; clear q K0 h1 h2 h3)
    | (go_at_call 144; have q := B1; refine (leaf_any _ _ _ _ _).mono ?_; rintro e w2 ⟨g2, v2, rfl, h1, h2, h3⟩; have B2 : Hid (Below w.heap.size w w2) := B1.out.trans (h3.mono B1.out.size); have C2 : Hid (w2.cell? ⟨g1, 0, none⟩ = some v1) := (h3.cell (p := ⟨g1, 0, none⟩) l1).trans C1.out; have D2 : Hid (w2.cell? ⟨g2, 0, none⟩ = some v2) := h2; clear q B1 h1 h2 h3)
    | (go_at_call 143; refine (inner_any _ _ _ g1 g2 v1 v2 _ (World.block_lt_of_cell? w2 _ C2.out) (World.block_lt_of_cell? w2 _ D2.out) C2.out D2.out).mono ?_; rintro e w3 ⟨g3, v3, rfl, h1, h2, h3⟩; have M : Hid (Makes w (.returned (.pointer (some ⟨g3, 0, none⟩))) w3) := ⟨g3, v3, rfl, Nat.le_trans B2.out.size h1, h2, B2.out.trans (h3.mono B2.out.size)⟩; clear h1 h2 h3))
  go_ret
  exact M.out
set_option maxRecDepth 100000 in
set_option maxHeartbeats 1000000 in
theorem handle_any (g q : Nat) (w : World) (hc : w.cell? ⟨g, 0, none⟩ = some (.pointer (some ⟨q, 0, none⟩))) : Calls Tryz.prog 77 #[.pointer (some ⟨g, 0, none⟩), .nilIface] w fun e w' => (∃ v, e = .returned v) ∧ Below w.heap.size w w' := by
  have HR : Hid (Calls Tryz.prog 100 #[.pointer (some ⟨g, 0, none⟩)] w fun e w' => e = .returned (.pointer (some ⟨q, 0, none⟩)) ∧ w' = w) := by
    show Calls _ _ _ _ _
    go_enter Tryz.func100, Tryz.ntmps100
    go_wp2_with fail
    go_ret
    exact ⟨rfl, rfl⟩
  clear hc
  go_enter Tryz.func77, Tryz.ntmps77
  go_wp2_with (first | (go_at_call 100; refine HR.out.mono ?_; rintro e w1 ⟨rfl, rfl⟩))
  go_ret
  exact ⟨⟨_, rfl⟩, below_alloc _ _⟩
set_option maxRecDepth 100000 in
set_option maxHeartbeats 1000000 in
theorem of_nil (w : World) : Calls Tryz.prog 74 #[.slice none 0 0] w fun e w' => ∃ g, e = .returned (.pointer (some ⟨g, 0, none⟩)) ∧ Below w.heap.size w w' := by
  have HNW : Hid (Calls Tryz.prog 96 #[] w fun e w' => ∃ g q, e = .returned (.pointer (some ⟨g, 0, none⟩)) ∧ w'.cell? ⟨g, 0, none⟩ = some (.pointer (some ⟨q, 0, none⟩)) ∧ w.heap.size ≤ g ∧ Below w.heap.size w w') := by
    show Calls _ _ _ _ _
    go_enter Tryz.func96, Tryz.ntmps96
    go_wp2_with (first | (go_at_call 117; refine (entry_any _).mono ?_; rintro e w1 ⟨g1, v1, rfl, h1, h2, h3⟩; have B1 : Hid (Below w.heap.size w w1) := h3; clear h1 h2 h3))
    go_ret
    exact ⟨_, g1, rfl, by simp, B1.out.size, B1.out.alloc B1.out.size _⟩
  go_enter Tryz.func74, Tryz.ntmps74
  go_wp2_with (first | (go_at_call 96; refine HNW.out.mono ?_; rintro e w1 ⟨g1, q1, rfl, c1, h2, h3⟩; have B1 : Hid (Below w.heap.size w w1) := h3; have HC1 : Hid _ := c1; clear h2 h3 c1) | (go_at_call 77; refine (handle_any _ _ _ HC1.out).mono ?_; rintro e w2 ⟨⟨v2, rfl⟩, h3⟩; have B2 : Hid (Below w.heap.size w w2) := B1.out.trans (h3.mono B1.out.size); clear h3))
  go_loopw [12] (fun vi wr => vi = .int .i64 0 ∧ Below w.heap.size w wr) (fun _ _ => 0)
  case atStart => exact ⟨rfl, B2.out⟩
  case round =>
    obtain ⟨rfl, hb⟩ := hrel
    have BR : Hid (Below w.heap.size w _) := hb
    clear hb
    go_wp2_with fail
    go_ret
    exact ⟨_, rfl, BR.out⟩
set_option maxRecDepth 100000 in
set_option maxHeartbeats 1000000 in
theorem kinds_nil (k : Int) (w : World) : Calls Tryz.prog 73 #[.int .i64 k, .slice none 0 0] w fun e w' => e = .returned (.int .i64 0) ∧ Below w.heap.size w w' := by
  go_enter Tryz.func73, Tryz.ntmps73
  go_wp2_with fail
  go_loopw [9] (fun vi wr => vi = .int .i64 0 ∧ Below w.heap.size w wr) (fun _ _ => 0)
  case atStart => exact ⟨rfl, below_alloc _ _⟩
  case round =>
    obtain ⟨rfl, hb⟩ := hrel
    have BR : Hid (Below w.heap.size w _) := hb
    clear hb
    go_wp2_with fail
    go_ret
    exact ⟨rfl, BR.out⟩
theorem crew_zero (w : World) : Calls Tryz.prog 120 #[.int .i64 0] w fun e w' => e = .returned (.bool false) ∧ w' = w := by
  go_enter Tryz.func120, Tryz.ntmps120
  go_wp2_with fail
  go_ret
  exact ⟨rfl, rfl⟩
theorem picks_nil (w : World) : Calls Tryz.prog 121 #[.slice none 0 0] w fun e w' => e = .returned (.bool false) ∧ w' = w := by
  go_enter Tryz.func121, Tryz.ntmps121
  go_wp2_with fail
  go_ret
  exact ⟨rfl, rfl⟩
theorem long_nil (w : World) : Calls Tryz.prog 122 #[.slice none 0 0] w fun e w' => e = .returned (.bool false) ∧ w' = w := by
  go_enter Tryz.func122, Tryz.ntmps122
  go_wp2_with fail
  go_loopw [7] (fun vi wr => vi = .int .i64 0 ∧ wr = w) (fun _ _ => 0)
  case atStart => exact ⟨rfl, rfl⟩
  case round =>
    obtain ⟨rfl, rfl⟩ := hrel
    go_wp2_with fail
    go_ret
    exact ⟨rfl, rfl⟩
theorem refusal_any (b : Bool) (w : World) : Calls Tryz.prog 119 #[.bool true, .bool b] w fun e w' => e = .returned (.int .i64 1) ∧ w' = w := by
  go_enter Tryz.func119, Tryz.ntmps119
  go_wp2_with fail
  go_ret
  exact ⟨rfl, rfl⟩
theorem opsError_nil (w : World) : Calls Tryz.prog 98 #[.slice none 0 0, .slice none 0 0] w fun e w' => e = .returned (.int .i64 1) ∧ w' = w := by
  go_enter Tryz.func98, Tryz.ntmps98
  go_wp2_with (first | (go_at_call 120; refine (crew_zero _).mono ?_; rintro e w1 ⟨rfl, rfl⟩) | (go_at_call 121; refine (picks_nil _).mono ?_; rintro e w1 ⟨rfl, rfl⟩) | (go_at_call 122; refine (long_nil _).mono ?_; rintro e w1 ⟨rfl, rfl⟩) | (go_at_call 119; refine (refusal_any _ _).mono ?_; rintro e w1 ⟨rfl, rfl⟩))
  go_ret
  exact ⟨rfl, rfl⟩
end Go.Proofs.YtgiblcieplnncaaGreatDoor
