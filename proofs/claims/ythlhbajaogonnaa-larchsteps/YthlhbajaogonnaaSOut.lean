
/- Layer 18: takenOut of the program. Made by mk_sout.py. -/

import Derived.Test.YthlhbajaogonnaaSHere

namespace Go.Proofs.Ythlhbajaogonnaa

open Go.RowKit

attribute [local go_sem ↓] Go.wp_at_zero Go.wp_at_succ

/-- A row of numbers that is ours. -/
structure IntR (w0 x : World) (v : Value) (V : List Int) : Prop where
  own : x.ownsRow w0.heap.size 3 1 v V.length (V.map (Value.int .i64))
  below : Below w0.heap.size w0 x
theorem IntR.down {w w1 x : World} {v : Value} {V : List Int} (h : IntR w1 x v V) (hb : Below w.heap.size w w1) : IntR w x v V :=
  ⟨owns_down h.own hb.size, hb.trans (h.below.mono hb.size)⟩
theorem IntR.nil {w x : World} (h : Below w.heap.size w x) : IntR w x (.slice .none 0 0) [] := ⟨World.ownsRow_nil _ _ _ _, h⟩
/-- The places that a step takes out. -/
def outI (k : Int) (x l L R lr rl rr rll rlr : Int) : List Int :=
  if k = 1 then [x, L, R]
  else if k = 2 then [x, l]
  else if k = 3 then [x, l, lr]
  else if k = 4 then [x, L, R]
  else if k = 5 then [x, L, R, rl]
  else if k = 6 then [x, L, R, rl]
  else if k = 7 then [x, L, R, rl, rll]
  else if k = 8 then [x, L, R, rl, rlr]
  else if k = 9 then [x, L, R, rr]
  else if k = 10 then [x, L, R, rl]
  else if k = 11 then [x, L, R]
  else [x]
set_option maxRecDepth 100000 in
set_option maxHeartbeats 4000000 in
theorem takenOut1 (sb : Nat) (base : Option Addr) (b o c : Nat) (t : NL) (root : Int) (mi : Bool) (x l r ll lr rl rr rll rlr : Int) (w : World) (h : SBox w sb base b o c t root mi x l r ll lr rl rr rll rlr) :
    Calls Try.prog 47 #[.pointer (some ⟨sb, 0, none⟩), .int .i64 1] w fun e w' => ∃ v, e = .returned v ∧ IntR w w' v [x, (if mi then r else l), (if mi then l else r)] := by
  have HB0 : Hid (Below w.heap.size w w.drew) := (Below.refl _ _).drew
  have HS : Hid (SBox w sb base b o c t root mi x l r ll lr rl rr rll rlr) := h
  have CC : Hid (∀ z, Below w.heap.size w z → sb < z.heap.size ∧ z.cell? ⟨sb, 3, none⟩ = some (.int .i64 x) ∧ z.cell? ⟨sb, 4, none⟩ = some (.int .i64 l) ∧ z.cell? ⟨sb, 5, none⟩ = some (.int .i64 r) ∧ z.cell? ⟨sb, 7, none⟩ = some (.int .i64 lr) ∧ z.cell? ⟨sb, 8, none⟩ = some (.int .i64 rl) ∧ z.cell? ⟨sb, 9, none⟩ = some (.int .i64 rr) ∧ z.cell? ⟨sb, 10, none⟩ = some (.int .i64 rll) ∧ z.cell? ⟨sb, 11, none⟩ = some (.int .i64 rlr)) := fun z hz => by have q := h.below hz; exact ⟨q.lt, q.c3, q.c4, q.c5, q.c7, q.c8, q.c9, q.c10, q.c11⟩
  have TU : Hid (∀ W, W.cell? ⟨sb, 2, none⟩ = some (.bool mi) → Calls Try.prog 78 #[.pointer (some ⟨sb, 0, none⟩), .int .i64 l, .int .i64 r] W fun e w' => e = .returned (.tuple #[.int .i64 (if mi then r else l), .int .i64 (if mi then l else r)]) ∧ Below W.heap.size W w') := fun W hW => turned_any sb mi l r W hW
  obtain ⟨-, -, z4, z5, -⟩ := CC.out w (Below.refl _ _)
  clear h
  generalize (if mi then r else l) = L at *
  generalize (if mi then l else r) = R at *
  go_enter Try.func47, Try.ntmps47
  go_wp2_with fail
  go_region_held3 (fun w' => w'.cell? ⟨sb, 4, none⟩ = some (.int .i64 l) ∧ w'.cell? ⟨sb, 5, none⟩ = some (.int .i64 r))
    (first | (with_reducible exact X1.out) | go_keep)
    (first | (go_at_call 78; refine (TU.out _ (HS.out.below HB0.out).c2).mono ?_; rintro e w1 ⟨rfl, hb1⟩; have B1 : Hid (Below w.heap.size w w1) := HB0.out.trans (hb1.mono HB0.out.size); have X1 : Hid (w1.cell? ⟨sb, 4, none⟩ = some (.int .i64 l) ∧ w1.cell? ⟨sb, 5, none⟩ = some (.int .i64 r)) := And.intro (CC.out _ B1.out).2.2.1 (CC.out _ B1.out).2.2.2.1; clear hb1))
  obtain ⟨y0, y3, y4, y5, y7, y8, y9, y10, y11⟩ := CC.out w1 B1.out
  go_wp2_with fail
  go_ret
  refine ⟨_, rfl, ?_, ?_⟩
  · first | exact World.ownsRow_lit w1 #[.int .i64 x, .int .i64 L, .int .i64 R] 3 B1.out.size (by unfold maxLen; omega) rfl | exact World.ownsRow_lit w1.drew #[.int .i64 x, .int .i64 L, .int .i64 R] 3 B1.out.drew.size (by unfold maxLen; omega) rfl
  · first | exact B1.out.alloc B1.out.size _ | exact B1.out.drew.alloc B1.out.drew.size _
set_option maxRecDepth 100000 in
set_option maxHeartbeats 4000000 in
theorem takenOut2 (sb : Nat) (base : Option Addr) (b o c : Nat) (t : NL) (root : Int) (mi : Bool) (x l r ll lr rl rr rll rlr : Int) (w : World) (h : SBox w sb base b o c t root mi x l r ll lr rl rr rll rlr) :
    Calls Try.prog 47 #[.pointer (some ⟨sb, 0, none⟩), .int .i64 2] w fun e w' => ∃ v, e = .returned v ∧ IntR w w' v [x, l] := by
  have HB0 : Hid (Below w.heap.size w w.drew) := (Below.refl _ _).drew
  have HS : Hid (SBox w sb base b o c t root mi x l r ll lr rl rr rll rlr) := h
  have CC : Hid (∀ z, Below w.heap.size w z → sb < z.heap.size ∧ z.cell? ⟨sb, 3, none⟩ = some (.int .i64 x) ∧ z.cell? ⟨sb, 4, none⟩ = some (.int .i64 l) ∧ z.cell? ⟨sb, 5, none⟩ = some (.int .i64 r) ∧ z.cell? ⟨sb, 7, none⟩ = some (.int .i64 lr) ∧ z.cell? ⟨sb, 8, none⟩ = some (.int .i64 rl) ∧ z.cell? ⟨sb, 9, none⟩ = some (.int .i64 rr) ∧ z.cell? ⟨sb, 10, none⟩ = some (.int .i64 rll) ∧ z.cell? ⟨sb, 11, none⟩ = some (.int .i64 rlr)) := fun z hz => by have q := h.below hz; exact ⟨q.lt, q.c3, q.c4, q.c5, q.c7, q.c8, q.c9, q.c10, q.c11⟩
  have TU : Hid (∀ W, W.cell? ⟨sb, 2, none⟩ = some (.bool mi) → Calls Try.prog 78 #[.pointer (some ⟨sb, 0, none⟩), .int .i64 l, .int .i64 r] W fun e w' => e = .returned (.tuple #[.int .i64 (if mi then r else l), .int .i64 (if mi then l else r)]) ∧ Below W.heap.size W w') := fun W hW => turned_any sb mi l r W hW
  obtain ⟨-, -, z4, z5, -⟩ := CC.out w (Below.refl _ _)
  clear h
  generalize (if mi then r else l) = L at *
  generalize (if mi then l else r) = R at *
  go_enter Try.func47, Try.ntmps47
  go_wp2_with fail
  go_region_held3 (fun w' => w'.cell? ⟨sb, 4, none⟩ = some (.int .i64 l) ∧ w'.cell? ⟨sb, 5, none⟩ = some (.int .i64 r))
    (first | (with_reducible exact X1.out) | go_keep)
    (first | (go_at_call 78; refine (TU.out _ (HS.out.below HB0.out).c2).mono ?_; rintro e w1 ⟨rfl, hb1⟩; have B1 : Hid (Below w.heap.size w w1) := HB0.out.trans (hb1.mono HB0.out.size); have X1 : Hid (w1.cell? ⟨sb, 4, none⟩ = some (.int .i64 l) ∧ w1.cell? ⟨sb, 5, none⟩ = some (.int .i64 r)) := And.intro (CC.out _ B1.out).2.2.1 (CC.out _ B1.out).2.2.2.1; clear hb1))
  obtain ⟨y0, y3, y4, y5, y7, y8, y9, y10, y11⟩ := CC.out w1 B1.out
  go_wp2_with fail
  go_region
  go_wp2_with fail
  go_ret
  refine ⟨_, rfl, ?_, ?_⟩
  · first | exact World.ownsRow_lit w1 #[.int .i64 x, .int .i64 l] 2 B1.out.size (by unfold maxLen; omega) rfl | exact World.ownsRow_lit w1.drew #[.int .i64 x, .int .i64 l] 2 B1.out.drew.size (by unfold maxLen; omega) rfl
  · first | exact B1.out.alloc B1.out.size _ | exact B1.out.drew.alloc B1.out.drew.size _
set_option maxRecDepth 100000 in
set_option maxHeartbeats 4000000 in
theorem takenOut3 (sb : Nat) (base : Option Addr) (b o c : Nat) (t : NL) (root : Int) (mi : Bool) (x l r ll lr rl rr rll rlr : Int) (w : World) (h : SBox w sb base b o c t root mi x l r ll lr rl rr rll rlr) :
    Calls Try.prog 47 #[.pointer (some ⟨sb, 0, none⟩), .int .i64 3] w fun e w' => ∃ v, e = .returned v ∧ IntR w w' v [x, l, lr] := by
  have HB0 : Hid (Below w.heap.size w w.drew) := (Below.refl _ _).drew
  have HS : Hid (SBox w sb base b o c t root mi x l r ll lr rl rr rll rlr) := h
  have CC : Hid (∀ z, Below w.heap.size w z → sb < z.heap.size ∧ z.cell? ⟨sb, 3, none⟩ = some (.int .i64 x) ∧ z.cell? ⟨sb, 4, none⟩ = some (.int .i64 l) ∧ z.cell? ⟨sb, 5, none⟩ = some (.int .i64 r) ∧ z.cell? ⟨sb, 7, none⟩ = some (.int .i64 lr) ∧ z.cell? ⟨sb, 8, none⟩ = some (.int .i64 rl) ∧ z.cell? ⟨sb, 9, none⟩ = some (.int .i64 rr) ∧ z.cell? ⟨sb, 10, none⟩ = some (.int .i64 rll) ∧ z.cell? ⟨sb, 11, none⟩ = some (.int .i64 rlr)) := fun z hz => by have q := h.below hz; exact ⟨q.lt, q.c3, q.c4, q.c5, q.c7, q.c8, q.c9, q.c10, q.c11⟩
  have TU : Hid (∀ W, W.cell? ⟨sb, 2, none⟩ = some (.bool mi) → Calls Try.prog 78 #[.pointer (some ⟨sb, 0, none⟩), .int .i64 l, .int .i64 r] W fun e w' => e = .returned (.tuple #[.int .i64 (if mi then r else l), .int .i64 (if mi then l else r)]) ∧ Below W.heap.size W w') := fun W hW => turned_any sb mi l r W hW
  obtain ⟨-, -, z4, z5, -⟩ := CC.out w (Below.refl _ _)
  clear h
  generalize (if mi then r else l) = L at *
  generalize (if mi then l else r) = R at *
  go_enter Try.func47, Try.ntmps47
  go_wp2_with fail
  go_region_held3 (fun w' => w'.cell? ⟨sb, 4, none⟩ = some (.int .i64 l) ∧ w'.cell? ⟨sb, 5, none⟩ = some (.int .i64 r))
    (first | (with_reducible exact X1.out) | go_keep)
    (first | (go_at_call 78; refine (TU.out _ (HS.out.below HB0.out).c2).mono ?_; rintro e w1 ⟨rfl, hb1⟩; have B1 : Hid (Below w.heap.size w w1) := HB0.out.trans (hb1.mono HB0.out.size); have X1 : Hid (w1.cell? ⟨sb, 4, none⟩ = some (.int .i64 l) ∧ w1.cell? ⟨sb, 5, none⟩ = some (.int .i64 r)) := And.intro (CC.out _ B1.out).2.2.1 (CC.out _ B1.out).2.2.2.1; clear hb1))
  obtain ⟨y0, y3, y4, y5, y7, y8, y9, y10, y11⟩ := CC.out w1 B1.out
  go_wp2_with fail
  go_region
  go_wp2_with fail
  go_ret
  refine ⟨_, rfl, ?_, ?_⟩
  · first | exact World.ownsRow_lit w1 #[.int .i64 x, .int .i64 l, .int .i64 lr] 3 B1.out.size (by unfold maxLen; omega) rfl | exact World.ownsRow_lit w1.drew #[.int .i64 x, .int .i64 l, .int .i64 lr] 3 B1.out.drew.size (by unfold maxLen; omega) rfl
  · first | exact B1.out.alloc B1.out.size _ | exact B1.out.drew.alloc B1.out.drew.size _
set_option maxRecDepth 100000 in
set_option maxHeartbeats 4000000 in
theorem takenOut4 (sb : Nat) (base : Option Addr) (b o c : Nat) (t : NL) (root : Int) (mi : Bool) (x l r ll lr rl rr rll rlr : Int) (w : World) (h : SBox w sb base b o c t root mi x l r ll lr rl rr rll rlr) :
    Calls Try.prog 47 #[.pointer (some ⟨sb, 0, none⟩), .int .i64 4] w fun e w' => ∃ v, e = .returned v ∧ IntR w w' v [x, (if mi then r else l), (if mi then l else r)] := by
  have HB0 : Hid (Below w.heap.size w w.drew) := (Below.refl _ _).drew
  have HS : Hid (SBox w sb base b o c t root mi x l r ll lr rl rr rll rlr) := h
  have CC : Hid (∀ z, Below w.heap.size w z → sb < z.heap.size ∧ z.cell? ⟨sb, 3, none⟩ = some (.int .i64 x) ∧ z.cell? ⟨sb, 4, none⟩ = some (.int .i64 l) ∧ z.cell? ⟨sb, 5, none⟩ = some (.int .i64 r) ∧ z.cell? ⟨sb, 7, none⟩ = some (.int .i64 lr) ∧ z.cell? ⟨sb, 8, none⟩ = some (.int .i64 rl) ∧ z.cell? ⟨sb, 9, none⟩ = some (.int .i64 rr) ∧ z.cell? ⟨sb, 10, none⟩ = some (.int .i64 rll) ∧ z.cell? ⟨sb, 11, none⟩ = some (.int .i64 rlr)) := fun z hz => by have q := h.below hz; exact ⟨q.lt, q.c3, q.c4, q.c5, q.c7, q.c8, q.c9, q.c10, q.c11⟩
  have TU : Hid (∀ W, W.cell? ⟨sb, 2, none⟩ = some (.bool mi) → Calls Try.prog 78 #[.pointer (some ⟨sb, 0, none⟩), .int .i64 l, .int .i64 r] W fun e w' => e = .returned (.tuple #[.int .i64 (if mi then r else l), .int .i64 (if mi then l else r)]) ∧ Below W.heap.size W w') := fun W hW => turned_any sb mi l r W hW
  obtain ⟨-, -, z4, z5, -⟩ := CC.out w (Below.refl _ _)
  clear h
  generalize (if mi then r else l) = L at *
  generalize (if mi then l else r) = R at *
  go_enter Try.func47, Try.ntmps47
  go_wp2_with fail
  go_region_held3 (fun w' => w'.cell? ⟨sb, 4, none⟩ = some (.int .i64 l) ∧ w'.cell? ⟨sb, 5, none⟩ = some (.int .i64 r))
    (first | (with_reducible exact X1.out) | go_keep)
    (first | (go_at_call 78; refine (TU.out _ (HS.out.below HB0.out).c2).mono ?_; rintro e w1 ⟨rfl, hb1⟩; have B1 : Hid (Below w.heap.size w w1) := HB0.out.trans (hb1.mono HB0.out.size); have X1 : Hid (w1.cell? ⟨sb, 4, none⟩ = some (.int .i64 l) ∧ w1.cell? ⟨sb, 5, none⟩ = some (.int .i64 r)) := And.intro (CC.out _ B1.out).2.2.1 (CC.out _ B1.out).2.2.2.1; clear hb1))
  obtain ⟨y0, y3, y4, y5, y7, y8, y9, y10, y11⟩ := CC.out w1 B1.out
  go_wp2_with fail
  go_ret
  refine ⟨_, rfl, ?_, ?_⟩
  · first | exact World.ownsRow_lit w1 #[.int .i64 x, .int .i64 L, .int .i64 R] 3 B1.out.size (by unfold maxLen; omega) rfl | exact World.ownsRow_lit w1.drew #[.int .i64 x, .int .i64 L, .int .i64 R] 3 B1.out.drew.size (by unfold maxLen; omega) rfl
  · first | exact B1.out.alloc B1.out.size _ | exact B1.out.drew.alloc B1.out.drew.size _
set_option maxRecDepth 100000 in
set_option maxHeartbeats 4000000 in
theorem takenOut5 (sb : Nat) (base : Option Addr) (b o c : Nat) (t : NL) (root : Int) (mi : Bool) (x l r ll lr rl rr rll rlr : Int) (w : World) (h : SBox w sb base b o c t root mi x l r ll lr rl rr rll rlr) :
    Calls Try.prog 47 #[.pointer (some ⟨sb, 0, none⟩), .int .i64 5] w fun e w' => ∃ v, e = .returned v ∧ IntR w w' v [x, (if mi then r else l), (if mi then l else r), rl] := by
  have HB0 : Hid (Below w.heap.size w w.drew) := (Below.refl _ _).drew
  have HS : Hid (SBox w sb base b o c t root mi x l r ll lr rl rr rll rlr) := h
  have CC : Hid (∀ z, Below w.heap.size w z → sb < z.heap.size ∧ z.cell? ⟨sb, 3, none⟩ = some (.int .i64 x) ∧ z.cell? ⟨sb, 4, none⟩ = some (.int .i64 l) ∧ z.cell? ⟨sb, 5, none⟩ = some (.int .i64 r) ∧ z.cell? ⟨sb, 7, none⟩ = some (.int .i64 lr) ∧ z.cell? ⟨sb, 8, none⟩ = some (.int .i64 rl) ∧ z.cell? ⟨sb, 9, none⟩ = some (.int .i64 rr) ∧ z.cell? ⟨sb, 10, none⟩ = some (.int .i64 rll) ∧ z.cell? ⟨sb, 11, none⟩ = some (.int .i64 rlr)) := fun z hz => by have q := h.below hz; exact ⟨q.lt, q.c3, q.c4, q.c5, q.c7, q.c8, q.c9, q.c10, q.c11⟩
  have TU : Hid (∀ W, W.cell? ⟨sb, 2, none⟩ = some (.bool mi) → Calls Try.prog 78 #[.pointer (some ⟨sb, 0, none⟩), .int .i64 l, .int .i64 r] W fun e w' => e = .returned (.tuple #[.int .i64 (if mi then r else l), .int .i64 (if mi then l else r)]) ∧ Below W.heap.size W w') := fun W hW => turned_any sb mi l r W hW
  obtain ⟨-, -, z4, z5, -⟩ := CC.out w (Below.refl _ _)
  clear h
  generalize (if mi then r else l) = L at *
  generalize (if mi then l else r) = R at *
  go_enter Try.func47, Try.ntmps47
  go_wp2_with fail
  go_region_held3 (fun w' => w'.cell? ⟨sb, 4, none⟩ = some (.int .i64 l) ∧ w'.cell? ⟨sb, 5, none⟩ = some (.int .i64 r))
    (first | (with_reducible exact X1.out) | go_keep)
    (first | (go_at_call 78; refine (TU.out _ (HS.out.below HB0.out).c2).mono ?_; rintro e w1 ⟨rfl, hb1⟩; have B1 : Hid (Below w.heap.size w w1) := HB0.out.trans (hb1.mono HB0.out.size); have X1 : Hid (w1.cell? ⟨sb, 4, none⟩ = some (.int .i64 l) ∧ w1.cell? ⟨sb, 5, none⟩ = some (.int .i64 r)) := And.intro (CC.out _ B1.out).2.2.1 (CC.out _ B1.out).2.2.2.1; clear hb1))
  obtain ⟨y0, y3, y4, y5, y7, y8, y9, y10, y11⟩ := CC.out w1 B1.out
  go_wp2_with fail
  go_region
  go_wp2_with fail
  go_ret
  refine ⟨_, rfl, ?_, ?_⟩
  · first | exact World.ownsRow_lit w1 #[.int .i64 x, .int .i64 L, .int .i64 R, .int .i64 rl] 4 B1.out.size (by unfold maxLen; omega) rfl | exact World.ownsRow_lit w1.drew #[.int .i64 x, .int .i64 L, .int .i64 R, .int .i64 rl] 4 B1.out.drew.size (by unfold maxLen; omega) rfl
  · first | exact B1.out.alloc B1.out.size _ | exact B1.out.drew.alloc B1.out.drew.size _
set_option maxRecDepth 100000 in
set_option maxHeartbeats 4000000 in
theorem takenOut6 (sb : Nat) (base : Option Addr) (b o c : Nat) (t : NL) (root : Int) (mi : Bool) (x l r ll lr rl rr rll rlr : Int) (w : World) (h : SBox w sb base b o c t root mi x l r ll lr rl rr rll rlr) :
    Calls Try.prog 47 #[.pointer (some ⟨sb, 0, none⟩), .int .i64 6] w fun e w' => ∃ v, e = .returned v ∧ IntR w w' v [x, (if mi then r else l), (if mi then l else r), rl] := by
  have HB0 : Hid (Below w.heap.size w w.drew) := (Below.refl _ _).drew
  have HS : Hid (SBox w sb base b o c t root mi x l r ll lr rl rr rll rlr) := h
  have CC : Hid (∀ z, Below w.heap.size w z → sb < z.heap.size ∧ z.cell? ⟨sb, 3, none⟩ = some (.int .i64 x) ∧ z.cell? ⟨sb, 4, none⟩ = some (.int .i64 l) ∧ z.cell? ⟨sb, 5, none⟩ = some (.int .i64 r) ∧ z.cell? ⟨sb, 7, none⟩ = some (.int .i64 lr) ∧ z.cell? ⟨sb, 8, none⟩ = some (.int .i64 rl) ∧ z.cell? ⟨sb, 9, none⟩ = some (.int .i64 rr) ∧ z.cell? ⟨sb, 10, none⟩ = some (.int .i64 rll) ∧ z.cell? ⟨sb, 11, none⟩ = some (.int .i64 rlr)) := fun z hz => by have q := h.below hz; exact ⟨q.lt, q.c3, q.c4, q.c5, q.c7, q.c8, q.c9, q.c10, q.c11⟩
  have TU : Hid (∀ W, W.cell? ⟨sb, 2, none⟩ = some (.bool mi) → Calls Try.prog 78 #[.pointer (some ⟨sb, 0, none⟩), .int .i64 l, .int .i64 r] W fun e w' => e = .returned (.tuple #[.int .i64 (if mi then r else l), .int .i64 (if mi then l else r)]) ∧ Below W.heap.size W w') := fun W hW => turned_any sb mi l r W hW
  obtain ⟨-, -, z4, z5, -⟩ := CC.out w (Below.refl _ _)
  clear h
  generalize (if mi then r else l) = L at *
  generalize (if mi then l else r) = R at *
  go_enter Try.func47, Try.ntmps47
  go_wp2_with fail
  go_region_held3 (fun w' => w'.cell? ⟨sb, 4, none⟩ = some (.int .i64 l) ∧ w'.cell? ⟨sb, 5, none⟩ = some (.int .i64 r))
    (first | (with_reducible exact X1.out) | go_keep)
    (first | (go_at_call 78; refine (TU.out _ (HS.out.below HB0.out).c2).mono ?_; rintro e w1 ⟨rfl, hb1⟩; have B1 : Hid (Below w.heap.size w w1) := HB0.out.trans (hb1.mono HB0.out.size); have X1 : Hid (w1.cell? ⟨sb, 4, none⟩ = some (.int .i64 l) ∧ w1.cell? ⟨sb, 5, none⟩ = some (.int .i64 r)) := And.intro (CC.out _ B1.out).2.2.1 (CC.out _ B1.out).2.2.2.1; clear hb1))
  obtain ⟨y0, y3, y4, y5, y7, y8, y9, y10, y11⟩ := CC.out w1 B1.out
  go_wp2_with fail
  go_region
  go_wp2_with fail
  go_ret
  refine ⟨_, rfl, ?_, ?_⟩
  · first | exact World.ownsRow_lit w1 #[.int .i64 x, .int .i64 L, .int .i64 R, .int .i64 rl] 4 B1.out.size (by unfold maxLen; omega) rfl | exact World.ownsRow_lit w1.drew #[.int .i64 x, .int .i64 L, .int .i64 R, .int .i64 rl] 4 B1.out.drew.size (by unfold maxLen; omega) rfl
  · first | exact B1.out.alloc B1.out.size _ | exact B1.out.drew.alloc B1.out.drew.size _
set_option maxRecDepth 100000 in
set_option maxHeartbeats 4000000 in
theorem takenOut7 (sb : Nat) (base : Option Addr) (b o c : Nat) (t : NL) (root : Int) (mi : Bool) (x l r ll lr rl rr rll rlr : Int) (w : World) (h : SBox w sb base b o c t root mi x l r ll lr rl rr rll rlr) :
    Calls Try.prog 47 #[.pointer (some ⟨sb, 0, none⟩), .int .i64 7] w fun e w' => ∃ v, e = .returned v ∧ IntR w w' v [x, (if mi then r else l), (if mi then l else r), rl, rll] := by
  have HB0 : Hid (Below w.heap.size w w.drew) := (Below.refl _ _).drew
  have HS : Hid (SBox w sb base b o c t root mi x l r ll lr rl rr rll rlr) := h
  have CC : Hid (∀ z, Below w.heap.size w z → sb < z.heap.size ∧ z.cell? ⟨sb, 3, none⟩ = some (.int .i64 x) ∧ z.cell? ⟨sb, 4, none⟩ = some (.int .i64 l) ∧ z.cell? ⟨sb, 5, none⟩ = some (.int .i64 r) ∧ z.cell? ⟨sb, 7, none⟩ = some (.int .i64 lr) ∧ z.cell? ⟨sb, 8, none⟩ = some (.int .i64 rl) ∧ z.cell? ⟨sb, 9, none⟩ = some (.int .i64 rr) ∧ z.cell? ⟨sb, 10, none⟩ = some (.int .i64 rll) ∧ z.cell? ⟨sb, 11, none⟩ = some (.int .i64 rlr)) := fun z hz => by have q := h.below hz; exact ⟨q.lt, q.c3, q.c4, q.c5, q.c7, q.c8, q.c9, q.c10, q.c11⟩
  have TU : Hid (∀ W, W.cell? ⟨sb, 2, none⟩ = some (.bool mi) → Calls Try.prog 78 #[.pointer (some ⟨sb, 0, none⟩), .int .i64 l, .int .i64 r] W fun e w' => e = .returned (.tuple #[.int .i64 (if mi then r else l), .int .i64 (if mi then l else r)]) ∧ Below W.heap.size W w') := fun W hW => turned_any sb mi l r W hW
  obtain ⟨-, -, z4, z5, -⟩ := CC.out w (Below.refl _ _)
  clear h
  generalize (if mi then r else l) = L at *
  generalize (if mi then l else r) = R at *
  go_enter Try.func47, Try.ntmps47
  go_wp2_with fail
  go_region_held3 (fun w' => w'.cell? ⟨sb, 4, none⟩ = some (.int .i64 l) ∧ w'.cell? ⟨sb, 5, none⟩ = some (.int .i64 r))
    (first | (with_reducible exact X1.out) | go_keep)
    (first | (go_at_call 78; refine (TU.out _ (HS.out.below HB0.out).c2).mono ?_; rintro e w1 ⟨rfl, hb1⟩; have B1 : Hid (Below w.heap.size w w1) := HB0.out.trans (hb1.mono HB0.out.size); have X1 : Hid (w1.cell? ⟨sb, 4, none⟩ = some (.int .i64 l) ∧ w1.cell? ⟨sb, 5, none⟩ = some (.int .i64 r)) := And.intro (CC.out _ B1.out).2.2.1 (CC.out _ B1.out).2.2.2.1; clear hb1))
  obtain ⟨y0, y3, y4, y5, y7, y8, y9, y10, y11⟩ := CC.out w1 B1.out
  go_wp2_with fail
  go_region
  go_wp2_with fail
  go_ret
  refine ⟨_, rfl, ?_, ?_⟩
  · first | exact World.ownsRow_lit w1 #[.int .i64 x, .int .i64 L, .int .i64 R, .int .i64 rl, .int .i64 rll] 5 B1.out.size (by unfold maxLen; omega) rfl | exact World.ownsRow_lit w1.drew #[.int .i64 x, .int .i64 L, .int .i64 R, .int .i64 rl, .int .i64 rll] 5 B1.out.drew.size (by unfold maxLen; omega) rfl
  · first | exact B1.out.alloc B1.out.size _ | exact B1.out.drew.alloc B1.out.drew.size _
set_option maxRecDepth 100000 in
set_option maxHeartbeats 4000000 in
theorem takenOut8 (sb : Nat) (base : Option Addr) (b o c : Nat) (t : NL) (root : Int) (mi : Bool) (x l r ll lr rl rr rll rlr : Int) (w : World) (h : SBox w sb base b o c t root mi x l r ll lr rl rr rll rlr) :
    Calls Try.prog 47 #[.pointer (some ⟨sb, 0, none⟩), .int .i64 8] w fun e w' => ∃ v, e = .returned v ∧ IntR w w' v [x, (if mi then r else l), (if mi then l else r), rl, rlr] := by
  have HB0 : Hid (Below w.heap.size w w.drew) := (Below.refl _ _).drew
  have HS : Hid (SBox w sb base b o c t root mi x l r ll lr rl rr rll rlr) := h
  have CC : Hid (∀ z, Below w.heap.size w z → sb < z.heap.size ∧ z.cell? ⟨sb, 3, none⟩ = some (.int .i64 x) ∧ z.cell? ⟨sb, 4, none⟩ = some (.int .i64 l) ∧ z.cell? ⟨sb, 5, none⟩ = some (.int .i64 r) ∧ z.cell? ⟨sb, 7, none⟩ = some (.int .i64 lr) ∧ z.cell? ⟨sb, 8, none⟩ = some (.int .i64 rl) ∧ z.cell? ⟨sb, 9, none⟩ = some (.int .i64 rr) ∧ z.cell? ⟨sb, 10, none⟩ = some (.int .i64 rll) ∧ z.cell? ⟨sb, 11, none⟩ = some (.int .i64 rlr)) := fun z hz => by have q := h.below hz; exact ⟨q.lt, q.c3, q.c4, q.c5, q.c7, q.c8, q.c9, q.c10, q.c11⟩
  have TU : Hid (∀ W, W.cell? ⟨sb, 2, none⟩ = some (.bool mi) → Calls Try.prog 78 #[.pointer (some ⟨sb, 0, none⟩), .int .i64 l, .int .i64 r] W fun e w' => e = .returned (.tuple #[.int .i64 (if mi then r else l), .int .i64 (if mi then l else r)]) ∧ Below W.heap.size W w') := fun W hW => turned_any sb mi l r W hW
  obtain ⟨-, -, z4, z5, -⟩ := CC.out w (Below.refl _ _)
  clear h
  generalize (if mi then r else l) = L at *
  generalize (if mi then l else r) = R at *
  go_enter Try.func47, Try.ntmps47
  go_wp2_with fail
  go_region_held3 (fun w' => w'.cell? ⟨sb, 4, none⟩ = some (.int .i64 l) ∧ w'.cell? ⟨sb, 5, none⟩ = some (.int .i64 r))
    (first | (with_reducible exact X1.out) | go_keep)
    (first | (go_at_call 78; refine (TU.out _ (HS.out.below HB0.out).c2).mono ?_; rintro e w1 ⟨rfl, hb1⟩; have B1 : Hid (Below w.heap.size w w1) := HB0.out.trans (hb1.mono HB0.out.size); have X1 : Hid (w1.cell? ⟨sb, 4, none⟩ = some (.int .i64 l) ∧ w1.cell? ⟨sb, 5, none⟩ = some (.int .i64 r)) := And.intro (CC.out _ B1.out).2.2.1 (CC.out _ B1.out).2.2.2.1; clear hb1))
  obtain ⟨y0, y3, y4, y5, y7, y8, y9, y10, y11⟩ := CC.out w1 B1.out
  go_wp2_with fail
  go_region
  go_wp2_with fail
  go_ret
  refine ⟨_, rfl, ?_, ?_⟩
  · first | exact World.ownsRow_lit w1 #[.int .i64 x, .int .i64 L, .int .i64 R, .int .i64 rl, .int .i64 rlr] 5 B1.out.size (by unfold maxLen; omega) rfl | exact World.ownsRow_lit w1.drew #[.int .i64 x, .int .i64 L, .int .i64 R, .int .i64 rl, .int .i64 rlr] 5 B1.out.drew.size (by unfold maxLen; omega) rfl
  · first | exact B1.out.alloc B1.out.size _ | exact B1.out.drew.alloc B1.out.drew.size _
set_option maxRecDepth 100000 in
set_option maxHeartbeats 4000000 in
theorem takenOut9 (sb : Nat) (base : Option Addr) (b o c : Nat) (t : NL) (root : Int) (mi : Bool) (x l r ll lr rl rr rll rlr : Int) (w : World) (h : SBox w sb base b o c t root mi x l r ll lr rl rr rll rlr) :
    Calls Try.prog 47 #[.pointer (some ⟨sb, 0, none⟩), .int .i64 9] w fun e w' => ∃ v, e = .returned v ∧ IntR w w' v [x, (if mi then r else l), (if mi then l else r), rr] := by
  have HB0 : Hid (Below w.heap.size w w.drew) := (Below.refl _ _).drew
  have HS : Hid (SBox w sb base b o c t root mi x l r ll lr rl rr rll rlr) := h
  have CC : Hid (∀ z, Below w.heap.size w z → sb < z.heap.size ∧ z.cell? ⟨sb, 3, none⟩ = some (.int .i64 x) ∧ z.cell? ⟨sb, 4, none⟩ = some (.int .i64 l) ∧ z.cell? ⟨sb, 5, none⟩ = some (.int .i64 r) ∧ z.cell? ⟨sb, 7, none⟩ = some (.int .i64 lr) ∧ z.cell? ⟨sb, 8, none⟩ = some (.int .i64 rl) ∧ z.cell? ⟨sb, 9, none⟩ = some (.int .i64 rr) ∧ z.cell? ⟨sb, 10, none⟩ = some (.int .i64 rll) ∧ z.cell? ⟨sb, 11, none⟩ = some (.int .i64 rlr)) := fun z hz => by have q := h.below hz; exact ⟨q.lt, q.c3, q.c4, q.c5, q.c7, q.c8, q.c9, q.c10, q.c11⟩
  have TU : Hid (∀ W, W.cell? ⟨sb, 2, none⟩ = some (.bool mi) → Calls Try.prog 78 #[.pointer (some ⟨sb, 0, none⟩), .int .i64 l, .int .i64 r] W fun e w' => e = .returned (.tuple #[.int .i64 (if mi then r else l), .int .i64 (if mi then l else r)]) ∧ Below W.heap.size W w') := fun W hW => turned_any sb mi l r W hW
  obtain ⟨-, -, z4, z5, -⟩ := CC.out w (Below.refl _ _)
  clear h
  generalize (if mi then r else l) = L at *
  generalize (if mi then l else r) = R at *
  go_enter Try.func47, Try.ntmps47
  go_wp2_with fail
  go_region_held3 (fun w' => w'.cell? ⟨sb, 4, none⟩ = some (.int .i64 l) ∧ w'.cell? ⟨sb, 5, none⟩ = some (.int .i64 r))
    (first | (with_reducible exact X1.out) | go_keep)
    (first | (go_at_call 78; refine (TU.out _ (HS.out.below HB0.out).c2).mono ?_; rintro e w1 ⟨rfl, hb1⟩; have B1 : Hid (Below w.heap.size w w1) := HB0.out.trans (hb1.mono HB0.out.size); have X1 : Hid (w1.cell? ⟨sb, 4, none⟩ = some (.int .i64 l) ∧ w1.cell? ⟨sb, 5, none⟩ = some (.int .i64 r)) := And.intro (CC.out _ B1.out).2.2.1 (CC.out _ B1.out).2.2.2.1; clear hb1))
  obtain ⟨y0, y3, y4, y5, y7, y8, y9, y10, y11⟩ := CC.out w1 B1.out
  go_wp2_with fail
  go_region
  go_wp2_with fail
  go_ret
  refine ⟨_, rfl, ?_, ?_⟩
  · first | exact World.ownsRow_lit w1 #[.int .i64 x, .int .i64 L, .int .i64 R, .int .i64 rr] 4 B1.out.size (by unfold maxLen; omega) rfl | exact World.ownsRow_lit w1.drew #[.int .i64 x, .int .i64 L, .int .i64 R, .int .i64 rr] 4 B1.out.drew.size (by unfold maxLen; omega) rfl
  · first | exact B1.out.alloc B1.out.size _ | exact B1.out.drew.alloc B1.out.drew.size _
set_option maxRecDepth 100000 in
set_option maxHeartbeats 4000000 in
theorem takenOut10 (sb : Nat) (base : Option Addr) (b o c : Nat) (t : NL) (root : Int) (mi : Bool) (x l r ll lr rl rr rll rlr : Int) (w : World) (h : SBox w sb base b o c t root mi x l r ll lr rl rr rll rlr) :
    Calls Try.prog 47 #[.pointer (some ⟨sb, 0, none⟩), .int .i64 10] w fun e w' => ∃ v, e = .returned v ∧ IntR w w' v [x, (if mi then r else l), (if mi then l else r), rl] := by
  have HB0 : Hid (Below w.heap.size w w.drew) := (Below.refl _ _).drew
  have HS : Hid (SBox w sb base b o c t root mi x l r ll lr rl rr rll rlr) := h
  have CC : Hid (∀ z, Below w.heap.size w z → sb < z.heap.size ∧ z.cell? ⟨sb, 3, none⟩ = some (.int .i64 x) ∧ z.cell? ⟨sb, 4, none⟩ = some (.int .i64 l) ∧ z.cell? ⟨sb, 5, none⟩ = some (.int .i64 r) ∧ z.cell? ⟨sb, 7, none⟩ = some (.int .i64 lr) ∧ z.cell? ⟨sb, 8, none⟩ = some (.int .i64 rl) ∧ z.cell? ⟨sb, 9, none⟩ = some (.int .i64 rr) ∧ z.cell? ⟨sb, 10, none⟩ = some (.int .i64 rll) ∧ z.cell? ⟨sb, 11, none⟩ = some (.int .i64 rlr)) := fun z hz => by have q := h.below hz; exact ⟨q.lt, q.c3, q.c4, q.c5, q.c7, q.c8, q.c9, q.c10, q.c11⟩
  have TU : Hid (∀ W, W.cell? ⟨sb, 2, none⟩ = some (.bool mi) → Calls Try.prog 78 #[.pointer (some ⟨sb, 0, none⟩), .int .i64 l, .int .i64 r] W fun e w' => e = .returned (.tuple #[.int .i64 (if mi then r else l), .int .i64 (if mi then l else r)]) ∧ Below W.heap.size W w') := fun W hW => turned_any sb mi l r W hW
  obtain ⟨-, -, z4, z5, -⟩ := CC.out w (Below.refl _ _)
  clear h
  generalize (if mi then r else l) = L at *
  generalize (if mi then l else r) = R at *
  go_enter Try.func47, Try.ntmps47
  go_wp2_with fail
  go_region_held3 (fun w' => w'.cell? ⟨sb, 4, none⟩ = some (.int .i64 l) ∧ w'.cell? ⟨sb, 5, none⟩ = some (.int .i64 r))
    (first | (with_reducible exact X1.out) | go_keep)
    (first | (go_at_call 78; refine (TU.out _ (HS.out.below HB0.out).c2).mono ?_; rintro e w1 ⟨rfl, hb1⟩; have B1 : Hid (Below w.heap.size w w1) := HB0.out.trans (hb1.mono HB0.out.size); have X1 : Hid (w1.cell? ⟨sb, 4, none⟩ = some (.int .i64 l) ∧ w1.cell? ⟨sb, 5, none⟩ = some (.int .i64 r)) := And.intro (CC.out _ B1.out).2.2.1 (CC.out _ B1.out).2.2.2.1; clear hb1))
  obtain ⟨y0, y3, y4, y5, y7, y8, y9, y10, y11⟩ := CC.out w1 B1.out
  go_wp2_with fail
  go_region
  go_wp2_with fail
  go_ret
  refine ⟨_, rfl, ?_, ?_⟩
  · first | exact World.ownsRow_lit w1 #[.int .i64 x, .int .i64 L, .int .i64 R, .int .i64 rl] 4 B1.out.size (by unfold maxLen; omega) rfl | exact World.ownsRow_lit w1.drew #[.int .i64 x, .int .i64 L, .int .i64 R, .int .i64 rl] 4 B1.out.drew.size (by unfold maxLen; omega) rfl
  · first | exact B1.out.alloc B1.out.size _ | exact B1.out.drew.alloc B1.out.drew.size _
set_option maxRecDepth 100000 in
set_option maxHeartbeats 4000000 in
theorem takenOut11 (sb : Nat) (base : Option Addr) (b o c : Nat) (t : NL) (root : Int) (mi : Bool) (x l r ll lr rl rr rll rlr : Int) (w : World) (h : SBox w sb base b o c t root mi x l r ll lr rl rr rll rlr) :
    Calls Try.prog 47 #[.pointer (some ⟨sb, 0, none⟩), .int .i64 11] w fun e w' => ∃ v, e = .returned v ∧ IntR w w' v [x, (if mi then r else l), (if mi then l else r)] := by
  have HB0 : Hid (Below w.heap.size w w.drew) := (Below.refl _ _).drew
  have HS : Hid (SBox w sb base b o c t root mi x l r ll lr rl rr rll rlr) := h
  have CC : Hid (∀ z, Below w.heap.size w z → sb < z.heap.size ∧ z.cell? ⟨sb, 3, none⟩ = some (.int .i64 x) ∧ z.cell? ⟨sb, 4, none⟩ = some (.int .i64 l) ∧ z.cell? ⟨sb, 5, none⟩ = some (.int .i64 r) ∧ z.cell? ⟨sb, 7, none⟩ = some (.int .i64 lr) ∧ z.cell? ⟨sb, 8, none⟩ = some (.int .i64 rl) ∧ z.cell? ⟨sb, 9, none⟩ = some (.int .i64 rr) ∧ z.cell? ⟨sb, 10, none⟩ = some (.int .i64 rll) ∧ z.cell? ⟨sb, 11, none⟩ = some (.int .i64 rlr)) := fun z hz => by have q := h.below hz; exact ⟨q.lt, q.c3, q.c4, q.c5, q.c7, q.c8, q.c9, q.c10, q.c11⟩
  have TU : Hid (∀ W, W.cell? ⟨sb, 2, none⟩ = some (.bool mi) → Calls Try.prog 78 #[.pointer (some ⟨sb, 0, none⟩), .int .i64 l, .int .i64 r] W fun e w' => e = .returned (.tuple #[.int .i64 (if mi then r else l), .int .i64 (if mi then l else r)]) ∧ Below W.heap.size W w') := fun W hW => turned_any sb mi l r W hW
  obtain ⟨-, -, z4, z5, -⟩ := CC.out w (Below.refl _ _)
  clear h
  generalize (if mi then r else l) = L at *
  generalize (if mi then l else r) = R at *
  go_enter Try.func47, Try.ntmps47
  go_wp2_with fail
  go_region_held3 (fun w' => w'.cell? ⟨sb, 4, none⟩ = some (.int .i64 l) ∧ w'.cell? ⟨sb, 5, none⟩ = some (.int .i64 r))
    (first | (with_reducible exact X1.out) | go_keep)
    (first | (go_at_call 78; refine (TU.out _ (HS.out.below HB0.out).c2).mono ?_; rintro e w1 ⟨rfl, hb1⟩; have B1 : Hid (Below w.heap.size w w1) := HB0.out.trans (hb1.mono HB0.out.size); have X1 : Hid (w1.cell? ⟨sb, 4, none⟩ = some (.int .i64 l) ∧ w1.cell? ⟨sb, 5, none⟩ = some (.int .i64 r)) := And.intro (CC.out _ B1.out).2.2.1 (CC.out _ B1.out).2.2.2.1; clear hb1))
  obtain ⟨y0, y3, y4, y5, y7, y8, y9, y10, y11⟩ := CC.out w1 B1.out
  go_wp2_with fail
  go_ret
  refine ⟨_, rfl, ?_, ?_⟩
  · first | exact World.ownsRow_lit w1 #[.int .i64 x, .int .i64 L, .int .i64 R] 3 B1.out.size (by unfold maxLen; omega) rfl | exact World.ownsRow_lit w1.drew #[.int .i64 x, .int .i64 L, .int .i64 R] 3 B1.out.drew.size (by unfold maxLen; omega) rfl
  · first | exact B1.out.alloc B1.out.size _ | exact B1.out.drew.alloc B1.out.drew.size _
set_option maxRecDepth 100000 in
set_option maxHeartbeats 4000000 in
theorem takenOut12 (sb : Nat) (base : Option Addr) (b o c : Nat) (t : NL) (root : Int) (mi : Bool) (x l r ll lr rl rr rll rlr : Int) (w : World) (h : SBox w sb base b o c t root mi x l r ll lr rl rr rll rlr) :
    Calls Try.prog 47 #[.pointer (some ⟨sb, 0, none⟩), .int .i64 12] w fun e w' => ∃ v, e = .returned v ∧ IntR w w' v [x] := by
  have HB0 : Hid (Below w.heap.size w w.drew) := (Below.refl _ _).drew
  have HS : Hid (SBox w sb base b o c t root mi x l r ll lr rl rr rll rlr) := h
  have CC : Hid (∀ z, Below w.heap.size w z → sb < z.heap.size ∧ z.cell? ⟨sb, 3, none⟩ = some (.int .i64 x) ∧ z.cell? ⟨sb, 4, none⟩ = some (.int .i64 l) ∧ z.cell? ⟨sb, 5, none⟩ = some (.int .i64 r) ∧ z.cell? ⟨sb, 7, none⟩ = some (.int .i64 lr) ∧ z.cell? ⟨sb, 8, none⟩ = some (.int .i64 rl) ∧ z.cell? ⟨sb, 9, none⟩ = some (.int .i64 rr) ∧ z.cell? ⟨sb, 10, none⟩ = some (.int .i64 rll) ∧ z.cell? ⟨sb, 11, none⟩ = some (.int .i64 rlr)) := fun z hz => by have q := h.below hz; exact ⟨q.lt, q.c3, q.c4, q.c5, q.c7, q.c8, q.c9, q.c10, q.c11⟩
  have TU : Hid (∀ W, W.cell? ⟨sb, 2, none⟩ = some (.bool mi) → Calls Try.prog 78 #[.pointer (some ⟨sb, 0, none⟩), .int .i64 l, .int .i64 r] W fun e w' => e = .returned (.tuple #[.int .i64 (if mi then r else l), .int .i64 (if mi then l else r)]) ∧ Below W.heap.size W w') := fun W hW => turned_any sb mi l r W hW
  obtain ⟨-, -, z4, z5, -⟩ := CC.out w (Below.refl _ _)
  clear h
  generalize (if mi then r else l) = L at *
  generalize (if mi then l else r) = R at *
  go_enter Try.func47, Try.ntmps47
  go_wp2_with fail
  go_region_held3 (fun w' => w'.cell? ⟨sb, 4, none⟩ = some (.int .i64 l) ∧ w'.cell? ⟨sb, 5, none⟩ = some (.int .i64 r))
    (first | (with_reducible exact X1.out) | go_keep)
    (first | (go_at_call 78; refine (TU.out _ (HS.out.below HB0.out).c2).mono ?_; rintro e w1 ⟨rfl, hb1⟩; have B1 : Hid (Below w.heap.size w w1) := HB0.out.trans (hb1.mono HB0.out.size); have X1 : Hid (w1.cell? ⟨sb, 4, none⟩ = some (.int .i64 l) ∧ w1.cell? ⟨sb, 5, none⟩ = some (.int .i64 r)) := And.intro (CC.out _ B1.out).2.2.1 (CC.out _ B1.out).2.2.2.1; clear hb1))
  obtain ⟨y0, y3, y4, y5, y7, y8, y9, y10, y11⟩ := CC.out w1 B1.out
  go_wp2_with fail
  go_ret
  refine ⟨_, rfl, ?_, ?_⟩
  · first | exact World.ownsRow_lit w1 #[.int .i64 x] 1 B1.out.size (by unfold maxLen; omega) rfl | exact World.ownsRow_lit w1.drew #[.int .i64 x] 1 B1.out.drew.size (by unfold maxLen; omega) rfl
  · first | exact B1.out.alloc B1.out.size _ | exact B1.out.drew.alloc B1.out.drew.size _
set_option maxRecDepth 100000 in
theorem takenOut_any (sb : Nat) (base : Option Addr) (b o c : Nat) (t : NL) (root : Int) (mi : Bool) (x l r ll lr rl rr rll rlr k : Int) (w : World) (hk : 1 ≤ k ∧ k ≤ 12) (h : SBox w sb base b o c t root mi x l r ll lr rl rr rll rlr) :
    Calls Try.prog 47 #[.pointer (some ⟨sb, 0, none⟩), .int .i64 k] w fun e w' => ∃ v, e = .returned v ∧ IntR w w' v (outI k x l (if mi then r else l) (if mi then l else r) lr rl rr rll rlr) := by
  obtain rfl | rfl | rfl | rfl | rfl | rfl | rfl | rfl | rfl | rfl | rfl | rfl : k = 1 ∨ k = 2 ∨ k = 3 ∨ k = 4 ∨ k = 5 ∨ k = 6 ∨ k = 7 ∨ k = 8 ∨ k = 9 ∨ k = 10 ∨ k = 11 ∨ k = 12 := by omega
  · exact takenOut1 sb base b o c t root mi x l r ll lr rl rr rll rlr w h
  · exact takenOut2 sb base b o c t root mi x l r ll lr rl rr rll rlr w h
  · exact takenOut3 sb base b o c t root mi x l r ll lr rl rr rll rlr w h
  · exact takenOut4 sb base b o c t root mi x l r ll lr rl rr rll rlr w h
  · exact takenOut5 sb base b o c t root mi x l r ll lr rl rr rll rlr w h
  · exact takenOut6 sb base b o c t root mi x l r ll lr rl rr rll rlr w h
  · exact takenOut7 sb base b o c t root mi x l r ll lr rl rr rll rlr w h
  · exact takenOut8 sb base b o c t root mi x l r ll lr rl rr rll rlr w h
  · exact takenOut9 sb base b o c t root mi x l r ll lr rl rr rll rlr w h
  · exact takenOut10 sb base b o c t root mi x l r ll lr rl rr rll rlr w h
  · exact takenOut11 sb base b o c t root mi x l r ll lr rl rr rll rlr w h
  · exact takenOut12 sb base b o c t root mi x l r ll lr rl rr rll rlr w h
/-- The places that Touched answers. -/
def touI (t : NL) (p k : Int) (mi : Bool) : List Int := outI k p (belL t mi p) (if mi then belR t mi p else belL t mi p) (if mi then belL t mi p else belR t mi p) (belR t mi (belL t mi p)) (belL t mi (belR t mi p)) (belR t mi (belR t mi p)) (belL t mi (belL t mi (belR t mi p))) (belR t mi (belL t mi (belR t mi p)))
theorem todo_look {t : NL} {p k : Int} {mi : Bool} (h : todoE t p k mi = 0) : lookE t p k mi = 0 := by
  unfold todoE at h
  split at h
  · rename_i q; exact absurd h q
  · rename_i q; simpa using q
noncomputable def touL (t : NL) (p k : Int) (mi : Bool) : List Int := if todoE t p k mi = 0 then touI t p k mi else []
set_option maxRecDepth 100000 in
set_option maxHeartbeats 4000000 in
theorem Touched_any (base : Option Addr) (b o c : Nat) (t : NL) (p k : Int) (mi : Bool) (w : World) (h : NodesAt w base b o t) :
    Calls Try.prog 19 #[.slice base t.length c, .int .i64 p, .agg #[.int .i64 k, .bool mi]] w fun e w' => ∃ v, e = .returned (.tuple #[v, .int .i64 (todoE t p k mi)]) ∧ IntR w w' v (touL t p k mi) := by
  have HA : Hid (NodesAt w base b o t) := h
  have B0 : Hid (Below w.heap.size w (w.alloc (.cells #[.int .i64 k, .bool mi] 39))) := below_alloc _ _
  by_cases h0 : todoE t p k mi = 0
  · have LO : Hid (∀ W, NodesAt W base b o t → Calls Try.prog 39 #[.slice base t.length c, .int .i64 p, .agg #[.int .i64 k, .bool mi]] W fun e w' => e = .returned (.tuple #[siteF base c t (rootR t).1 mi p, .int .i64 0]) ∧ Below W.heap.size W w') := fun W hW => by have := lookToDo_any base b o c t p k mi W hW; rw [if_pos h0, h0] at this; exact this
    have hk : 1 ≤ k ∧ k ≤ 12 := by obtain ⟨_, _, _, _, _, _, _, q⟩ := look_place (todo_look h0); exact q
    have AL : Hid (∀ sb W, SBox W sb base b o c t (rootR t).1 mi p (belL t mi p) (belR t mi p) (belL t mi (belL t mi p)) (belR t mi (belL t mi p)) (belL t mi (belR t mi p)) (belR t mi (belR t mi p)) (belL t mi (belL t mi (belR t mi p))) (belR t mi (belL t mi (belR t mi p))) → Calls Try.prog 47 #[.pointer (some ⟨sb, 0, none⟩), .int .i64 k] W fun e w' => ∃ v, e = .returned v ∧ IntR W w' v (touI t p k mi)) := fun sb W hW => takenOut_any sb base b o c t _ mi _ _ _ _ _ _ _ _ _ k W hk hW
    have FL : Hid (touL t p k mi = touI t p k mi) := by show _ = _; unfold touL; rw [if_pos h0]
    rw [FL.out, h0]
    unfold siteF at LO
    clear h h0 FL hk
    generalize touI t p k mi = A at *
    generalize (rootR t).1 = rt at *
    generalize belL t mi p = v4 at *
    generalize belR t mi p = v5 at *
    generalize belL t mi v4 = v6 at *
    generalize belR t mi v4 = v7 at *
    generalize belL t mi v5 = v8 at *
    generalize belR t mi v5 = v9 at *
    generalize belL t mi v8 = v10 at *
    generalize belR t mi v8 = v11 at *
    go_enter Try.func19, Try.ntmps19
    go_wp2_with fail
    refine (LO.out _ (HA.out.below B0.out)).mono ?_
    rintro e w1 ⟨rfl, hb⟩
    have M1 : Hid (w1.heap[w.heap.size]? = some (.cells #[.int .i64 k, .bool mi] 39 (0, 0))) := (hb.block _ (by simp)).trans (heap_alloc_at _ _ _ rfl)
    have B1 : Hid (Below w.heap.size w w1) := B0.out.trans (hb.mono B0.out.size)
    have c0 := (cell_of M1.out 0 _ rfl).1
    have lt0 : w.heap.size < w1.heap.size := (Array.getElem?_eq_some_iff.1 M1.out).1
    have L3 : Hid (Lk3 w (w1.alloc (.cells #[.slice base t.length c, .int .i64 rt, .bool mi, .int .i64 p, .int .i64 v4, .int .i64 v5, .int .i64 v6, .int .i64 v7, .int .i64 v8, .int .i64 v9, .int .i64 v10, .int .i64 v11] 78)) w1.heap.size k mi (.slice base t.length c) rt p v4 v5 v6 v7 v8 v9 v10 v11) := ⟨(heap_alloc_old _ _ lt0).trans M1.out, heap_alloc_at _ _ _ rfl, B1.out.alloc B1.out.size _⟩
    clear hb
    go_wp2_with fail
    refine (AL.out _ _ (L3.out.box HA.out)).mono ?_
    rintro e w2 ⟨v, rfl, hv⟩
    have R2 : Hid (IntR w w2 v A) := hv.down L3.out.below
    clear hv
    go_wp2_with fail
    go_ret2
    exact ⟨_, rfl, R2.out⟩
  · have LO : Hid (∀ W, NodesAt W base b o t → Calls Try.prog 39 #[.slice base t.length c, .int .i64 p, .agg #[.int .i64 k, .bool mi]] W fun e w' => e = .returned (.tuple #[siteN, .int .i64 (todoE t p k mi)]) ∧ Below W.heap.size W w') := fun W hW => by have := lookToDo_any base b o c t p k mi W hW; rw [if_neg h0] at this; exact this
    have d0 : (todoE t p k mi != 0) = true := by simp [h0]
    have FL : Hid (touL t p k mi = []) := by show _ = _; unfold touL; rw [if_neg h0]
    rw [FL.out]
    unfold siteN at LO
    clear h h0 FL
    generalize todoE t p k mi = E at *
    go_enter Try.func19, Try.ntmps19
    go_wp2_with fail
    refine (LO.out _ (HA.out.below B0.out)).mono ?_
    rintro e w1 ⟨rfl, hb⟩
    have B1 : Hid (Below w.heap.size w w1) := B0.out.trans (hb.mono B0.out.size)
    clear hb
    go_wp2_with fail
    go_ret2
    exact ⟨_, rfl, IntR.nil (B1.out.alloc B1.out.size _)⟩
end Go.Proofs.Ythlhbajaogonnaa
