/- Layer 28: the document's Parse. Layer 28: readPick, the walks. Layer 28: readPick, the walks. Layer 28: the reader's readPick. Layer 28: the reader's read. Layer 28: the reader's read, whole. Layer 28: the document's Lines. Layer 28: the document's Parse: its game in memory, beside the lines. Layer 28: the empty text: Run of it. Layer 28: the empty text is refused. Layer 28: the program's Parse. -/
import Derived.Test.YtknlapipkglnjaaGreatDoorHRk
import Derived.Test.YtknlapipkglnjaaGreatDoorHRkF1
import Derived.Test.YtknlapipkglnjaaGreatDoorHRkF2
import Derived.Test.YtknlapipkglnjaaGreatDoorHRo
import Derived.Test.YtknlapipkglnjaaGreatDoorHGd
import Derived.Test.YtknlapipkglnjaaGreatDoorHWd3
import Derived.Test.YtknlapipkglnjaaGreatDoorHNew
import Derived.Test.YtknlapipkglnjaaGreatDoorHTl1
import Derived.Laws.ResultCell
import Derived.Test.YtknlapipkglnjaaGreatDoorHRPo

namespace Go.Proofs.YtknlapipkglnjaaGreatDoor

open Go.RowKit

attribute [local go_sem ↓] Go.wp_at_zero Go.wp_at_succ

set_option maxRecDepth 100000 in
set_option maxHeartbeats 16000000 in
theorem pk1_not (B b L cap q pc0 : Nat) (base pa : Option Addr) (vS vC : Value) (vs : Nat → Value) (g : GD) (w : World) (h : RdB B b w vS vC (.slice pa q pc0) vs g) (hq : q = g.picks.length) (hL : L ≤ 1) (p : Int) (hf : (1 : Int) < 0 ∨ (0 ≤ (1 : Int) ∧ 1000000 < (q : Int) + 1)) (hp : q ≤ 1000000) (ra : ∀ (W : World) (gg pc : Nat), Pk1 w W gg → 1 ≤ pc → Calls Tryz.prog 69 #[.slice base L cap, .slice (some ⟨gg, 0, none⟩) 1 pc] W fun e w' => e = .returned (.bool true) ∧ Below w.heap.size w w' ∧ w'.heap[w.heap.size]? = some (.cells #[.int .i64 p] 3) ∧ w'.heap[w.heap.size + 1]? = some (.cells #[.int .i64 (1 : Int)] 3))
    : Calls Tryz.prog 57 #[.pointer (some ⟨b, 0, none⟩), .slice base L cap] w fun e w' => e = .returned (.bool false) ∧ Below w.heap.size w w' := by
  have RA : Hid (∀ (W : World) (gg pc : Nat), Pk1 w W gg → 1 ≤ pc → Calls Tryz.prog 69 #[.slice base L cap, .slice (some ⟨gg, 0, none⟩) 1 pc] W fun e w' => e = .returned (.bool true) ∧ Below w.heap.size w w' ∧ w'.heap[w.heap.size]? = some (.cells #[.int .i64 p] 3) ∧ w'.heap[w.heap.size + 1]? = some (.cells #[.int .i64 (1 : Int)] 3)) := ra
  clear ra
  have hvP : Hid (∀ k, k < B → (Value.slice pa q pc0).ownBlock ≠ some k) := fun k hk r => by have := (owns_lt h.game.pk k r).1; omega
  have HR : Hid (RdB B b w vS vC _ vs g) := h
  have hlt := h.lt
  have hzb : b < w.heap.size := (Array.getElem?_eq_some_iff.1 h.box).1
  clear h
  have n0 : (L : Int) ≤ 1 := by omega
  have n1 : (0 : Int) ≤ (L : Int) := Int.natCast_nonneg _
  have n2 : ¬ (1 : Int) < (L : Int) := by omega
  have HQ : Hid (q = g.picks.length) := hq
  clear hq
  have hws : IntKind.i64.wrap (1000000 - (q : Int)) = 1000000 - (q : Int) := wrap_in (by omega) (by omega)
  have q0 : (0 : Int) ≤ (q : Int) := Int.natCast_nonneg _
  have u1 : (q : Int) ≤ 1000000 := by omega
  have u2 : 1000000 - (q : Int) < 1 := by omega
  clear hf
  go_enter Tryz.func57, Tryz.ntmps57
  go_wp2_with fail
  have X0 : Hid (w.cell? ⟨b, 2, none⟩ = some (.slice pa q pc0)) := (cells4 HR.out.box).2.2.1.1
  first | (go_region_with (first | (go_at_call 69; refine Calls.mono (RA.out _ (w.heap.size + 1 + 1) 1 (pk1_of w) (Nat.le_refl _)) ?_; rintro e w2 ⟨rfl, hb2, hp0, hp1⟩; have B2 : Hid (Below w.heap.size w w2) := hb2; have R2 : Hid (RdB B b w2 vS vC (.slice pa q pc0) vs g) := HR.out.quiet hb2; have q4 := cells4 R2.out.box; obtain ⟨⟨c0, f0⟩, ⟨c1, f1⟩, ⟨c2, f2⟩, ⟨c3, f3⟩⟩ := q4; have x0 := one1 hp0; have x1 := one1 hp1; have hzs := hb2.size; have hz2 : b < w2.heap.size := (by omega); have hs0 : w.heap.size < w2.heap.size := (Array.getElem?_eq_some_iff.1 hp0).1; have hs1 : w.heap.size + 1 < w2.heap.size := (Array.getElem?_eq_some_iff.1 hp1).1; have X2 : Hid (w2.cell? ⟨b, 2, none⟩ = some (.slice pa q pc0)) := c2; clear hb2 hp0 hp1) | fail)) | fail
  all_goals
    go_wp2_with fail
    go_ret
    exact ⟨rfl, B2.out⟩
end Go.Proofs.YtknlapipkglnjaaGreatDoor

namespace Go.Proofs.YtknlapipkglnjaaGreatDoor

open Go.RowKit

attribute [local go_sem ↓] Go.wp_at_zero Go.wp_at_succ

set_option maxRecDepth 100000 in
set_option maxHeartbeats 16000000 in
theorem pk2_not (B b L cap q pc0 : Nat) (base pa : Option Addr) (vS vC : Value) (vs : Nat → Value) (g : GD) (w : World) (h : RdB B b w vS vC (.slice pa q pc0) vs g) (hq : q = g.picks.length) (hL : 2 ≤ L ∧ L ≤ 4294967295) (p : Int) (n : Int) (hf : (n : Int) < 0 ∨ (0 ≤ (n : Int) ∧ 1000000 < (q : Int) + n)) (hp : q ≤ 1000000) (ra : ∀ (W : World) (gg pc : Nat), PkW w W gg → 2 ≤ pc → Calls Tryz.prog 69 #[.slice base L cap, .slice (some ⟨gg, 0, none⟩) 2 pc] W fun e w' => e = .returned (.bool true) ∧ Below w.heap.size w w' ∧ w'.heap[w.heap.size]? = some (.cells #[.int .i64 p] 3) ∧ w'.heap[w.heap.size + 1]? = some (.cells #[.int .i64 (n : Int)] 3))
    : Calls Tryz.prog 57 #[.pointer (some ⟨b, 0, none⟩), .slice base L cap] w fun e w' => e = .returned (.bool false) ∧ Below w.heap.size w w' := by
  have RA : Hid (∀ (W : World) (gg pc : Nat), PkW w W gg → 2 ≤ pc → Calls Tryz.prog 69 #[.slice base L cap, .slice (some ⟨gg, 0, none⟩) 2 pc] W fun e w' => e = .returned (.bool true) ∧ Below w.heap.size w w' ∧ w'.heap[w.heap.size]? = some (.cells #[.int .i64 p] 3) ∧ w'.heap[w.heap.size + 1]? = some (.cells #[.int .i64 (n : Int)] 3)) := ra
  clear ra
  have hvP : Hid (∀ k, k < B → (Value.slice pa q pc0).ownBlock ≠ some k) := fun k hk r => by have := (owns_lt h.game.pk k r).1; omega
  have HR : Hid (RdB B b w vS vC _ vs g) := h
  have hlt := h.lt
  have hzb : b < w.heap.size := (Array.getElem?_eq_some_iff.1 h.box).1
  clear h
  have n0 : (1 : Int) < (L : Int) := by omega
  have n1 : (L : Int) ≤ 4294967295 := by omega
  have HQ : Hid (q = g.picks.length) := hq
  clear hq
  have hws : IntKind.i64.wrap (1000000 - (q : Int)) = 1000000 - (q : Int) := wrap_in (by omega) (by omega)
  have q0 : (0 : Int) ≤ (q : Int) := Int.natCast_nonneg _
  have u1 : (q : Int) ≤ 1000000 := by omega
  rcases hf with hf | hf
  · have u0 : n < 0 := hf
    clear hf
    go_enter Tryz.func57, Tryz.ntmps57
    obtain ⟨i9, hi9, hz9, hz8, hz7⟩ := info_parts ptr_info
    go_wp2_with (first | (at_builtin; (refine wpList_append_lies _ (by rfl) _ _ _ (by rfl) w.heap.size 107 i9 _ 1 8 ptr_under hi9 hz9 hz8 hz7 rfl (by omega) _ 1 _ (by rfl) ((own_ptr w).alloc _) ⟨w.heap.size + 3, 0, none⟩ 1 1 [.pointer (some ⟨w.heap.size + 1, 0, none⟩)] (by rfl) (by rfl) (World.news_of_block (cs := #[.pointer (some ⟨w.heap.size + 1, 0, none⟩)]) (t := 107) (fr := (0, 0)) (heap_alloc_at _ _ _ (by simp))) (by simp [Value.oneCell']) (by omega) (by unfold maxLen; omega) (by omega) (by simp; omega) (w.heap.size + 4) (by simp) ?_; intro gg pc w3 hown3 hgrow hat hlt3; have PK : Hid (PkW w w3 gg ∧ 2 ≤ pc) := pkw_of hown3 hgrow hat; clear hgrow hown3 hat)))
    have X0 : Hid (w.cell? ⟨b, 2, none⟩ = some (.slice pa q pc0)) := (cells4 HR.out.box).2.2.1.1
    first | (go_region_with (first | (go_at_call 69; refine Calls.mono (RA.out _ gg pc (by first | exact PK.out.1 | exact PK.out.1.drew) PK.out.2) ?_; rintro e w2 ⟨rfl, hb2, hp0, hp1⟩; have B2 : Hid (Below w.heap.size w w2) := hb2; have R2 : Hid (RdB B b w2 vS vC (.slice pa q pc0) vs g) := HR.out.quiet hb2; have q4 := cells4 R2.out.box; obtain ⟨⟨c0, f0⟩, ⟨c1, f1⟩, ⟨c2, f2⟩, ⟨c3, f3⟩⟩ := q4; have x0 := one1 hp0; have x1 := one1 hp1; have hzs := hb2.size; have hz2 : b < w2.heap.size := (by omega); have hs0 : w.heap.size < w2.heap.size := (Array.getElem?_eq_some_iff.1 hp0).1; have hs1 : w.heap.size + 1 < w2.heap.size := (Array.getElem?_eq_some_iff.1 hp1).1; have X2 : Hid (w2.cell? ⟨b, 2, none⟩ = some (.slice pa q pc0)) := c2; clear hb2 hp0 hp1) | fail)) | fail
    all_goals
      go_wp2_with fail
      go_ret
      exact ⟨rfl, B2.out⟩
  · have u0 : decide (n < 0) = false := by simpa using hf.1
    have u2 : 1000000 - (q : Int) < n := by omega
    clear hf
    go_enter Tryz.func57, Tryz.ntmps57
    obtain ⟨i9, hi9, hz9, hz8, hz7⟩ := info_parts ptr_info
    go_wp2_with (first | (at_builtin; (refine wpList_append_lies _ (by rfl) _ _ _ (by rfl) w.heap.size 107 i9 _ 1 8 ptr_under hi9 hz9 hz8 hz7 rfl (by omega) _ 1 _ (by rfl) ((own_ptr w).alloc _) ⟨w.heap.size + 3, 0, none⟩ 1 1 [.pointer (some ⟨w.heap.size + 1, 0, none⟩)] (by rfl) (by rfl) (World.news_of_block (cs := #[.pointer (some ⟨w.heap.size + 1, 0, none⟩)]) (t := 107) (fr := (0, 0)) (heap_alloc_at _ _ _ (by simp))) (by simp [Value.oneCell']) (by omega) (by unfold maxLen; omega) (by omega) (by simp; omega) (w.heap.size + 4) (by simp) ?_; intro gg pc w3 hown3 hgrow hat hlt3; have PK : Hid (PkW w w3 gg ∧ 2 ≤ pc) := pkw_of hown3 hgrow hat; clear hgrow hown3 hat)))
    have X0 : Hid (w.cell? ⟨b, 2, none⟩ = some (.slice pa q pc0)) := (cells4 HR.out.box).2.2.1.1
    first | (go_region_with (first | (go_at_call 69; refine Calls.mono (RA.out _ gg pc (by first | exact PK.out.1 | exact PK.out.1.drew) PK.out.2) ?_; rintro e w2 ⟨rfl, hb2, hp0, hp1⟩; have B2 : Hid (Below w.heap.size w w2) := hb2; have R2 : Hid (RdB B b w2 vS vC (.slice pa q pc0) vs g) := HR.out.quiet hb2; have q4 := cells4 R2.out.box; obtain ⟨⟨c0, f0⟩, ⟨c1, f1⟩, ⟨c2, f2⟩, ⟨c3, f3⟩⟩ := q4; have x0 := one1 hp0; have x1 := one1 hp1; have hzs := hb2.size; have hz2 : b < w2.heap.size := (by omega); have hs0 : w.heap.size < w2.heap.size := (Array.getElem?_eq_some_iff.1 hp0).1; have hs1 : w.heap.size + 1 < w2.heap.size := (Array.getElem?_eq_some_iff.1 hp1).1; have X2 : Hid (w2.cell? ⟨b, 2, none⟩ = some (.slice pa q pc0)) := c2; clear hb2 hp0 hp1) | fail)) | fail
    all_goals
      go_wp2_with fail
      go_ret
      exact ⟨rfl, B2.out⟩
end Go.Proofs.YtknlapipkglnjaaGreatDoor




namespace Go.Proofs.YtknlapipkglnjaaGreatDoor

open Go.RowKit

theorem wnt_one {w W : World} {gg : Nat} (h : Pk1 w W gg) : Wnt w.heap.size W gg [(w.heap.size, 0)] := by
  have hi := h.hi
  refine ⟨fun j p hj => ?_, fun p hp => ?_, fun p hp => ?_, fun p hp => ?_, fun p hp => ?_⟩
  · match j, hj with
    | 0, hj => obtain rfl := Option.some.inj hj; exact h.p0
    | j + 1, hj => simp at hj
  all_goals (obtain rfl := List.mem_singleton.1 hp)
  · show w.heap.size ≠ gg; omega
  · exact Nat.le_refl _
  · exact (Array.getElem?_eq_some_iff.1 h.b0).1
  · exact ⟨_, _, h.b0, 0, rfl⟩
theorem wnt_two {w W : World} {gg : Nat} (h : PkW w W gg) : Wnt w.heap.size W gg [(w.heap.size, 0), (w.heap.size + 1, 0)] := by
  have hi := h.hi
  refine ⟨fun j p hj => ?_, fun p hp => ?_, fun p hp => ?_, fun p hp => ?_, fun p hp => ?_⟩
  · match j, hj with
    | 0, hj => obtain rfl := Option.some.inj hj; exact h.p0
    | 1, hj => obtain rfl := Option.some.inj hj; exact h.p1
    | j + 2, hj => simp at hj
  all_goals (rcases List.mem_cons.1 hp with rfl | hp)
  all_goals (try (obtain rfl := List.mem_singleton.1 hp))
  · show w.heap.size ≠ gg; omega
  · show w.heap.size + 1 ≠ gg; omega
  · exact Nat.le_refl _
  · show w.heap.size ≤ w.heap.size + 1; omega
  · exact (Array.getElem?_eq_some_iff.1 h.b0).1
  · exact (Array.getElem?_eq_some_iff.1 h.b1).1
  · exact ⟨_, _, h.b0, 0, rfl⟩
  · exact ⟨_, _, h.b1, 1, rfl⟩
/-- The words behind the first, as they lie. -/
structure WsR (w : World) (base : Option Addr) (g0 : Nat) (ws : List (List UInt8)) : Prop where
  bs : ws ≠ [] → base = some ⟨g0, 1, none⟩
  cl : ∀ j, j < ws.length → w.cell? ⟨g0, 1 + j, none⟩ = some (.string ⟨(ws.getD j []).toArray⟩)
  lt : ws ≠ [] → g0 < w.heap.size
  wd : ∀ j, (ws.getD j []).length ≤ 4294967296
  ln : ws.length ≤ 4294967295
theorem nums_at {w W : World} {gg g0 cap pc b : Nat} {base : Option Addr} {ws : List (List UInt8)} {P : List (Nat × Nat)} (h : WsR w base g0 ws) (hP : Wnt w.heap.size W gg P) (hl : P.length ≤ 2) (hp : P.length ≤ pc) (hb : Below w.heap.size w W) (hs : 0 < w.heap.size) (hE : HEB b w) (hbw : b ≤ w.heap.size) :
    Calls Tryz.prog 69 #[.slice base ws.length cap, .slice (some ⟨gg, 0, none⟩) P.length pc] W fun e w' => RgOut ws w.heap.size W w' P e := by
  have ln := h.ln
  by_cases hw : ws = []
  · subst hw
    exact readNumbers_gen [] P gg 0 1 cap pc w.heap.size base _ W (fun q => absurd rfl q) (fun _ => rfl) (fun j hj => by cases hj) hs h.wd (by omega) hP hb.size hl hp (hE.down (hb.mono hbw) hbw)
  · have hgl := h.lt hw
    exact readNumbers_gen ws P gg g0 1 cap pc w.heap.size base _ W h.bs (fun _ => rfl) (fun j hj => (hb.cell (p := ⟨g0, 1 + j, none⟩) hgl).trans (h.cl j hj)) hgl h.wd (by omega) hP hb.size hl hp (hE.down (hb.mono hbw) hbw)
theorem readPick_any (B b g0 cap : Nat) (base : Option Addr) (ws : List (List UInt8)) (vS vC vP : Value) (vs : Nat → Value) (g : GD) (w : World) (h : RdB B b w vS vC vP vs g) (hB : B ≤ w.heap.size) (hr : WsR w base g0 ws) (hg : g.picks.length ≤ 1000000) (hE : HEB b w) :
    Calls Tryz.prog 57 #[.pointer (some ⟨b, 0, none⟩), .slice base ws.length cap] w fun e w' => RdrOut B b w w' (pickQ g ws) e := by
  have hlt := h.lt
  have hbw : b ≤ w.heap.size := by omega
  have hs : 0 < w.heap.size := by omega
  have ln := hr.ln
  obtain ⟨pa, pc0, hv, -⟩ := ownForm h.game.pk
  have r1 : ∀ (W : World) (gg pc : Nat), Pk1 w W gg → 1 ≤ pc → Calls Tryz.prog 69 #[.slice base ws.length cap, .slice (some ⟨gg, 0, none⟩) 1 pc] W fun e w' => RgOut ws w.heap.size W w' [(w.heap.size, 0)] e := fun W gg pc hW hp => nums_at (P := [(w.heap.size, 0)]) hr (wnt_one hW) (by simp) hp hW.below hs hE hbw
  have r2 : ∀ (W : World) (gg pc : Nat), PkW w W gg → 2 ≤ pc → Calls Tryz.prog 69 #[.slice base ws.length cap, .slice (some ⟨gg, 0, none⟩) 2 pc] W fun e w' => RgOut ws w.heap.size W w' [(w.heap.size, 0), (w.heap.size + 1, 0)] e := fun W gg pc hW hp => nums_at (P := [(w.heap.size, 0), (w.heap.size + 1, 0)]) hr (wnt_two hW) (by simp) hp hW.below hs hE hbw
  have bad1 : ws.length ≤ 1 → (∀ V : List Int, ¬ (ws.length = 1 ∧ V.length = 1 ∧ ∀ m, m < V.length → numOf (ws.getD m []) = some (V.getD m 0))) → pickQ g ws = none → Calls Tryz.prog 57 #[.pointer (some ⟨b, 0, none⟩), .slice base ws.length cap] w fun e w' => RdrOut B b w w' (pickQ g ws) e := fun hl hV hq => (pk1_bad B b ws.length cap base vS vC vP vs g w h hl (fun W gg pc hW hp => (r1 W gg pc hW hp).mono (by
      rintro e w' (⟨U, q1, q2, q3, -, -⟩ | ⟨-, rfl, hb⟩)
      · exact absurd ⟨q1, q2, q3⟩ (hV U)
      · exact ⟨rfl, hW.below.trans hb⟩))).mono (by
    rintro e w' ⟨rfl, hb⟩
    exact ⟨Or.inr ⟨hq, rfl⟩, hb.mono hbw⟩)
  have bad2 : 2 ≤ ws.length → (∀ V : List Int, ¬ (ws.length = 2 ∧ V.length = 2 ∧ ∀ m, m < V.length → numOf (ws.getD m []) = some (V.getD m 0))) → pickQ g ws = none → Calls Tryz.prog 57 #[.pointer (some ⟨b, 0, none⟩), .slice base ws.length cap] w fun e w' => RdrOut B b w w' (pickQ g ws) e := fun hl hV hq => (pk2_bad B b ws.length cap base vS vC vP vs g w h ⟨hl, ln⟩ (fun W gg pc hW hp => (r2 W gg pc hW hp).mono (by
      rintro e w' (⟨U, q1, q2, q3, -, -⟩ | ⟨-, rfl, hb⟩)
      · exact absurd ⟨q1, q2, q3⟩ (hV U)
      · exact ⟨rfl, hW.below.trans hb⟩))).mono (by
    rintro e w' ⟨rfl, hb⟩
    exact ⟨Or.inr ⟨hq, rfl⟩, hb.mono hbw⟩)
  match ws, hr, ln, r1, r2, bad1, bad2 with
  | [], _, _, _, _, bad1, _ => exact bad1 (by simp) (fun V q => by simp at q) rfl
  | [a], hr, ln, r1, _, bad1, _ =>
    cases ha : numOf a with
    | none =>
      refine bad1 (by simp) (fun V q => ?_) (by simp [pickQ, ha])
      have := q.2.2 0 (by rw [q.2.1]; omega)
      have : numOf a = some (V.getD 0 0) := this
      rw [ha] at this
      cases this
    | some p =>
      subst hv
      have ra : ∀ (W : World) (gg pc : Nat), Pk1 w W gg → 1 ≤ pc → Calls Tryz.prog 69 #[.slice base 1 cap, .slice (some ⟨gg, 0, none⟩) 1 pc] W fun e w' => e = .returned (.bool true) ∧ Below w.heap.size w w' ∧ w'.heap[w.heap.size]? = some (.cells #[.int .i64 p] 3) ∧ w'.heap[w.heap.size + 1]? = some (.cells #[.int .i64 (1 : Int)] 3) := fun W gg pc hW hp => (r1 W gg pc hW hp).mono (by
        rintro e w' (⟨U, -, hU, hUn, rfl, hb⟩ | ⟨q, -, -⟩)
        · obtain ⟨x, rfl⟩ : ∃ x, U = [x] := by
            match U, hU with
            | [x], _ => exact ⟨x, rfl⟩
          have e1 : numOf a = some x := hUn 0 (by simp)
          obtain rfl : p = x := Option.some.inj (ha.symm.trans e1)
          refine ⟨rfl, (hW.below.trans (setAll_below _ _ _ (by simp))).trans (hb.mono hW.below.size), ?_, ?_⟩
          · rw [hb.block _ (Array.getElem?_eq_some_iff.1 hW.b0).1]
            simp only [setAll]
            rw [Go.Joins.block_setCell hW.b0]
            rfl
          · rw [hb.block _ (Array.getElem?_eq_some_iff.1 hW.b1).1]
            simp only [setAll]
            rw [Below.heap_setCell _ _ _ _ (by simp)]
            exact hW.b1
        · exact absurd ⟨rfl, rfl, fun m hm => by
            match m, hm with
            | 0, _ => exact ha⟩ (q [p]))
      by_cases hf : 0 ≤ (1 : Int) ∧ ((g.picks.length : Nat) : Int) + 1 ≤ 1000000
      · have hq : pickQ g [a] = some { g with picks := g.picks ++ List.replicate (1 : Int).toNat p } := by simp only [pickQ, ha, addQ]; rw [if_pos hf]
        exact (pk1_fit B b 1 cap _ pc0 base pa vS vC vs g w h rfl hB (by omega) p hf ra).mono (by
          rintro e w' ⟨v', rfl, hR, hb⟩
          exact ⟨Or.inl ⟨_, _, _, _, _, hq, rfl, hR⟩, hb⟩)
      · have hq : pickQ g [a] = none := by simp only [pickQ, ha, addQ]; rw [if_neg hf]
        exact (pk1_not B b 1 cap _ pc0 base pa vS vC vs g w h rfl (by omega) p (by omega) hg ra).mono (by
          rintro e w' ⟨rfl, hb⟩
          exact ⟨Or.inr ⟨hq, rfl⟩, hb.mono hbw⟩)
  | [a, c], hr, ln, _, r2, _, bad2 =>
    by_cases hn : ∃ p n, numOf a = some p ∧ numOf c = some n
    · obtain ⟨p, n, ha, hc⟩ := hn
      subst hv
      have ra : ∀ (W : World) (gg pc : Nat), PkW w W gg → 2 ≤ pc → Calls Tryz.prog 69 #[.slice base 2 cap, .slice (some ⟨gg, 0, none⟩) 2 pc] W fun e w' => e = .returned (.bool true) ∧ Below w.heap.size w w' ∧ w'.heap[w.heap.size]? = some (.cells #[.int .i64 p] 3) ∧ w'.heap[w.heap.size + 1]? = some (.cells #[.int .i64 (n : Int)] 3) := fun W gg pc hW hp => (r2 W gg pc hW hp).mono (by
        rintro e w' (⟨U, -, hU, hUn, rfl, hb⟩ | ⟨q, -, -⟩)
        · obtain ⟨x, y, rfl⟩ : ∃ x y, U = [x, y] := by
            match U, hU with
            | [x, y], _ => exact ⟨x, y, rfl⟩
          have e1 : numOf a = some x := hUn 0 (by simp)
          have e2 : numOf c = some y := hUn 1 (by simp)
          obtain rfl : p = x := Option.some.inj (ha.symm.trans e1)
          obtain rfl : n = y := Option.some.inj (hc.symm.trans e2)
          refine ⟨rfl, (hW.below.trans (setAll_below _ _ _ (by simp))).trans (hb.mono hW.below.size), ?_, ?_⟩
          · rw [hb.block _ (Array.getElem?_eq_some_iff.1 hW.b0).1]
            simp only [setAll]
            rw [Below.heap_setCell _ _ _ _ (by simp), Go.Joins.block_setCell hW.b0]
            rfl
          · rw [hb.block _ (Array.getElem?_eq_some_iff.1 hW.b1).1]
            simp only [setAll]
            rw [Go.Joins.block_setCell ((Below.heap_setCell _ _ _ _ (by simp)).trans hW.b1)]
            rfl
        · exact absurd ⟨rfl, rfl, fun m hm => by
            match m, hm with
            | 0, _ => exact ha
            | 1, _ => exact hc⟩ (q [p, n]))
      by_cases hf : 0 ≤ n ∧ ((g.picks.length : Nat) : Int) + n ≤ 1000000
      · have hq : pickQ g [a, c] = some { g with picks := g.picks ++ List.replicate n.toNat p } := by simp only [pickQ, ha, hc, addQ]; rw [if_pos hf]
        exact (pk2_fit B b 2 cap _ pc0 base pa vS vC vs g w h rfl hB (by omega) p n hf ra).mono (by
          rintro e w' ⟨v', rfl, hR, hb⟩
          exact ⟨Or.inl ⟨_, _, _, _, _, hq, rfl, hR⟩, hb⟩)
      · have hq : pickQ g [a, c] = none := by simp only [pickQ, ha, hc, addQ]; rw [if_neg hf]
        exact (pk2_not B b 2 cap _ pc0 base pa vS vC vs g w h rfl (by omega) p n (by omega) hg ra).mono (by
          rintro e w' ⟨rfl, hb⟩
          exact ⟨Or.inr ⟨hq, rfl⟩, hb.mono hbw⟩)
    · refine bad2 (by simp) (fun V q => hn ?_) ?_
      · exact ⟨_, _, q.2.2 0 (by rw [q.2.1]; omega), q.2.2 1 (by rw [q.2.1]; omega)⟩
      · cases ha : numOf a with
        | none => simp [pickQ, ha]
        | some p =>
          cases hc : numOf c with
          | none => simp [pickQ, ha, hc]
          | some n => exact absurd ⟨p, n, ha, hc⟩ hn
  | _ :: _ :: _ :: _, _, _, _, _, _, bad2 => exact bad2 (by simp) (fun V q => by simp at q) rfl
end Go.Proofs.YtknlapipkglnjaaGreatDoor


namespace Go.Proofs.YtknlapipkglnjaaGreatDoor

open Go.RowKit

attribute [local go_sem ↓] Go.wp_at_zero Go.wp_at_succ

theorem goTo_no (b : Nat) (p q : Int) (w : World) (hc : w.cell? ⟨b, 3, none⟩ = some (.int .i64 q)) (hf : w.frozen? ⟨b, 3, none⟩ = false) (h : p < q) : Calls Tryz.prog 54 #[.pointer (some ⟨b, 0, none⟩), .int .i64 p] w fun e w' => e = .returned (.bool false) ∧ w' = w :=
  (goTo_any b p q w hc hf).mono (by
    rintro e w' (⟨-, rfl, rfl⟩ | ⟨q, -, -⟩)
    · exact ⟨rfl, rfl⟩
    · omega)
theorem goTo_yes (b : Nat) (p q : Int) (w : World) (hc : w.cell? ⟨b, 3, none⟩ = some (.int .i64 q)) (hf : w.frozen? ⟨b, 3, none⟩ = false) (h : q ≤ p) : Calls Tryz.prog 54 #[.pointer (some ⟨b, 0, none⟩), .int .i64 p] w fun e w' => e = .returned (.bool true) ∧ w' = w.setCell ⟨b, 3, none⟩ (.int .i64 p) :=
  (goTo_any b p q w hc hf).mono (by
    rintro e w' (⟨q, -, -⟩ | ⟨-, rfl, rfl⟩)
    · omega
    · exact ⟨rfl, rfl⟩)
theorem word_block {w : World} {Bw g0 n cap b : Nat} {xs : List Value} {cs : Array Value} (h : w.ownsRow Bw 9 1 (.slice (some ⟨g0, 0, none⟩) n cap) n xs) (hb : w.heap[b]? = some (.cells cs 69)) : g0 ≠ b := by
  rintro rfl
  rcases h.2 with ⟨q, -⟩ | ⟨g, cap', cur, q, -, hg, -⟩
  · cases q
  · injection q with q _ _
    injection q with q
    injection q with q _ _
    subst q
    rw [hb] at hg
    injection hg with hg
    injection hg with _ hg _
    exact absurd hg (by decide)
/-- All that is known where a line is read. -/
structure Rdg (B b Bw g0 cap : Nat) (x : List UInt8) (r : List (List UInt8)) (vS vC vP : Value) (vs : Nat → Value) (g : GD) (w : World) : Prop where
  rd : RdB B b w vS vC vP vs g
  hB : B ≤ w.heap.size
  row : w.ownsRow Bw 9 1 (.slice (some ⟨g0, 0, none⟩) (r.length + 1) cap) (r.length + 1) (strC (x :: r))
  wd : ∀ y ∈ x :: r, y.length ≤ 4294967296
  ln : r.length + 1 ≤ 4294967295
  ok : GOk g
  sz : g.start.length ≤ 2000000 ∧ g.scripts.length ≤ 2000000 ∧ ∀ i, (g.scripts.getD i []).length ≤ 2000000
  he : HEB b w
theorem Rdg.cells {B b Bw g0 cap : Nat} {x : List UInt8} {r : List (List UInt8)} {vS vC vP : Value} {vs : Nat → Value} {g : GD} {w : World} (h : Rdg B b Bw g0 cap x r vS vC vP vs g w) : r.length + 1 ≤ cap ∧ g0 < w.heap.size ∧ ∀ j, j < r.length + 1 → w.cell? ⟨g0, j, none⟩ = some (.string ⟨((x :: r).getD j []).toArray⟩) := by
  obtain ⟨g', cap', he, -, hlt, hcap, -, hcl, -⟩ := owns_some h.row (by omega)
  injection he with he _ hc
  injection he with he
  injection he with he _ _
  subst he hc
  refine ⟨hcap, hlt, fun j hj => ?_⟩
  rw [hcl j (by omega)]
  simp only [strC, List.getElem?_map]
  rw [List.getD_eq_getElem?_getD, List.getElem?_eq_getElem (by simpa using hj)]
  rfl
theorem Rdg.rest {B b Bw g0 cap : Nat} {x : List UInt8} {r : List (List UInt8)} {vS vC vP : Value} {vs : Nat → Value} {g : GD} {w z : World} (h : Rdg B b Bw g0 cap x r vS vC vP vs g w) (hz : z.heap[g0]? = w.heap[g0]?) (hs : w.heap.size ≤ z.heap.size) : WsR z (if cap = 1 then some ⟨g0, 0, none⟩ else some ⟨g0, 1, none⟩) g0 r := by
  obtain ⟨hcap, hlt, hc⟩ := h.cells
  have ln := h.ln
  refine ⟨fun q => if_neg (by have : 0 < r.length := List.length_pos_iff.2 q; omega), fun j hj => ?_, fun _ => by omega, fun j => ?_, by omega⟩
  · rw [World.cell?_of_block (a := ⟨g0, 1 + j, none⟩) hz, show 1 + j = j + 1 by omega]
    exact hc (j + 1) (by omega)
  · rw [List.getD_eq_getElem?_getD]
    cases hj : r[j]? with
    | none => exact Nat.zero_le _
    | some y => exact h.wd y (List.mem_cons_of_mem _ (List.mem_of_getElem? hj))
set_option maxRecDepth 100000 in
set_option maxHeartbeats 8000000 in
theorem rd_start_yes (B b Bw g0 cap : Nat) (r : List (List UInt8)) (vS vC vP : Value) (vs : Nat → Value) (g : GD) (w : World) (h : Rdg B b Bw g0 cap [115, 116, 97, 114, 116] r vS vC vP vs g w) (O : Option GD) (hp : (g.part : Int) ≤ 0) (rc : ∀ cp, Calls Tryz.prog 55 #[.pointer (some ⟨b, 0, none⟩), .slice (if cap = 1 then some ⟨g0, 0, none⟩ else some ⟨g0, 1, none⟩) r.length cp] (w.setCell ⟨b, 3, none⟩ (.int .i64 0)) fun e w' => RdrOut B b (w.setCell ⟨b, 3, none⟩ (.int .i64 0)) w' O e)
    : Calls Tryz.prog 28 #[.pointer (some ⟨b, 0, none⟩), .slice (some ⟨g0, 0, none⟩) (r.length + 1) cap] w fun e w' => RdrOut B b w w' O e := by
  obtain ⟨hcap, hlt, hc⟩ := h.cells
  have c0 : w.cell? ⟨g0, 0, none⟩ = some (.string ⟨#[115, 116, 97, 114, 116]⟩) := hc 0 (by omega)
  obtain ⟨-, -, -, ⟨b3, f3⟩⟩ := cells4 h.rd.box
  have ln := h.ln
  have n0 : (r.length : Int) ≤ 4294967294 := by omega
  have n1 : (0 : Int) ≤ (r.length : Int) := Int.natCast_nonneg _
  have n2 : 1 ≤ (r.length : Int) + 1 := by omega
  have n3 : (r.length : Int) + 1 ≤ (cap : Int) := by omega
  have GO : Hid (Calls Tryz.prog 54 #[.pointer (some ⟨b, 0, none⟩), .int .i64 0] w fun e w' => e = .returned (.bool true) ∧ w' = (w.setCell ⟨b, 3, none⟩ (.int .i64 0))) := goTo_yes b 0 _ w b3 f3 hp
  have HB : Hid (Below b w (w.setCell ⟨b, 3, none⟩ (.int .i64 0))) := (Below.refl _ _).setCell (p := ⟨b, 3, none⟩) (Nat.le_refl _) _
  have RC : Hid (∀ cp, Calls Tryz.prog 55 #[.pointer (some ⟨b, 0, none⟩), .slice (if cap = 1 then some ⟨g0, 0, none⟩ else some ⟨g0, 1, none⟩) r.length cp] (w.setCell ⟨b, 3, none⟩ (.int .i64 0)) fun e w' => RdrOut B b (w.setCell ⟨b, 3, none⟩ (.int .i64 0)) w' O e) := rc
  clear h hc hcap b3 f3 rc
  by_cases hc1 : cap = 1
  · subst hc1
    rw [if_pos rfl] at RC
    go_enter Tryz.func28, Tryz.ntmps28
    go_wp2_with (first | (go_at_call 54; refine Calls.mono GO.out ?_; rintro e w1 ⟨rfl, rfl⟩) | (go_at_call 55; refine Calls.mono (RC.out _) ?_; rintro e w2 ⟨⟨g', x1, x2, x3, x4, hO, rfl, hR⟩ | ⟨hO, rfl⟩, hb2⟩))
    · go_ret
      exact ⟨Or.inl ⟨g', x1, x2, x3, x4, hO, rfl, hR⟩, HB.out.trans hb2⟩
    · go_ret
      exact ⟨Or.inr ⟨hO, rfl⟩, HB.out.trans hb2⟩
  · rw [if_neg hc1] at RC
    have hc2 : ¬ ((cap : Int) = 1) := by omega
    have hc3 : ((cap : Int) == 1) = false := beq_eq_false_iff_ne.2 (by omega)
    go_enter Tryz.func28, Tryz.ntmps28
    go_wp2_with (first | (go_at_call 54; refine Calls.mono GO.out ?_; rintro e w1 ⟨rfl, rfl⟩) | (go_at_call 55; refine Calls.mono (RC.out _) ?_; rintro e w2 ⟨⟨g', x1, x2, x3, x4, hO, rfl, hR⟩ | ⟨hO, rfl⟩, hb2⟩))
    · go_ret
      exact ⟨Or.inl ⟨g', x1, x2, x3, x4, hO, rfl, hR⟩, HB.out.trans hb2⟩
    · go_ret
      exact ⟨Or.inr ⟨hO, rfl⟩, HB.out.trans hb2⟩
set_option maxRecDepth 100000 in
set_option maxHeartbeats 8000000 in
theorem rd_start_no (B b Bw g0 cap : Nat) (r : List (List UInt8)) (vS vC vP : Value) (vs : Nat → Value) (g : GD) (w : World) (h : Rdg B b Bw g0 cap [115, 116, 97, 114, 116] r vS vC vP vs g w) (hp : 0 < (g.part : Int))
    : Calls Tryz.prog 28 #[.pointer (some ⟨b, 0, none⟩), .slice (some ⟨g0, 0, none⟩) (r.length + 1) cap] w fun e w' => e = .returned (.bool false) ∧ w' = w := by
  obtain ⟨hcap, hlt, hc⟩ := h.cells
  have c0 : w.cell? ⟨g0, 0, none⟩ = some (.string ⟨#[115, 116, 97, 114, 116]⟩) := hc 0 (by omega)
  obtain ⟨-, -, -, ⟨b3, f3⟩⟩ := cells4 h.rd.box
  have ln := h.ln
  have n0 : (r.length : Int) ≤ 4294967294 := by omega
  have n1 : (0 : Int) ≤ (r.length : Int) := Int.natCast_nonneg _
  have n2 : 1 ≤ (r.length : Int) + 1 := by omega
  have n3 : (r.length : Int) + 1 ≤ (cap : Int) := by omega
  have GO : Hid (Calls Tryz.prog 54 #[.pointer (some ⟨b, 0, none⟩), .int .i64 0] w fun e w' => e = .returned (.bool false) ∧ w' = w) := goTo_no b 0 _ w b3 f3 hp
  clear h hc hcap b3 f3
  go_enter Tryz.func28, Tryz.ntmps28
  go_wp2_with (first | (go_at_call 54; refine Calls.mono GO.out ?_; rintro e w1 ⟨rfl, rfl⟩))
  go_ret
  exact ⟨rfl, rfl⟩
set_option maxRecDepth 100000 in
set_option maxHeartbeats 8000000 in
theorem rd_thread_yes (B b Bw g0 cap : Nat) (r : List (List UInt8)) (vS vC vP : Value) (vs : Nat → Value) (g : GD) (w : World) (h : Rdg B b Bw g0 cap [116, 104, 114, 101, 97, 100] r vS vC vP vs g w) (O : Option GD) (hp : (g.part : Int) ≤ 1) (rc : ∀ cp, Calls Tryz.prog 56 #[.pointer (some ⟨b, 0, none⟩), .slice (if cap = 1 then some ⟨g0, 0, none⟩ else some ⟨g0, 1, none⟩) r.length cp] (w.setCell ⟨b, 3, none⟩ (.int .i64 1)) fun e w' => RdrOut B b (w.setCell ⟨b, 3, none⟩ (.int .i64 1)) w' O e)
    : Calls Tryz.prog 28 #[.pointer (some ⟨b, 0, none⟩), .slice (some ⟨g0, 0, none⟩) (r.length + 1) cap] w fun e w' => RdrOut B b w w' O e := by
  obtain ⟨hcap, hlt, hc⟩ := h.cells
  have c0 : w.cell? ⟨g0, 0, none⟩ = some (.string ⟨#[116, 104, 114, 101, 97, 100]⟩) := hc 0 (by omega)
  obtain ⟨-, -, -, ⟨b3, f3⟩⟩ := cells4 h.rd.box
  have ln := h.ln
  have n0 : (r.length : Int) ≤ 4294967294 := by omega
  have n1 : (0 : Int) ≤ (r.length : Int) := Int.natCast_nonneg _
  have n2 : 1 ≤ (r.length : Int) + 1 := by omega
  have n3 : (r.length : Int) + 1 ≤ (cap : Int) := by omega
  have GO : Hid (Calls Tryz.prog 54 #[.pointer (some ⟨b, 0, none⟩), .int .i64 1] w fun e w' => e = .returned (.bool true) ∧ w' = (w.setCell ⟨b, 3, none⟩ (.int .i64 1))) := goTo_yes b 1 _ w b3 f3 hp
  have HB : Hid (Below b w (w.setCell ⟨b, 3, none⟩ (.int .i64 1))) := (Below.refl _ _).setCell (p := ⟨b, 3, none⟩) (Nat.le_refl _) _
  have RC : Hid (∀ cp, Calls Tryz.prog 56 #[.pointer (some ⟨b, 0, none⟩), .slice (if cap = 1 then some ⟨g0, 0, none⟩ else some ⟨g0, 1, none⟩) r.length cp] (w.setCell ⟨b, 3, none⟩ (.int .i64 1)) fun e w' => RdrOut B b (w.setCell ⟨b, 3, none⟩ (.int .i64 1)) w' O e) := rc
  clear h hc hcap b3 f3 rc
  by_cases hc1 : cap = 1
  · subst hc1
    rw [if_pos rfl] at RC
    go_enter Tryz.func28, Tryz.ntmps28
    go_wp2_with (first | (go_at_call 54; refine Calls.mono GO.out ?_; rintro e w1 ⟨rfl, rfl⟩) | (go_at_call 56; refine Calls.mono (RC.out _) ?_; rintro e w2 ⟨⟨g', x1, x2, x3, x4, hO, rfl, hR⟩ | ⟨hO, rfl⟩, hb2⟩))
    · go_ret
      exact ⟨Or.inl ⟨g', x1, x2, x3, x4, hO, rfl, hR⟩, HB.out.trans hb2⟩
    · go_ret
      exact ⟨Or.inr ⟨hO, rfl⟩, HB.out.trans hb2⟩
  · rw [if_neg hc1] at RC
    have hc2 : ¬ ((cap : Int) = 1) := by omega
    have hc3 : ((cap : Int) == 1) = false := beq_eq_false_iff_ne.2 (by omega)
    go_enter Tryz.func28, Tryz.ntmps28
    go_wp2_with (first | (go_at_call 54; refine Calls.mono GO.out ?_; rintro e w1 ⟨rfl, rfl⟩) | (go_at_call 56; refine Calls.mono (RC.out _) ?_; rintro e w2 ⟨⟨g', x1, x2, x3, x4, hO, rfl, hR⟩ | ⟨hO, rfl⟩, hb2⟩))
    · go_ret
      exact ⟨Or.inl ⟨g', x1, x2, x3, x4, hO, rfl, hR⟩, HB.out.trans hb2⟩
    · go_ret
      exact ⟨Or.inr ⟨hO, rfl⟩, HB.out.trans hb2⟩
set_option maxRecDepth 100000 in
set_option maxHeartbeats 8000000 in
theorem rd_thread_no (B b Bw g0 cap : Nat) (r : List (List UInt8)) (vS vC vP : Value) (vs : Nat → Value) (g : GD) (w : World) (h : Rdg B b Bw g0 cap [116, 104, 114, 101, 97, 100] r vS vC vP vs g w) (hp : 1 < (g.part : Int))
    : Calls Tryz.prog 28 #[.pointer (some ⟨b, 0, none⟩), .slice (some ⟨g0, 0, none⟩) (r.length + 1) cap] w fun e w' => e = .returned (.bool false) ∧ w' = w := by
  obtain ⟨hcap, hlt, hc⟩ := h.cells
  have c0 : w.cell? ⟨g0, 0, none⟩ = some (.string ⟨#[116, 104, 114, 101, 97, 100]⟩) := hc 0 (by omega)
  obtain ⟨-, -, -, ⟨b3, f3⟩⟩ := cells4 h.rd.box
  have ln := h.ln
  have n0 : (r.length : Int) ≤ 4294967294 := by omega
  have n1 : (0 : Int) ≤ (r.length : Int) := Int.natCast_nonneg _
  have n2 : 1 ≤ (r.length : Int) + 1 := by omega
  have n3 : (r.length : Int) + 1 ≤ (cap : Int) := by omega
  have GO : Hid (Calls Tryz.prog 54 #[.pointer (some ⟨b, 0, none⟩), .int .i64 1] w fun e w' => e = .returned (.bool false) ∧ w' = w) := goTo_no b 1 _ w b3 f3 hp
  clear h hc hcap b3 f3
  go_enter Tryz.func28, Tryz.ntmps28
  go_wp2_with (first | (go_at_call 54; refine Calls.mono GO.out ?_; rintro e w1 ⟨rfl, rfl⟩))
  go_ret
  exact ⟨rfl, rfl⟩
set_option maxRecDepth 100000 in
set_option maxHeartbeats 8000000 in
theorem rd_pick_yes (B b Bw g0 cap : Nat) (r : List (List UInt8)) (vS vC vP : Value) (vs : Nat → Value) (g : GD) (w : World) (h : Rdg B b Bw g0 cap [112, 105, 99, 107] r vS vC vP vs g w) (O : Option GD) (hp : (g.part : Int) ≤ 2) (rc : ∀ cp, Calls Tryz.prog 57 #[.pointer (some ⟨b, 0, none⟩), .slice (if cap = 1 then some ⟨g0, 0, none⟩ else some ⟨g0, 1, none⟩) r.length cp] (w.setCell ⟨b, 3, none⟩ (.int .i64 2)) fun e w' => RdrOut B b (w.setCell ⟨b, 3, none⟩ (.int .i64 2)) w' O e)
    : Calls Tryz.prog 28 #[.pointer (some ⟨b, 0, none⟩), .slice (some ⟨g0, 0, none⟩) (r.length + 1) cap] w fun e w' => RdrOut B b w w' O e := by
  obtain ⟨hcap, hlt, hc⟩ := h.cells
  have c0 : w.cell? ⟨g0, 0, none⟩ = some (.string ⟨#[112, 105, 99, 107]⟩) := hc 0 (by omega)
  obtain ⟨-, -, -, ⟨b3, f3⟩⟩ := cells4 h.rd.box
  have ln := h.ln
  have n0 : (r.length : Int) ≤ 4294967294 := by omega
  have n1 : (0 : Int) ≤ (r.length : Int) := Int.natCast_nonneg _
  have n2 : 1 ≤ (r.length : Int) + 1 := by omega
  have n3 : (r.length : Int) + 1 ≤ (cap : Int) := by omega
  have GO : Hid (Calls Tryz.prog 54 #[.pointer (some ⟨b, 0, none⟩), .int .i64 2] w fun e w' => e = .returned (.bool true) ∧ w' = (w.setCell ⟨b, 3, none⟩ (.int .i64 2))) := goTo_yes b 2 _ w b3 f3 hp
  have HB : Hid (Below b w (w.setCell ⟨b, 3, none⟩ (.int .i64 2))) := (Below.refl _ _).setCell (p := ⟨b, 3, none⟩) (Nat.le_refl _) _
  have RC : Hid (∀ cp, Calls Tryz.prog 57 #[.pointer (some ⟨b, 0, none⟩), .slice (if cap = 1 then some ⟨g0, 0, none⟩ else some ⟨g0, 1, none⟩) r.length cp] (w.setCell ⟨b, 3, none⟩ (.int .i64 2)) fun e w' => RdrOut B b (w.setCell ⟨b, 3, none⟩ (.int .i64 2)) w' O e) := rc
  clear h hc hcap b3 f3 rc
  by_cases hc1 : cap = 1
  · subst hc1
    rw [if_pos rfl] at RC
    go_enter Tryz.func28, Tryz.ntmps28
    go_wp2_with (first | (go_at_call 54; refine Calls.mono GO.out ?_; rintro e w1 ⟨rfl, rfl⟩) | (go_at_call 57; refine Calls.mono (RC.out _) ?_; rintro e w2 ⟨⟨g', x1, x2, x3, x4, hO, rfl, hR⟩ | ⟨hO, rfl⟩, hb2⟩))
    · go_ret
      exact ⟨Or.inl ⟨g', x1, x2, x3, x4, hO, rfl, hR⟩, HB.out.trans hb2⟩
    · go_ret
      exact ⟨Or.inr ⟨hO, rfl⟩, HB.out.trans hb2⟩
  · rw [if_neg hc1] at RC
    have hc2 : ¬ ((cap : Int) = 1) := by omega
    have hc3 : ((cap : Int) == 1) = false := beq_eq_false_iff_ne.2 (by omega)
    go_enter Tryz.func28, Tryz.ntmps28
    go_wp2_with (first | (go_at_call 54; refine Calls.mono GO.out ?_; rintro e w1 ⟨rfl, rfl⟩) | (go_at_call 57; refine Calls.mono (RC.out _) ?_; rintro e w2 ⟨⟨g', x1, x2, x3, x4, hO, rfl, hR⟩ | ⟨hO, rfl⟩, hb2⟩))
    · go_ret
      exact ⟨Or.inl ⟨g', x1, x2, x3, x4, hO, rfl, hR⟩, HB.out.trans hb2⟩
    · go_ret
      exact ⟨Or.inr ⟨hO, rfl⟩, HB.out.trans hb2⟩
set_option maxRecDepth 100000 in
set_option maxHeartbeats 8000000 in
theorem rd_op_yes (B b Bw g0 cap : Nat) (x : List UInt8) (r : List (List UInt8)) (vS vC vP : Value) (vs : Nat → Value) (g : GD) (w : World) (h : Rdg B b Bw g0 cap x r vS vC vP vs g w) (hs : x ≠ startW) (ht : x ≠ threadW) (hk : x ≠ pickW) (hp : g.part = 1)
    : Calls Tryz.prog 28 #[.pointer (some ⟨b, 0, none⟩), .slice (some ⟨g0, 0, none⟩) (r.length + 1) cap] w fun e w' => RdrOut B b w w' ((opO (x :: r)).map (addO g)) e := by
  obtain ⟨hcap, hlt, hc⟩ := h.cells
  have c0 : w.cell? ⟨g0, 0, none⟩ = some (.string ⟨x.toArray⟩) := hc 0 (by omega)
  obtain ⟨-, -, -, ⟨b3, f3⟩⟩ := cells4 h.rd.box
  have ln := h.ln
  have n0 : (r.length : Int) ≤ 4294967294 := by omega
  have n1 : (0 : Int) ≤ (r.length : Int) := Int.natCast_nonneg _
  have s1 : (x == [115, 116, 97, 114, 116]) = false := beq_eq_false_iff_ne.2 hs
  have s2 : (x == [116, 104, 114, 101, 97, 100]) = false := beq_eq_false_iff_ne.2 ht
  have s3 : (x == [112, 105, 99, 107]) = false := beq_eq_false_iff_ne.2 hk
  have RO : Hid (Calls Tryz.prog 58 #[.pointer (some ⟨b, 0, none⟩), .slice (some ⟨g0, 0, none⟩) (r.length + 1) cap] w fun e w' => RdrOut B b w w' ((opO (x :: r)).map (addO g)) e) := readOp_any B b Bw _ (x :: r) vS vC vP vs g w h.rd h.hB h.row h.wd (by simpa using ln) h.sz.2.1 h.sz.2.2 (h.ok.thr hp) h.he
  rw [hp] at b3
  clear h hc hcap hs ht hk f3
  go_enter Tryz.func28, Tryz.ntmps28
  go_wp2_with (first | (go_at_call 58; refine Calls.mono RO.out ?_; rintro e w2 ⟨⟨g', x1, x2, x3, x4, hO, rfl, hR⟩ | ⟨hO, rfl⟩, hb2⟩))
  · go_ret
    exact ⟨Or.inl ⟨g', x1, x2, x3, x4, hO, rfl, hR⟩, hb2⟩
  · go_ret
    exact ⟨Or.inr ⟨hO, rfl⟩, hb2⟩
set_option maxRecDepth 100000 in
set_option maxHeartbeats 8000000 in
theorem rd_op_no (B b Bw g0 cap : Nat) (x : List UInt8) (r : List (List UInt8)) (vS vC vP : Value) (vs : Nat → Value) (g : GD) (w : World) (h : Rdg B b Bw g0 cap x r vS vC vP vs g w) (hs : x ≠ startW) (ht : x ≠ threadW) (hk : x ≠ pickW) (hp : g.part ≠ 1)
    : Calls Tryz.prog 28 #[.pointer (some ⟨b, 0, none⟩), .slice (some ⟨g0, 0, none⟩) (r.length + 1) cap] w fun e w' => e = .returned (.bool false) ∧ w' = w := by
  obtain ⟨hcap, hlt, hc⟩ := h.cells
  have c0 : w.cell? ⟨g0, 0, none⟩ = some (.string ⟨x.toArray⟩) := hc 0 (by omega)
  obtain ⟨-, -, -, ⟨b3, f3⟩⟩ := cells4 h.rd.box
  have ln := h.ln
  have n0 : (r.length : Int) ≤ 4294967294 := by omega
  have n1 : (0 : Int) ≤ (r.length : Int) := Int.natCast_nonneg _
  have s1 : (x == [115, 116, 97, 114, 116]) = false := beq_eq_false_iff_ne.2 hs
  have s2 : (x == [116, 104, 114, 101, 97, 100]) = false := beq_eq_false_iff_ne.2 ht
  have s3 : (x == [112, 105, 99, 107]) = false := beq_eq_false_iff_ne.2 hk
  have d1 : ((g.part : Int) == 1) = false := beq_eq_false_iff_ne.2 (by omega)
  clear h hc hcap hs ht hk f3
  go_enter Tryz.func28, Tryz.ntmps28
  go_wp2_with fail
  go_ret
  exact ⟨rfl, rfl⟩
end Go.Proofs.YtknlapipkglnjaaGreatDoor

namespace Go.Proofs.YtknlapipkglnjaaGreatDoor

open Go.RowKit

theorem GD.part_eq {g : GD} {p : Nat} (h : g.part = p) : { g with part := p } = g := by
  cases g
  subst h
  rfl
theorem lread_any (B b Bw g0 cap : Nat) (x : List UInt8) (r : List (List UInt8)) (vS vC vP : Value) (vs : Nat → Value) (g : GD) (w : World) (h : Rdg B b Bw g0 cap x r vS vC vP vs g w) (hx : x.head? ≠ some 35) :
    Calls Tryz.prog 28 #[.pointer (some ⟨b, 0, none⟩), .slice (some ⟨g0, 0, none⟩) (r.length + 1) cap] w fun e w' => RdrOut B b w w' (stepG g (x :: r)) e := by
  have hne : g0 ≠ b := word_block h.row h.rd.box
  have hsz : ∀ v : Value, (w.setCell ⟨b, 3, none⟩ v).heap.size = w.heap.size := fun v => by simp [World.setCell]
  have hrest : ∀ v : Value, WsR (w.setCell ⟨b, 3, none⟩ v) (if cap = 1 then some ⟨g0, 0, none⟩ else some ⟨g0, 1, none⟩) g0 r := fun v => h.rest (Below.heap_setCell _ _ _ _ hne) (by rw [hsz]; exact Nat.le_refl _)
  have hE : ∀ v : Value, HEB b (w.setCell ⟨b, 3, none⟩ v) := fun v => h.he.down ((Below.refl _ _).setCell (p := ⟨b, 3, none⟩) (Nat.le_refl _) _) (Nat.le_refl _)
  have hB := h.hB
  rw [stepG, if_neg hx]
  by_cases h1 : x = startW
  · subst h1
    rw [if_pos rfl]
    by_cases hp : g.part = 0
    · rw [if_pos hp]
      refine rd_start_yes B b Bw g0 cap r vS vC vP vs g w h (startO g r) (by omega) (fun cp => ?_)
      have hr := hrest (.int .i64 0)
      have hR := h.rd.part 0
      rw [GD.part_eq hp] at hR
      exact readStart_any B b g0 cp _ r vS vC vP vs g _ hR (by rw [hsz]; exact hB) hr.bs hr.cl hr.lt hr.wd hr.ln h.sz.1 (hE _)
    · rw [if_neg hp]
      exact (rd_start_no B b Bw g0 cap r vS vC vP vs g w h (by omega)).mono (by
        rintro e w' ⟨rfl, rfl⟩
        exact ⟨Or.inr ⟨rfl, rfl⟩, Below.refl _ _⟩)
  · rw [if_neg h1]
    by_cases h2 : x = threadW
    · subst h2
      rw [if_pos rfl]
      by_cases hp : g.part ≤ 1
      · have e1 : (if g.part ≤ 1 ∧ r = [] then some { g with scripts := g.scripts ++ [([] : List OpD)], part := 1 } else none) = threadO { g with part := 1 } r := by
          unfold threadO
          by_cases hr : r = []
          · rw [if_pos ⟨hp, hr⟩, if_pos hr]
          · rw [if_neg (fun q => hr q.2), if_neg hr]
        rw [e1]
        refine rd_thread_yes B b Bw g0 cap r vS vC vP vs g w h _ (by omega) (fun cp => ?_)
        exact readThread_any B b cp _ r vS vC vP vs { g with part := 1 } _ (h.rd.part 1) (by rw [hsz]; exact hB) (hrest (.int .i64 1)).ln h.sz.2.1
      · rw [if_neg (fun q => hp q.1)]
        exact (rd_thread_no B b Bw g0 cap r vS vC vP vs g w h (by omega)).mono (by
          rintro e w' ⟨rfl, rfl⟩
          exact ⟨Or.inr ⟨rfl, rfl⟩, Below.refl _ _⟩)
    · rw [if_neg h2]
      by_cases h3 : x = pickW
      · subst h3
        rw [if_pos rfl, ← pickQ_eq g r]
        have hp := h.ok.part
        refine rd_pick_yes B b Bw g0 cap r vS vC vP vs g w h _ (by omega) (fun cp => ?_)
        exact readPick_any B b g0 cp _ r vS vC vP vs { g with part := 2 } _ (h.rd.part 2) (by rw [hsz]; exact hB) (hrest _) h.ok.picks (hE _)
      · rw [if_neg h3]
        by_cases hp : g.part = 1
        · rw [if_pos hp]
          exact rd_op_yes B b Bw g0 cap x r vS vC vP vs g w h h1 h2 h3 hp
        · rw [if_neg hp]
          exact (rd_op_no B b Bw g0 cap x r vS vC vP vs g w h h1 h2 h3 hp).mono (by
            rintro e w' ⟨rfl, rfl⟩
            exact ⟨Or.inr ⟨rfl, rfl⟩, Below.refl _ _⟩)
/-- How much a text can have said behind so many lines. -/
structure SzG (g : GD) (i : Nat) : Prop where
  st : g.start.length ≤ i
  sc : g.scripts.length ≤ i
  ro : ∀ k, (g.scripts.getD k []).length ≤ i
theorem sz0 : SzG gd0 0 := ⟨by simp [gd0], by simp [gd0], fun k => by simp [gd0]⟩
theorem SzG.up {g : GD} {i : Nat} (h : SzG g i) : SzG g (i + 1) := ⟨Nat.le_succ_of_le h.st, Nat.le_succ_of_le h.sc, fun k => Nat.le_succ_of_le (h.ro k)⟩
theorem addP_sz {g g' : GD} {p n : Int} {i : Nat} (h : SzG g i) (hs : addP g p n = some g') : SzG g' i := by
  unfold addP at hs
  split at hs
  · injection hs with hs; subst hs; exact ⟨h.st, h.sc, h.ro⟩
  · cases hs
theorem stepG_sz {g g' : GD} {i : Nat} {ws : List (List UInt8)} (h : SzG g i) (hs : stepG g ws = some g') : SzG g' (i + 1) := by
  cases ws with
  | nil => injection hs with hs; subst hs; exact h.up
  | cons x r =>
    rw [stepG] at hs
    split at hs
    · injection hs with hs; subst hs; exact h.up
    · split at hs
      · split at hs
        · unfold startO at hs
          split at hs
          · split at hs
            · injection hs with hs; subst hs; exact ⟨by simp; exact h.st, h.up.sc, h.up.ro⟩
            · cases hs
          · cases hs
        · cases hs
      · split at hs
        · split at hs
          · injection hs with hs; subst hs
            refine ⟨h.up.st, by simp; exact h.sc, fun k => ?_⟩
            show ((g.scripts ++ [([] : List OpD)]).getD k []).length ≤ _
            by_cases q : k < g.scripts.length
            · rw [List.getD_eq_getElem?_getD, List.getElem?_append_left q, ← List.getD_eq_getElem?_getD]
              exact h.up.ro k
            · rw [List.getD_eq_getElem?_getD, List.getElem?_append_right (by omega)]
              cases e : k - g.scripts.length with
              | zero => simp
              | succ n => simp
          · cases hs
        · split at hs
          · unfold pickO at hs
            split at hs
            · split at hs
              · exact (addP_sz h hs).up
              · cases hs
            · split at hs
              · exact (addP_sz h hs).up
              · cases hs
            · cases hs
          · split at hs
            · obtain ⟨o, -, rfl⟩ := Option.map_eq_some_iff.1 hs
              refine ⟨h.up.st, ?_, fun k => ?_⟩
              · show (g.scripts.dropLast ++ [g.scripts.getLastD [] ++ [o]]).length ≤ _
                have := h.sc
                simp
                omega
              · show ((g.scripts.dropLast ++ [g.scripts.getLastD [] ++ [o]]).getD k []).length ≤ _
                by_cases q : k < g.scripts.dropLast.length
                · rw [List.getD_eq_getElem?_getD, List.getElem?_append_left q, List.getElem?_dropLast]
                  split
                  · rw [← List.getD_eq_getElem?_getD]; exact h.up.ro k
                  · simp
                · rw [List.getD_eq_getElem?_getD, List.getElem?_append_right (by omega)]
                  cases e : k - g.scripts.dropLast.length with
                  | zero =>
                    have hl := h.ro (g.scripts.length - 1)
                    have : (g.scripts.getLastD []).length ≤ i := by
                      rw [List.getLastD_eq_getLast?, List.getLast?_eq_getElem?, ← List.getD_eq_getElem?_getD]
                      exact hl
                    simp only [List.getElem?_cons_zero, Option.getD_some, List.length_append, List.length_singleton]
                    omega
                  | succ n => simp
            · cases hs
end Go.Proofs.YtknlapipkglnjaaGreatDoor


namespace Go.Proofs.YtknlapipkglnjaaGreatDoor

open Go.RowKit

attribute [local go_sem ↓] Go.wp_at_zero Go.wp_at_succ

theorem drop_cut (t : List UInt8) {a i : Nat} (h : a ≤ i) : t.drop a = cutL t (a, i) ++ t.drop i := by
  unfold cutL
  conv => lhs; rw [← List.take_append_drop (i - a) (t.drop a)]
  rw [List.drop_drop, show a + (i - a) = i by omega]
theorem drop_at (t : List UInt8) {i : Nat} (h : i < t.length) : t.drop i = t.getD i 0 :: t.drop (i + 1) := by
  rw [List.drop_eq_getElem_cons h, List.getD_eq_getElem?_getD, List.getElem?_eq_getElem h]
  rfl
theorem line_at (t : List UInt8) {a i : Nat} (ha : a ≤ i) (hi : i < t.length) (hc : t.getD i 0 = 10) (hn : ∀ c ∈ cutL t (a, i), c ≠ 10) : linesL (t.drop a) = cutL t (a, i) :: linesL (t.drop (i + 1)) := by
  rw [drop_cut t ha, drop_at t hi, hc, lines_app hn]
theorem line_end (t : List UInt8) {a : Nat} (ha : a < t.length) (hn : ∀ c ∈ cutL t (a, t.length), c ≠ 10) : linesL (t.drop a) = [t.drop a] := by
  have e := drop_cut t (a := a) (i := t.length) (by omega)
  rw [List.drop_length, List.append_nil] at e
  rw [← e] at hn
  exact lines_end hn (by intro q; have := congrArg List.length q; simp at this; omega)
theorem cut_more (t : List UInt8) {a i : Nat} (ha : a ≤ i) (hi : i < t.length) (hc : t.getD i 0 ≠ 10) (hn : ∀ c ∈ cutL t (a, i), c ≠ 10) : ∀ c ∈ cutL t (a, i + 1), c ≠ 10 := by
  rw [cutL_snoc t ha hi]
  intro c h
  rcases List.mem_append.1 h with h | h
  · exact hn c h
  · rw [List.mem_singleton.1 h]; exact hc
set_option maxRecDepth 100000 in
set_option maxHeartbeats 8000000 in
theorem rLines_any (t : List UInt8) (ht : t.length ≤ 2000000) (w : World) :
    Calls Tryz.prog 30 #[.string ⟨t.toArray⟩] w fun e w' => ∃ v, e = .returned v ∧ Wd w w' v (linesL t) := by
  have hsz : (⟨t.toArray⟩ : ByteArray).size = t.length := by simp [ByteArray.size]
  have b0 : (t.length : Int) ≤ 2000000 := by omega
  obtain ⟨i0, hi0, hz0, hz1, hz2⟩ := info_parts st_info
  go_enter Tryz.func30, Tryz.ntmps30
  go_wp2_with fail
  go_loopw [3, 4, 5] (fun vo va vi wr => ∃ (i a : Nat) (A : List (List UInt8)), i ≤ t.length ∧ a ≤ i ∧ A.length ≤ i ∧ vi = .int .i64 i ∧ va = .int .i64 a ∧ Wd w wr vo A ∧ linesL t = A ++ linesL (t.drop a) ∧ ∀ c ∈ cutL t (a, i), c ≠ 10) (fun _ _ vi _ => t.length - (intOf vi).toNat)
  case atStart => exact ⟨0, 0, [], Nat.zero_le _, Nat.le_refl _, Nat.le_refl _, rfl, rfl, ⟨World.ownsRow_lit w #[] 0 (Nat.le_refl _) (by unfold maxLen; omega) rfl, below_alloc _ _⟩, by simp, fun c h => by simp [cutL] at h⟩
  case round =>
    obtain ⟨i, a, A, hil, hai, hAl, rfl, rfl, hwd, hln, hnl⟩ := hrel
    rename World => wr
    have TR : Hid (Wd w wr _ A) := hwd
    have HL : Hid (linesL t = A ++ linesL (t.drop a)) := hln
    have HN : Hid (∀ c ∈ cutL t (a, i), c ≠ 10) := hnl
    have hsw := hwd.size
    have Al : A.length ≤ 2000000 := by omega
    have a0 : (0 : Int) ≤ (a : Int) := Int.natCast_nonneg _
    have a1 : (a : Int) ≤ (i : Int) := by omega
    clear hwd hln hnl
    by_cases hi : i < t.length
    · have j0 : (0 : Int) ≤ (i : Int) := Int.natCast_nonneg _
      have j1 : (i : Int) < (t.length : Int) := by omega
      by_cases hc : t.getD i 0 = 10
      · have c0 : (⟨t.toArray⟩ : ByteArray)[i].toNat = 10 := hb_eq hi (c := 10) hc
        have HX : Hid (linesL t = (A ++ [cutL t (a, i)]) ++ linesL (t.drop (i + 1))) := by show _ = _; rw [HL.out, line_at t hai hi hc HN.out, List.append_assoc]; rfl
        have HXT : Hid ((⟨t.toArray⟩ : ByteArray).extract a i = ⟨(cutL t (a, i)).toArray⟩) := by show _ = _; rw [ByteArray.extract_mk]; simp [cutL]
        clear hc
        go_wp2_with (first | (at_builtin; have q := TR; (refine wpList_append_lies _ (by rfl) _ _ _ (by rfl) w.heap.size 9 i0 _ 1 16 strs_under hi0 hz0 hz1 hz2 rfl (by omega) _ A.length _ (by rfl) (TR.out.own.alloc _) ⟨wr.heap.size, 0, none⟩ 1 1 [.string ((⟨t.toArray⟩ : ByteArray).extract a i)] (by rfl) (by rfl) (World.news_of_block (cs := #[.string ((⟨t.toArray⟩ : ByteArray).extract a i)]) (t := 9) (fr := (0, 0)) (heap_alloc_at _ _ _ (by simp))) (by simp [Value.oneCell']) (by omega) (by unfold maxLen; first | omega | (simp; omega)) (by first | omega | (simp; omega)) (by have := TR.out.size; simp at this ⊢; omega) (wr.heap.size + 1) (by simp) ?_); intro g4 p4 x4 ho hg hat hl4; rw [HXT.out] at ho; have T4 : Hid (Wd w x4 _ (A ++ [cutL t (a, i)])) := TR.out.push hg ho; clear ho hg hat hl4 q TR))
        exact ⟨⟨i + 1, i + 1, A ++ [cutL t (a, i)], by omega, Nat.le_refl _, by simp; omega, by go_num, by go_num, T4.out, HX.out, fun c h => by simp [cutL] at h⟩, by simp [intOf]; omega⟩
      · have c0 : (((⟨t.toArray⟩ : ByteArray)[i].toNat : Int) == 10) = false := hb_nei hi (c := 10) hc
        have HM : Hid (∀ c ∈ cutL t (a, i + 1), c ≠ 10) := cut_more t hai hi hc HN.out
        clear hc
        go_wp2_with fail
        exact ⟨⟨i + 1, a, A, by omega, by omega, by omega, by go_num, rfl, TR.out, HL.out, HM.out⟩, by simp [intOf]; omega⟩
    · obtain rfl : i = t.length := by omega
      clear hi hil
      by_cases ha : a < t.length
      · have j1 : (a : Int) < (t.length : Int) := by omega
        have HX : Hid (linesL t = A ++ [t.drop a]) := by show _ = _; rw [HL.out, line_end t ha HN.out]
        have HXT : Hid ((⟨t.toArray⟩ : ByteArray).extract a t.length = ⟨(t.drop a).toArray⟩) := by show _ = _; rw [ByteArray.extract_mk]; simp; rw [List.take_of_length_le (by simp)]
        clear ha
        go_wp2_with (first | (at_builtin; have q := TR; (refine wpList_append_lies _ (by rfl) _ _ _ (by rfl) w.heap.size 9 i0 _ 1 16 strs_under hi0 hz0 hz1 hz2 rfl (by omega) _ A.length _ (by rfl) (TR.out.own.alloc _) ⟨wr.heap.size, 0, none⟩ 1 1 [.string ((⟨t.toArray⟩ : ByteArray).extract a t.length)] (by rfl) (by rfl) (World.news_of_block (cs := #[.string ((⟨t.toArray⟩ : ByteArray).extract a t.length)]) (t := 9) (fr := (0, 0)) (heap_alloc_at _ _ _ (by simp))) (by simp [Value.oneCell']) (by omega) (by unfold maxLen; first | omega | (simp; omega)) (by first | omega | (simp; omega)) (by have := TR.out.size; simp at this ⊢; omega) (wr.heap.size + 1) (by simp) ?_); intro g4 p4 x4 ho hg hat hl4; rw [HXT.out] at ho; have T4 : Hid (Wd w x4 _ (A ++ [t.drop a])) := TR.out.push hg ho; clear ho hg hat hl4 q TR))
        go_ret
        exact ⟨_, rfl, T4.out.to HX.out.symm⟩
      · obtain rfl : a = t.length := by omega
        have HX : Hid (linesL t = A) := by have := HL.out; rw [List.drop_length, lines_nil, List.append_nil] at this; exact this
        clear ha
        go_wp2_with fail
        go_ret
        exact ⟨_, rfl, TR.out.to HX.out.symm⟩
end Go.Proofs.YtknlapipkglnjaaGreatDoor


namespace Go.Proofs.YtknlapipkglnjaaGreatDoor

open Go.RowKit

/-- The game's box, the game, and the lines that are read. -/
structure RfB (B b : Nat) (z : World) (vS vC vP : Value) (vs : Nat → Value) (g : GD) (vL : Value) (L : List (List UInt8)) : Prop where
  box : z.heap[b]? = some (.cells #[vS, vC, vP] 33)
  lt : b < B
  game : GAt B z vS vC vP vs g
  ln : z.ownsRow B 9 1 vL L.length (strC L)
theorem RfB.quiet {B b : Nat} {z y : World} {vS vC vP vL : Value} {vs : Nat → Value} {g : GD} {L : List (List UInt8)} (h : RfB B b z vS vC vP vs g vL L) (hb : Below z.heap.size z y) : RfB B b y vS vC vP vs g vL L :=
  ⟨(hb.block b (Array.getElem?_eq_some_iff.1 h.box).1).trans h.box, h.lt, h.game.quiet hb, owns_below h.ln hb⟩
theorem RfB.part {B b : Nat} {z : World} {vS vC vP vL : Value} {vs : Nat → Value} {g : GD} {L : List (List UInt8)} (h : RfB B b z vS vC vP vs g vL L) (p : Nat) : RfB B b z vS vC vP vs { g with part := p } vL L := ⟨h.box, h.lt, h.game.part p, h.ln⟩
theorem t_sp : (9 : TypeId) ≠ 49 := by decide
theorem t_si : (9 : TypeId) ≠ 3 := by decide
theorem t_sc : (9 : TypeId) ≠ 37 := by decide
theorem t_so : (9 : TypeId) ≠ 39 := by decide
theorem RfB.addS {B b : Nat} {w y w3 : World} {vS vC vP vL v' : Value} {vs : Nat → Value} {g : GD} {L : List (List UInt8)} (h : RfB B b w vS vC vP vs g vL L) (hy : Below w.heap.size w y) (hg : y.grownBy w3 vS.ownBlock) (k v : Int) (ho : w3.ownsRow B 49 2 v' (g.start.length + 1) (pairCells g.start ++ [.int .i64 k, .int .i64 v])) :
    w3.heap[b]? = some (.cells #[vS, vC, vP] 33) ∧ RfB B b (w3.setCell ⟨b, 0, none⟩ v') v' vC vP vs { g with start := g.start ++ [(k, v)] } vL L ∧ Below b w (w3.setCell ⟨b, 0, none⟩ v') := by
  have hb : b < w.heap.size := (Array.getElem?_eq_some_iff.1 h.box).1
  have lt := h.lt
  have hr : ∀ k, k < B → vS.ownBlock ≠ some k := fun k hk q => by have := (owns_lt h.game.st k q).1; omega
  have hbx := (farG hy hg hb (hr b h.lt)).trans h.box
  have h2 := h.quiet hy
  refine ⟨hbx, ⟨?_, h.lt, (h2.game.pushS hg k v ho).low h.lt 0 _, owns_apart (h2.ln.kept hg (rowApart h2.ln h2.game.st t_sp)) b 0 _ h.lt⟩, (belowG (b := b) hy hg (by omega) (fun k hk => hr k (by omega))).setCell (p := ⟨b, 0, none⟩) (Nat.le_refl _) _⟩
  rw [Go.Joins.block_setCell hbx]
  rfl
theorem RfB.addP {B b : Nat} {w y w3 : World} {vS vC vP vL v' : Value} {vs : Nat → Value} {g : GD} {L : List (List UInt8)} (h : RfB B b w vS vC vP vs g vL L) (hy : Below w.heap.size w y) (hg : y.grownBy w3 vP.ownBlock) (p : Int) (ho : w3.ownsRow B 3 1 v' (g.picks.length + 1) (inC g.picks ++ [.int .i64 p])) :
    w3.heap[b]? = some (.cells #[vS, vC, vP] 33) ∧ RfB B b (w3.setCell ⟨b, 2, none⟩ v') vS vC v' vs { g with picks := g.picks ++ [p] } vL L ∧ Below b w (w3.setCell ⟨b, 2, none⟩ v') := by
  have hb : b < w.heap.size := (Array.getElem?_eq_some_iff.1 h.box).1
  have lt := h.lt
  have hr : ∀ k, k < B → vP.ownBlock ≠ some k := fun k hk q => by have := (owns_lt h.game.pk k q).1; omega
  have hbx := (farG hy hg hb (hr b h.lt)).trans h.box
  have h2 := h.quiet hy
  refine ⟨hbx, ⟨?_, h.lt, (h2.game.pushP hg [p] g.part (by simpa [inC] using ho)).low h.lt 2 _, owns_apart (h2.ln.kept hg (rowApart h2.ln h2.game.pk t_si)) b 2 _ h.lt⟩, (belowG (b := b) hy hg (by omega) (fun k hk => hr k (by omega))).setCell (p := ⟨b, 2, none⟩) (Nat.le_refl _) _⟩
  rw [Go.Joins.block_setCell hbx]
  rfl
theorem RfB.addT {B b : Nat} {w y w3 : World} {vS vC vP vL v' : Value} {vs : Nat → Value} {g : GD} {L : List (List UInt8)} (h : RfB B b w vS vC vP vs g vL L) (hy : Below w.heap.size w y) (hg : y.grownBy w3 vC.ownBlock) (p : Nat) (ho : w3.ownsRow B 37 1 v' (g.scripts.length + 1) ((List.range g.scripts.length).map vs ++ [.slice none 0 0])) :
    w3.heap[b]? = some (.cells #[vS, vC, vP] 33) ∧ RfB B b (w3.setCell ⟨b, 1, none⟩ v') vS v' vP (fun i => if i < g.scripts.length then vs i else .slice none 0 0) { g with scripts := g.scripts ++ [([] : List OpD)], part := p } vL L ∧ Below b w (w3.setCell ⟨b, 1, none⟩ v') := by
  have hb : b < w.heap.size := (Array.getElem?_eq_some_iff.1 h.box).1
  have lt := h.lt
  have hr : ∀ k, k < B → vC.ownBlock ≠ some k := fun k hk q => by have := (owns_lt h.game.top k q).1; omega
  have hbx := (farG hy hg hb (hr b h.lt)).trans h.box
  have h2 := h.quiet hy
  refine ⟨hbx, ⟨?_, h.lt, (h2.game.pushT hg p ho).low h.lt 1 _, owns_apart (h2.ln.kept hg (rowApart h2.ln h2.game.top t_sc)) b 1 _ h.lt⟩, (belowG (b := b) hy hg (by omega) (fun k hk => hr k (by omega))).setCell (p := ⟨b, 1, none⟩) (Nat.le_refl _) _⟩
  rw [Go.Joins.block_setCell hbx]
  rfl
theorem RfB.addO {B b m c cap L' vc gg cp : Nat} {va : Option Addr} {w w3 : World} {vS vP vL : Value} {vs : Nat → Value} {g : GD} {oa ob oc od : Int} {x : Obj} {L : List (List UInt8)} (h : RfB B b w vS (.slice (some ⟨c, 0, none⟩) g.scripts.length cap) vP vs g vL L) (hm : m + 1 = g.scripts.length) (hL : L' = (g.scripts.getD m []).length) (hv : vs m = .slice va L' vc)
    (hg : ((w.alloc x).drew).grownBy w3 (Value.slice va L' vc).ownBlock) (ho : w3.ownsRow B 39 4 (.slice (some ⟨gg, 0, none⟩) (L' + 1) cp) (L' + 1) (opsC (g.scripts.getD m []) ++ [.int .i64 oa, .int .i64 ob, .int .i64 oc, .int .i64 od])) (hat : (Value.slice va L' vc).ownBlock = some gg ∨ gg = w.heap.size + 1) :
    (w3.cell? ⟨c, m, none⟩ = some (.slice va L' vc) ∧ w3.frozen? ⟨c, m, none⟩ = false) ∧ w3.heap[b]? = some (.cells #[vS, .slice (some ⟨c, 0, none⟩) g.scripts.length cap, vP] 33) ∧ RfB B b (w3.setCell ⟨c, m, none⟩ (.slice (some ⟨gg, 0, none⟩) (L' + 1) cp)) vS (.slice (some ⟨c, 0, none⟩) g.scripts.length cap) vP (fun i => if i = m then .slice (some ⟨gg, 0, none⟩) (L' + 1) cp else vs i) (addO g ⟨oa, ob, oc, od⟩) vL L ∧ Below b w (w3.setCell ⟨c, m, none⟩ (.slice (some ⟨gg, 0, none⟩) (L' + 1) cp)) := by
  have hb : b < w.heap.size := (Array.getElem?_eq_some_iff.1 h.box).1
  have lt := h.lt
  have hmr : m < g.scripts.length := by omega
  have hy : Below w.heap.size w ((w.alloc x).drew) := (below_alloc w x).drew
  rw [← hv] at hg hat
  have h2 := h.quiet hy
  have hr : ∀ k, k < B → (vs m).ownBlock ≠ some k := fun k hk q => by have := (owns_lt (h.game.row m hmr) k q).1; omega
  have hc : B ≤ c := (owns_lt h.game.top c rfl).1
  have htop := (h2.game.top).kept hg (rowApart h2.game.top (h2.game.row m hmr) t_co)
  obtain ⟨c', cap', he, -, -, -, -, hcl, hfr⟩ := owns_some htop (by omega)
  obtain rfl : c = c' := by
    injection he with he _ _
    injection he with he
    injection he
  have hbx := (farG hy hg hb (hr b h.lt)).trans h.box
  have hln := h2.ln.kept hg (rowApart h2.ln (h2.game.row m hmr) t_so)
  refine ⟨⟨?_, hfr m⟩, hbx, ⟨?_, h.lt, ?_, ?_⟩, (belowG (b := b) hy hg (by omega) (fun k hk => hr k (by omega))).setCell (p := ⟨c, m, none⟩) (by show b ≤ c; omega) _⟩
  · rw [hcl m (by omega), List.getElem?_map, List.getElem?_range hmr, ← hv]
    rfl
  · rw [Below.heap_setCell _ _ _ _ (by show b ≠ c; omega)]
    exact hbx
  · subst hL
    exact h2.game.pushO hm hg ⟨oa, ob, oc, od⟩ ho (by
      rcases hat with q | q
      · exact Or.inl q
      · right
        rw [q]
        show _ = (w.alloc x).heap.size
        simp)
  · exact ownElse hln c m _ (fun q => by
      rcases rowApart hln htop t_sc with a | a
      · rw [a] at q; cases q
      · exact a q)
theorem wz_ne : ∀ (l cur : List UInt8), ∀ x ∈ wz l cur, x ≠ []
  | [], cur, x, h => by
    simp only [wz] at h
    split at h
    · cases h
    · rename_i hc; rw [List.mem_singleton.1 h]; exact hc
  | c :: r, cur, x, h => by
    simp only [wz] at h
    split at h
    · split at h
      · exact wz_ne r [] x h
      · rename_i hc
        rcases List.mem_cons.1 h with h | h
        · rw [h]; exact hc
        · exact wz_ne r [] x h
    · exact wz_ne r _ x h
theorem words_ne {l x : List UInt8} (h : x ∈ wordsL l) : x ≠ [] := by rw [words_eq] at h; exact wz_ne l [] x h
theorem opO_not {x : List UInt8} {r : List (List UInt8)} (h : ∀ k : Nat, 1 ≤ k → k ≤ 9 → x ≠ wordL k) : opO (x :: r) = none := opO_none fun k _ q => h k q.lo q.hi (Option.some.inj q.hd)
theorem start_no : ∀ k : Nat, 1 ≤ k → k ≤ 9 → startW ≠ wordL k := by
  intro k h1 h9
  rcases (by omega : k = 1 ∨ k = 2 ∨ k = 3 ∨ k = 4 ∨ k = 5 ∨ k = 6 ∨ k = 7 ∨ k = 8 ∨ k = 9) with rfl | rfl | rfl | rfl | rfl | rfl | rfl | rfl | rfl <;> decide
theorem thread_no : ∀ k : Nat, 1 ≤ k → k ≤ 9 → threadW ≠ wordL k := by
  intro k h1 h9
  rcases (by omega : k = 1 ∨ k = 2 ∨ k = 3 ∨ k = 4 ∨ k = 5 ∨ k = 6 ∨ k = 7 ∨ k = 8 ∨ k = 9) with rfl | rfl | rfl | rfl | rfl | rfl | rfl | rfl | rfl <;> decide
theorem pick_no : ∀ k : Nat, 1 ≤ k → k ≤ 9 → pickW ≠ wordL k := by
  intro k h1 h9
  rcases (by omega : k = 1 ∨ k = 2 ∨ k = 3 ∨ k = 4 ∨ k = 5 ∨ k = 6 ∨ k = 7 ∨ k = 8 ∨ k = 9) with rfl | rfl | rfl | rfl | rfl | rfl | rfl | rfl | rfl <;> decide
end Go.Proofs.YtknlapipkglnjaaGreatDoor


namespace Go.Proofs.YtknlapipkglnjaaGreatDoor

open Go.RowKit

attribute [local go_sem ↓] Go.wp_at_zero Go.wp_at_succ

/-- A call that makes something and answers where it lies. -/
def Makes (w : World) (e : Ending) (w' : World) : Prop := ∃ g v, e = .returned (.pointer (some ⟨g, 0, none⟩)) ∧ w.heap.size ≤ g ∧ w'.cell? ⟨g, 0, none⟩ = some v ∧ Below w.heap.size w w'
theorem leaf_any (a b c d : Int) (w : World) : Calls Tryz.prog 150 #[.int .i64 a, .int .i64 b, .int .i64 c, .int .i64 d] w fun e w' => Makes w e w' := by
  go_enter Tryz.func150, Tryz.ntmps150
  go_wp2_with (first | (go_at_call 163; refine (new_any a b c d true none 0 0 _ (by omega) (fun j hj => by omega)).mono ?_; rintro e w1 ⟨g, v, rfl, h1, h2, h3⟩; have M : Hid (Makes _ _ _) := ⟨g, v, rfl, h1, h2, h3⟩; clear h1 h2 h3))
  go_ret
  exact M.out
theorem inner_any (a b c : Int) (p q : Nat) (u v : Value) (w : World) (hp : p < w.heap.size) (hq : q < w.heap.size) (hu : w.cell? ⟨p, 0, none⟩ = some u) (hv : w.cell? ⟨q, 0, none⟩ = some v) : Calls Tryz.prog 149 #[.int .i64 a, .int .i64 b, .int .i64 c, .pointer (some ⟨p, 0, none⟩), .pointer (some ⟨q, 0, none⟩)] w fun e w' => Makes w e w' := by
  obtain ⟨W, hW⟩ : ∃ W, W = w.alloc (.cells #[.pointer (some ⟨p, 0, none⟩), .pointer (some ⟨q, 0, none⟩)] 184) := ⟨_, rfl⟩
  have B0 : Hid (Below w.heap.size w W) := by rw [hW]; exact below_alloc _ _
  have hb : W.heap[w.heap.size]? = some (.cells #[.pointer (some ⟨p, 0, none⟩), .pointer (some ⟨q, 0, none⟩)] 184) := by rw [hW]; exact heap_alloc_at _ _ _ rfl
  have hz : w.heap.size < W.heap.size := (Array.getElem?_eq_some_iff.1 hb).1
  have HN : Hid (∀ j, j < 2 → some (⟨w.heap.size, 0, none⟩ : Addr) = some ⟨w.heap.size, 0, none⟩ ∧ w.heap.size < W.heap.size ∧ ∃ q v, q < W.heap.size ∧ W.cell? ⟨w.heap.size, j, none⟩ = some (.pointer (some ⟨q, 0, none⟩)) ∧ W.cell? ⟨q, 0, none⟩ = some v) := by
    intro j hj
    refine ⟨rfl, hz, ?_⟩
    rcases (by omega : j = 0 ∨ j = 1) with rfl | rfl
    · exact ⟨p, u, by omega, by simp only [World.cell?, hb]; rfl, (B0.out.cell (p := ⟨p, 0, none⟩) hp).trans hu⟩
    · exact ⟨q, v, by omega, by simp only [World.cell?, hb]; rfl, (B0.out.cell (p := ⟨q, 0, none⟩) hq).trans hv⟩
  have HC : Hid (Calls Tryz.prog 163 #[.agg #[.int .i64 a, .int .i64 b, .int .i64 c, .int .i64 0, .bool false], .slice (some ⟨w.heap.size, 0, none⟩) 2 2] W fun e w' => Makes w e w') := by
    refine (new_any a b c 0 false _ w.heap.size 2 W (by omega) HN.out).mono ?_
    rintro e w1 ⟨g, v, rfl, h1, h2, h3⟩
    exact ⟨g, v, rfl, by omega, h2, B0.out.trans (h3.mono B0.out.size)⟩
  clear HN hb hz hp hq hu hv B0
  subst hW
  go_enter Tryz.func149, Tryz.ntmps149
  go_wp2_with (first | (go_at_call 163; refine HC.out.mono ?_; rintro e w1 ⟨g, v, rfl, h1, h2, h3⟩; have M : Hid (Makes _ _ _) := ⟨g, v, rfl, h1, h2, h3⟩; clear h1 h2 h3))
  go_ret
  exact M.out
theorem entry_any (w : World) : Calls Tryz.prog 125 #[] w fun e w' => Makes w e w' := by
  go_enter Tryz.func125, Tryz.ntmps125
  have K0 : Hid True := trivial
  go_wp2_with (first
    | (go_at_call 150; have q := K0; refine (leaf_any _ _ _ _ _).mono ?_; rintro e w1 ⟨g1, v1, rfl, h1, h2, h3⟩; have B1 : Hid (Below w.heap.size w w1) := h3; have C1 : Hid (w1.cell? ⟨g1, 0, none⟩ = some v1) := h2; have l1 : g1 < w1.heap.size := World.block_lt_of_cell? w1 _ h2; clear q K0 h1 h2 h3)
    | (go_at_call 150; have q := B1; refine (leaf_any _ _ _ _ _).mono ?_; rintro e w2 ⟨g2, v2, rfl, h1, h2, h3⟩; have B2 : Hid (Below w.heap.size w w2) := B1.out.trans (h3.mono B1.out.size); have C2 : Hid (w2.cell? ⟨g1, 0, none⟩ = some v1) := (h3.cell (p := ⟨g1, 0, none⟩) l1).trans C1.out; have D2 : Hid (w2.cell? ⟨g2, 0, none⟩ = some v2) := h2; clear q B1 h1 h2 h3)
    | (go_at_call 149; refine (inner_any _ _ _ g1 g2 v1 v2 _ (World.block_lt_of_cell? w2 _ C2.out) (World.block_lt_of_cell? w2 _ D2.out) C2.out D2.out).mono ?_; rintro e w3 ⟨g3, v3, rfl, h1, h2, h3⟩; have M : Hid (Makes w (.returned (.pointer (some ⟨g3, 0, none⟩))) w3) := ⟨g3, v3, rfl, Nat.le_trans B2.out.size h1, h2, B2.out.trans (h3.mono B2.out.size)⟩; clear h1 h2 h3))
  go_ret
  exact M.out
set_option maxRecDepth 100000 in
set_option maxHeartbeats 1000000 in
theorem handle_any (g q : Nat) (w : World) (hc : w.cell? ⟨g, 0, none⟩ = some (.pointer (some ⟨q, 0, none⟩))) : Calls Tryz.prog 95 #[.pointer (some ⟨g, 0, none⟩), .nilIface] w fun e w' => (∃ v, e = .returned v) ∧ Below w.heap.size w w' := by
  have HR : Hid (Calls Tryz.prog 116 #[.pointer (some ⟨g, 0, none⟩)] w fun e w' => e = .returned (.pointer (some ⟨q, 0, none⟩)) ∧ w' = w) := by
    show Calls _ _ _ _ _
    go_enter Tryz.func116, Tryz.ntmps116
    go_wp2_with fail
    go_ret
    exact ⟨rfl, rfl⟩
  clear hc
  go_enter Tryz.func95, Tryz.ntmps95
  go_wp2_with (first | (go_at_call 116; refine HR.out.mono ?_; rintro e w1 ⟨rfl, rfl⟩))
  go_ret
  exact ⟨⟨_, rfl⟩, below_alloc _ _⟩
set_option maxRecDepth 100000 in
set_option maxHeartbeats 1000000 in
theorem of_nil (w : World) : Calls Tryz.prog 92 #[.slice none 0 0] w fun e w' => ∃ g, e = .returned (.pointer (some ⟨g, 0, none⟩)) ∧ Below w.heap.size w w' := by
  have HNW : Hid (Calls Tryz.prog 112 #[] w fun e w' => ∃ g q, e = .returned (.pointer (some ⟨g, 0, none⟩)) ∧ w'.cell? ⟨g, 0, none⟩ = some (.pointer (some ⟨q, 0, none⟩)) ∧ w.heap.size ≤ g ∧ Below w.heap.size w w') := by
    show Calls _ _ _ _ _
    go_enter Tryz.func112, Tryz.ntmps112
    go_wp2_with (first | (go_at_call 125; refine (entry_any _).mono ?_; rintro e w1 ⟨g1, v1, rfl, h1, h2, h3⟩; have B1 : Hid (Below w.heap.size w w1) := h3; clear h1 h2 h3))
    go_ret
    exact ⟨_, g1, rfl, by simp, B1.out.size, B1.out.alloc B1.out.size _⟩
  go_enter Tryz.func92, Tryz.ntmps92
  go_wp2_with (first | (go_at_call 112; refine HNW.out.mono ?_; rintro e w1 ⟨g1, q1, rfl, c1, h2, h3⟩; have B1 : Hid (Below w.heap.size w w1) := h3; have HC1 : Hid _ := c1; clear h2 h3 c1) | (go_at_call 95; refine (handle_any _ _ _ HC1.out).mono ?_; rintro e w2 ⟨⟨v2, rfl⟩, h3⟩; have B2 : Hid (Below w.heap.size w w2) := B1.out.trans (h3.mono B1.out.size); clear h3))
  go_loopw [12] (fun vi wr => vi = .int .i64 0 ∧ Below w.heap.size w wr) (fun _ _ => 0)
  case atStart => exact ⟨rfl, B2.out⟩
  case round =>
    obtain ⟨rfl, hb⟩ := hrel
    have BR : Hid (Below w.heap.size w _) := hb
    clear hb
    go_wp2_with fail
    go_ret
    exact ⟨_, rfl, BR.out⟩
set_option maxRecDepth 100000 in
set_option maxHeartbeats 1000000 in
theorem kinds_nil (k : Int) (w : World) : Calls Tryz.prog 91 #[.int .i64 k, .slice none 0 0] w fun e w' => e = .returned (.int .i64 0) ∧ Below w.heap.size w w' := by
  go_enter Tryz.func91, Tryz.ntmps91
  go_wp2_with fail
  go_loopw [9] (fun vi wr => vi = .int .i64 0 ∧ Below w.heap.size w wr) (fun _ _ => 0)
  case atStart => exact ⟨rfl, below_alloc _ _⟩
  case round =>
    obtain ⟨rfl, hb⟩ := hrel
    have BR : Hid (Below w.heap.size w _) := hb
    clear hb
    go_wp2_with fail
    go_ret
    exact ⟨rfl, BR.out⟩
theorem crew_zero (w : World) : Calls Tryz.prog 128 #[.int .i64 0] w fun e w' => e = .returned (.bool false) ∧ w' = w := by
  go_enter Tryz.func128, Tryz.ntmps128
  go_wp2_with fail
  go_ret
  exact ⟨rfl, rfl⟩
theorem picks_nil (w : World) : Calls Tryz.prog 129 #[.slice none 0 0] w fun e w' => e = .returned (.bool false) ∧ w' = w := by
  go_enter Tryz.func129, Tryz.ntmps129
  go_wp2_with fail
  go_ret
  exact ⟨rfl, rfl⟩
theorem long_nil (w : World) : Calls Tryz.prog 130 #[.slice none 0 0] w fun e w' => e = .returned (.bool false) ∧ w' = w := by
  go_enter Tryz.func130, Tryz.ntmps130
  go_wp2_with fail
  go_loopw [7] (fun vi wr => vi = .int .i64 0 ∧ wr = w) (fun _ _ => 0)
  case atStart => exact ⟨rfl, rfl⟩
  case round =>
    obtain ⟨rfl, rfl⟩ := hrel
    go_wp2_with fail
    go_ret
    exact ⟨rfl, rfl⟩
theorem refusal_any (b : Bool) (w : World) : Calls Tryz.prog 127 #[.bool true, .bool b] w fun e w' => e = .returned (.int .i64 1) ∧ w' = w := by
  go_enter Tryz.func127, Tryz.ntmps127
  go_wp2_with fail
  go_ret
  exact ⟨rfl, rfl⟩
theorem opsError_nil (w : World) : Calls Tryz.prog 114 #[.slice none 0 0, .slice none 0 0] w fun e w' => e = .returned (.int .i64 1) ∧ w' = w := by
  go_enter Tryz.func114, Tryz.ntmps114
  go_wp2_with (first | (go_at_call 128; refine (crew_zero _).mono ?_; rintro e w1 ⟨rfl, rfl⟩) | (go_at_call 129; refine (picks_nil _).mono ?_; rintro e w1 ⟨rfl, rfl⟩) | (go_at_call 130; refine (long_nil _).mono ?_; rintro e w1 ⟨rfl, rfl⟩) | (go_at_call 127; refine (refusal_any _ _).mono ?_; rintro e w1 ⟨rfl, rfl⟩))
  go_ret
  exact ⟨rfl, rfl⟩
end Go.Proofs.YtknlapipkglnjaaGreatDoor


namespace Go.Proofs.YtknlapipkglnjaaGreatDoor

open Go.RowKit

attribute [local go_sem ↓] Go.wp_at_zero Go.wp_at_succ

theorem results_c2 {fn : Func} {p u v : Tmp} {ty : TypeId} (h : fn.results = #[.cell p ty, .tmp u, .tmp v]) (tmps : Array Value) (P : Program) (w : World) :
    (results fn tmps).run P w =
      ((asAddr (tmps.getD p undef)).run P w).andThen fun a w₁ => ((loadVar ty a).run P w₁).andThen fun x w₂ => .ok (.tuple #[x, tmps.getD u undef, tmps.getD v undef]) w₂ := by
  simp only [results, h]
  simp [Sem.run_bind, Result.andThen]
theorem results_cc {fn : Func} {p q u : Tmp} {ty ty' : TypeId} (h : fn.results = #[.cell p ty, .cell q ty', .tmp u]) (tmps : Array Value) (P : Program) (w : World) :
    (results fn tmps).run P w =
      ((asAddr (tmps.getD p undef)).run P w).andThen fun a w₁ => ((loadVar ty a).run P w₁).andThen fun x w₂ => ((asAddr (tmps.getD q undef)).run P w₂).andThen fun a' w₃ => ((loadVar ty' a').run P w₃).andThen fun y w₄ => .ok (.tuple #[x, y, tmps.getD u undef]) w₄ := by
  simp only [results, h]
  simp [Sem.run_bind, Result.andThen]
theorem fn_eq (f : Fn) (fs cs : Array Value) (w : World) : (Op.equal 165 (.func f fs cs) .nilFunc).run Tryz.prog w = .ok false w := by
  have h := Tryz.underlying165
  unfold Op.equal Op.maxDepth
  unfold Op.equalIn
  simp [run_underlying h]
theorem fn_nil (f : Fn) (fs cs : Array Value) (w : World) : (binOp .eql 165 (.func f fs cs) .nilFunc).run Tryz.prog w = .ok (.bool false) w := by
  simp [binOp, fn_eq, Result.andThen]
set_option maxRecDepth 100000 in
set_option maxHeartbeats 1000000 in
theorem ops_nil (f : Fn) (fs cs : Array Value) (w : World) : Calls Tryz.prog 93 #[.slice none 0 0, .slice none 0 0, .func f fs cs] w fun e w' => e = .returned (.tuple #[.agg #[.slice none 0 0, .slice none 0 0, .slice none 0 0], .slice none 0 0, .int .i64 1]) ∧ Below w.heap.size w w' := by
  have hf1 := fn_eq f fs cs
  have hf2 := fn_nil f fs cs
  go_enter Tryz.func93, Tryz.ntmps93
  go_wp2_with (first | (go_at_call 114; refine (opsError_nil _).mono ?_; rintro e w1 ⟨rfl, rfl⟩))
  refine bodyPost_ret (v := .tuple #[.agg #[.slice none 0 0, .slice none 0 0, .slice none 0 0], .slice none 0 0, .int .i64 1]) ?_ rfl ⟨rfl, below_alloc _ _⟩
  rw [results_c2 rfl]
  go_simp
set_option maxRecDepth 100000 in
set_option maxHeartbeats 1000000 in
theorem parse_nil (w : World) : Calls Tryz.prog 10 #[.string ⟨#[]⟩] w fun e w' => e = .returned (.tuple #[.agg #[.slice none 0 0, .slice none 0 0, .slice none 0 0], .int .i64 0, .int .i64 0]) ∧ Below w.heap.size w w' := by
  go_enter Tryz.func10, Tryz.ntmps10
  go_wp2_with fail
  go_loopw [8] (fun v wr => v = .string ⟨#[]⟩ ∧ wr = (w.alloc (.cells #[.slice none 0 0, .slice none 0 0, .slice none 0 0] 26)).alloc (.cells #[.slice none 0 0, .slice none 0 0, .slice none 0 0, .int .i64 0] 69)) (fun _ _ => 0)
  case atStart => exact ⟨rfl, rfl⟩
  case round =>
    obtain ⟨rfl, rfl⟩ := hrel
    go_wp2_with fail
    refine bodyPost_ret (v := .tuple #[.agg #[.slice none 0 0, .slice none 0 0, .slice none 0 0], .int .i64 0, .int .i64 0]) ?_ rfl ⟨rfl, ((Below.refl _ _).alloc (Nat.le_refl _) _).alloc (by simp) _⟩
    rw [results_c2 rfl]
    go_simp
theorem kept4 {w z : World} {a b c d : Value} {t : TypeId} (h : Below (w.alloc (.cells #[a, b, c, d] t)).heap.size (w.alloc (.cells #[a, b, c, d] t)) z) : (z.cell? ⟨w.heap.size, 0, none⟩ = some a ∧ z.frozen? ⟨w.heap.size, 0, none⟩ = false) ∧ (z.cell? ⟨w.heap.size, 1, none⟩ = some b ∧ z.frozen? ⟨w.heap.size, 1, none⟩ = false) ∧ (z.cell? ⟨w.heap.size, 2, none⟩ = some c ∧ z.frozen? ⟨w.heap.size, 2, none⟩ = false) ∧ (z.cell? ⟨w.heap.size, 3, none⟩ = some d ∧ z.frozen? ⟨w.heap.size, 3, none⟩ = false) := by
  have hb := h.block w.heap.size (by simp)
  rw [heap_alloc_at _ _ _ rfl] at hb
  simp [World.cell?, World.frozen?, hb]
set_option maxRecDepth 100000 in
set_option maxHeartbeats 2000000 in
theorem play_nil (w : World) : Calls Tryz.prog 72 #[.slice none 0 0, .slice none 0 0, .slice none 0 0] w fun e w' => e = .returned (.tuple #[.agg #[.slice none 0 0, .slice none 0 0, .slice none 0 0, .slice none 0 0], .int .i64 1]) ∧ Below w.heap.size w w' := by
  obtain ⟨W, hW⟩ : ∃ W, W = w.alloc (.cells #[.slice none 0 0, .slice none 0 0, .slice none 0 0, .slice none 0 0] 85) := ⟨_, rfl⟩
  have BA : Hid (Below w.heap.size w W) := by rw [hW]; exact below_alloc _ _
  have KW : Hid (∀ z, Below W.heap.size W z → (z.cell? ⟨w.heap.size, 0, none⟩ = some (.slice none 0 0) ∧ z.frozen? ⟨w.heap.size, 0, none⟩ = false) ∧ (z.cell? ⟨w.heap.size, 1, none⟩ = some (.slice none 0 0) ∧ z.frozen? ⟨w.heap.size, 1, none⟩ = false) ∧ (z.cell? ⟨w.heap.size, 2, none⟩ = some (.slice none 0 0) ∧ z.frozen? ⟨w.heap.size, 2, none⟩ = false) ∧ (z.cell? ⟨w.heap.size, 3, none⟩ = some (.slice none 0 0) ∧ z.frozen? ⟨w.heap.size, 3, none⟩ = false)) := by
    rw [hW]
    exact fun z hz => kept4 hz
  have hlt : w.heap.size < W.heap.size := by rw [hW]; simp
  have HW : Hid (w.alloc (.cells #[.slice none 0 0, .slice none 0 0, .slice none 0 0, .slice none 0 0] 85) = W) := hW.symm
  clear hW
  go_enter Tryz.func72, Tryz.ntmps72
  go_wp2_with (first
    | (go_at_call 91; rw [HW.out]; refine (kinds_nil _ _).mono ?_; rintro e w1 ⟨rfl, hb1⟩; have B1 : Hid (Below W.heap.size W w1) := hb1; clear hb1)
    | (go_at_call 92; refine (of_nil _).mono ?_; rintro e w2 ⟨g2, rfl, hb2⟩; have B2 : Hid (Below W.heap.size W w2) := B1.out.trans (hb2.mono B1.out.size); clear hb2 B1)
    | (go_at_call 93; refine (ops_nil _ _ _ _).mono ?_; rintro e w3 ⟨rfl, hb3⟩; have B3 : Hid (Below W.heap.size W w3) := (B2.out.alloc B2.out.size _).trans (hb3.mono (B2.out.alloc B2.out.size _).size); have hs3 := B3.out.size; obtain ⟨r0, r1, r2, r3⟩ := KW.out (w3.alloc (.cells #[.slice none 0 0, .slice none 0 0, .slice none 0 0] 156)) (B3.out.alloc B3.out.size _); have n3 : w.heap.size ≠ w3.heap.size := (by omega); have n4 : w3.heap.size ≠ w.heap.size := (by omega); clear hb3 B2))
  have BX := BA.out.trans (B3.out.mono BA.out.size)
  have BY := BX.alloc BX.size (.cells #[.slice none 0 0, .slice none 0 0, .slice none 0 0] 156)
  refine bodyPost_ret (v := .tuple #[.agg #[.slice none 0 0, .slice none 0 0, .slice none 0 0, .slice none 0 0], .int .i64 1]) ?_ rfl ⟨rfl, (((BY.setCell (p := ⟨w.heap.size, 0, none⟩) (Nat.le_refl _) _).setCell (p := ⟨w.heap.size, 1, none⟩) (Nat.le_refl _) _).setCell (p := ⟨w.heap.size, 2, none⟩) (Nat.le_refl _) _).setCell (p := ⟨w.heap.size, 3, none⟩) (Nat.le_refl _) _⟩
  rw [results_cell_tmp rfl]
  go_simp
theorem keptb {W z : World} {g : Nat} {cs : Array Value} {t : TypeId} (hg : W.heap[g]? = some (.cells cs t)) (h : Below W.heap.size W z) (i : Nat) (v : Value) (hv : cs[i]? = some v) : z.cell? ⟨g, i, none⟩ = some v ∧ z.frozen? ⟨g, i, none⟩ = false := by
  have hb := h.block g (Array.getElem?_eq_some_iff.1 hg).1
  rw [hg] at hb
  refine ⟨?_, ?_⟩
  · simp only [World.cell?, hb]
    exact hv
  · simp [World.frozen?, hb]
set_option maxRecDepth 100000 in
set_option maxHeartbeats 2000000 in
theorem prun_nil (w : World) : Calls Tryz.prog 59 #[.agg #[.slice none 0 0, .slice none 0 0, .slice none 0 0]] w fun e w' => e = .returned (.tuple #[.agg #[.slice none 0 0, .slice none 0 0, .slice none 0 0, .slice none 0 0], .int .i64 1]) ∧ Below w.heap.size w w' := by
  obtain ⟨W, hW⟩ : ∃ W, W = (w.alloc (.cells #[.slice none 0 0, .slice none 0 0, .slice none 0 0] 26)).alloc (.cells #[.slice none 0 0, .slice none 0 0, .slice none 0 0, .slice none 0 0] 85) := ⟨_, rfl⟩
  have BA : Hid (Below w.heap.size w W) := by rw [hW]; exact ((Below.refl _ _).alloc (Nat.le_refl _) _).alloc (by simp) _
  have BL : Hid (W.heap[w.heap.size + 1]? = some (.cells #[.slice none 0 0, .slice none 0 0, .slice none 0 0, .slice none 0 0] 85)) := by rw [hW]; exact heap_alloc_at _ _ _ (by simp)
  have HC : Hid (Calls Tryz.prog 72 #[.slice none 0 0, .slice none 0 0, .slice none 0 0] W fun e w' => e = .returned (.tuple #[.agg #[.slice none 0 0, .slice none 0 0, .slice none 0 0, .slice none 0 0], .int .i64 1]) ∧ Below W.heap.size W w') := play_nil W
  subst hW
  go_enter Tryz.func59, Tryz.ntmps59
  go_wp2_with (first | (go_at_call 72; refine HC.out.mono ?_; rintro e w1 ⟨rfl, hb1⟩; have r0 := keptb BL.out hb1 0 _ rfl; have r1 := keptb BL.out hb1 1 _ rfl; have r2 := keptb BL.out hb1 2 _ rfl; have r3 := keptb BL.out hb1 3 _ rfl; have B1 : Hid (Below w.heap.size w w1) := BA.out.trans (hb1.mono BA.out.size); clear hb1 HC BA BL))
  refine bodyPost_ret (v := .tuple #[.agg #[.slice none 0 0, .slice none 0 0, .slice none 0 0, .slice none 0 0], .int .i64 1]) ?_ rfl ⟨rfl, (((B1.out.setCell (p := ⟨w.heap.size + 1, 0, none⟩) (Nat.le_succ _) _).setCell (p := ⟨w.heap.size + 1, 1, none⟩) (Nat.le_succ _) _).setCell (p := ⟨w.heap.size + 1, 2, none⟩) (Nat.le_succ _) _).setCell (p := ⟨w.heap.size + 1, 3, none⟩) (Nat.le_succ _) _⟩
  rw [results_cell_tmp rfl]
  go_simp
set_option maxRecDepth 100000 in
set_option maxHeartbeats 2000000 in
theorem playText_nil (w : World) (hl : HLB w.heap.size w) : Calls Tryz.prog 34 #[.string ⟨#[]⟩] w fun e w' => e = .returned (.tuple #[.agg #[.slice none 0 0, .slice none 0 0, .slice none 0 0], .agg #[.slice none 0 0, .slice none 0 0, .slice none 0 0, .slice none 0 0], .string ⟨[114, 101, 102, 117, 115, 101, 100, 32, 49, 10].toArray⟩]) ∧ Below w.heap.size w w' := by
  have HL : Hid (HLB _ _) := hl
  clear hl
  obtain ⟨W, hW⟩ : ∃ W, W = (w.alloc (.cells #[.slice none 0 0, .slice none 0 0, .slice none 0 0] 26)).alloc (.cells #[.slice none 0 0, .slice none 0 0, .slice none 0 0, .slice none 0 0] 85) := ⟨_, rfl⟩
  have BA : Hid (Below w.heap.size w W) := by rw [hW]; exact ((Below.refl _ _).alloc (Nat.le_refl _) _).alloc (by simp) _
  have BL : Hid (W.heap[w.heap.size + 1]? = some (.cells #[.slice none 0 0, .slice none 0 0, .slice none 0 0, .slice none 0 0] 85)) := by rw [hW]; exact heap_alloc_at _ _ _ (by simp)
  have BG : Hid (W.heap[w.heap.size]? = some (.cells #[.slice none 0 0, .slice none 0 0, .slice none 0 0] 26)) := by rw [hW, heap_alloc_old _ _ (by simp)]; exact heap_alloc_at _ _ _ rfl
  have HC : Hid (Calls Tryz.prog 10 #[.string ⟨#[]⟩] W fun e w' => e = .returned (.tuple #[.agg #[.slice none 0 0, .slice none 0 0, .slice none 0 0], .int .i64 0, .int .i64 0]) ∧ Below W.heap.size W w') := parse_nil W
  have hs : w.heap.size + 1 < W.heap.size := by rw [hW]; simp
  clear hs
  subst hW
  have e1 : Lib.itoa 1 = [49] := by unfold Lib.itoa; rw [if_neg (by decide)]; rw [show (1 : Int).toNat = 1 from rfl, Lib.decDigits, dif_pos (by omega)]; rfl
  have HE : Hid (Lib.itoa 1 = [49]) := e1
  clear e1
  go_enter Tryz.func34, Tryz.ntmps34
  go_wp2_with (first
    | (go_at_call 10; refine HC.out.mono ?_; rintro e w1 ⟨rfl, hb1⟩; have B1 : Hid (Below _ _ w1) := hb1; clear hb1 HC)
    | (go_at_call 59; refine (prun_nil _).mono ?_; rintro e w2 ⟨rfl, hb2⟩; have B2 : Hid (Below _ _ w2) := (B1.out.alloc B1.out.size (.cells #[.slice none 0 0, .slice none 0 0, .slice none 0 0] 26)).trans (hb2.mono (B1.out.alloc B1.out.size _).size); clear hb2 B1)
    | (go_at_call 19; refine (itoaB 1 ⟨by decide, by decide⟩ _ (HL.out.on (BA.out.trans ((B2.out.alloc B2.out.size _).mono BA.out.size)))).mono ?_; rintro e w3 ⟨rfl, hb3⟩; rw [HE.out]; have B3 : Hid (Below _ _ w3) := (B2.out.alloc B2.out.size (.cells #[.slice none 0 0, .slice none 0 0, .slice none 0 0, .slice none 0 0] 85)).trans (hb3.mono (B2.out.alloc B2.out.size _).size); have g0 := keptb BG.out B3.out 0 _ rfl; have g1 := keptb BG.out B3.out 1 _ rfl; have g2 := keptb BG.out B3.out 2 _ rfl; have r0 := keptb BL.out B3.out 0 _ rfl; have r1 := keptb BL.out B3.out 1 _ rfl; have r2 := keptb BL.out B3.out 2 _ rfl; have r3 := keptb BL.out B3.out 3 _ rfl; clear hb3 B2))
  have BX := BA.out.trans (B3.out.mono BA.out.size)
  refine bodyPost_ret (v := .tuple #[.agg #[.slice none 0 0, .slice none 0 0, .slice none 0 0], .agg #[.slice none 0 0, .slice none 0 0, .slice none 0 0, .slice none 0 0], .string (⟨#[114, 101, 102, 117, 115, 101, 100, 32]⟩ ++ ⟨#[49]⟩ ++ ⟨#[10]⟩)]) ?_ rfl ⟨by rw [ba_app, ba_app]; rfl, ((((((BX.setCell (p := ⟨w.heap.size, 0, none⟩) (Nat.le_refl _) _).setCell (p := ⟨w.heap.size, 1, none⟩) (Nat.le_refl _) _).setCell (p := ⟨w.heap.size, 2, none⟩) (Nat.le_refl _) _).setCell (p := ⟨w.heap.size + 1, 0, none⟩) (Nat.le_succ _) _).setCell (p := ⟨w.heap.size + 1, 1, none⟩) (Nat.le_succ _) _).setCell (p := ⟨w.heap.size + 1, 2, none⟩) (Nat.le_succ _) _).setCell (p := ⟨w.heap.size + 1, 3, none⟩) (Nat.le_succ _) _⟩
  rw [results_cc rfl]
  go_simp
set_option maxRecDepth 100000 in
set_option maxHeartbeats 2000000 in
theorem run_nil (w : World) (hl : HLB w.heap.size w) : Calls Tryz.prog 14 #[.string ⟨#[]⟩] w fun e w' => e = .returned (.string ⟨[114, 101, 102, 117, 115, 101, 100, 32, 49, 10].toArray⟩) ∧ Below w.heap.size w w' := by
  have HL : Hid (HLB _ _) := hl
  clear hl
  go_enter Tryz.func14, Tryz.ntmps14
  go_wp2_with (first | (go_at_call 34; refine (playText_nil _ HL.out).mono ?_; rintro e w1 ⟨rfl, hb1⟩; have B1 : Hid (Below _ _ w1) := hb1; clear hb1))
  go_ret
  exact ⟨rfl, (B1.out.alloc B1.out.size _).alloc (by have := B1.out.size; simp; omega) _⟩
end Go.Proofs.YtknlapipkglnjaaGreatDoor


namespace Go.Proofs.YtknlapipkglnjaaGreatDoor

open Go.RowKit

attribute [local go_sem ↓] Go.wp_at_zero Go.wp_at_succ

def ParOut (w w' : World) (t : List UInt8) (e : Ending) : Prop :=
  ((∃ g vS vC vP vs, parseG t = .inl g ∧ e = .returned (.tuple #[.agg #[vS, vC, vP], .int .i64 0, .int .i64 0]) ∧ GAt (w.heap.size + 2) w' vS vC vP vs g) ∨
   (∃ i : Nat, parseG t = .inr i ∧ e = .returned (.tuple #[.agg #[.slice none 0 0, .slice none 0 0, .slice none 0 0], .int .i64 (i : Int), .int .i64 7]))) ∧ Below w.heap.size w w'
/-- Where the loop stands: what is left of the text, the lines so far, what they said. -/
structure PaI (w wr : World) (t rest : List UInt8) (i : Nat) (vS vC vP : Value) (vs : Nat → Value) (g : GD) : Prop where
  rd : RdB (w.heap.size + 2) (w.heap.size + 1) wr vS vC vP vs g
  res : wr.heap[w.heap.size]? = some (.cells #[.slice none 0 0, .slice none 0 0, .slice none 0 0] 26)
  bel : Below w.heap.size w wr
  sz : w.heap.size + 2 ≤ wr.heap.size
  par : parseG t = parG (linesL rest) i g
  ok : GOk g
  gs : SzG g i
  len : i + rest.length ≤ t.length
theorem PaI.on {w wr z : World} {t rest : List UInt8} {i : Nat} {vS vC vP : Value} {vs : Nat → Value} {g : GD} (h : PaI w wr t rest i vS vC vP vs g) (hb : Below wr.heap.size wr z) : PaI w z t rest i vS vC vP vs g := by
  have := h.sz
  exact ⟨h.rd.quiet hb, (hb.block _ (by omega)).trans h.res, h.bel.trans (hb.mono (by omega)), Nat.le_trans h.sz hb.size, h.par, h.ok, h.gs, h.len⟩
theorem tri3 {z : World} {b : Nat} {x0 x1 x2 : Value} {t : TypeId} (h : z.heap[b]? = some (.cells #[x0, x1, x2] t)) : (z.cell? ⟨b, 0, none⟩ = some x0 ∧ z.frozen? ⟨b, 0, none⟩ = false) ∧ (z.cell? ⟨b, 1, none⟩ = some x1 ∧ z.frozen? ⟨b, 1, none⟩ = false) ∧ (z.cell? ⟨b, 2, none⟩ = some x2 ∧ z.frozen? ⟨b, 2, none⟩ = false) := by
  simp [World.cell?, World.frozen?, h]
theorem pai0 (w : World) (t : List UInt8) (vs : Nat → Value) : PaI w ((w.alloc (.cells #[.slice none 0 0, .slice none 0 0, .slice none 0 0] 26)).alloc (.cells #[.slice none 0 0, .slice none 0 0, .slice none 0 0, .int .i64 0] 69)) t t 0 (.slice none 0 0) (.slice none 0 0) (.slice none 0 0) vs gd0 := by
  refine ⟨⟨heap_alloc_at _ _ _ (by simp), by omega, gat0 _ _ _⟩, (heap_alloc_old _ _ (by simp)).trans (heap_alloc_at _ _ _ rfl), allocS (below_alloc w _) _, by simp, rfl, gok0, sz0, by omega⟩
theorem PaI.next {w w2 w3 : World} {t rest : List UInt8} {i : Nat} {vS vC vP vS' vC' vP' : Value} {vs vs' : Nat → Value} {g g' : GD} (h : PaI w w2 t rest i vS vC vP vs g) (hr : rest ≠ []) (hs : stepG g (wordsL (rest.takeWhile (· != 10))) = some g') (hR : RdB (w.heap.size + 2) (w.heap.size + 1) w3 vS' vC' vP' vs' g') (hb : Below (w.heap.size + 1) w2 w3) : PaI w w3 t (rest.drop ((rest.takeWhile (· != 10)).length + 1)) (i + 1) vS' vC' vP' vs' g' := by
  have hp : 0 < rest.length := List.length_pos_iff.2 hr
  have hl := h.len
  refine ⟨hR, (hb.block _ (by omega)).trans h.res, h.bel.trans (hb.mono (by omega)), Nat.le_trans h.sz hb.size, ?_, stepG_ok h.ok hs, stepG_sz h.gs hs, by simp; omega⟩
  rw [h.par, lines_cons hr, parG_step hs]
theorem PaI.bad {w w2 : World} {t rest : List UInt8} {i : Nat} {vS vC vP : Value} {vs : Nat → Value} {g : GD} (h : PaI w w2 t rest i vS vC vP vs g) (hr : rest ≠ []) (hs : stepG g (wordsL (rest.takeWhile (· != 10))) = none) : parseG t = .inr (i + 1) := by
  rw [h.par, lines_cons hr, parG_bad hs]
theorem PaI.rdg {w w2 : World} {t rest : List UInt8} {i g0 cap Bw : Nat} {vS vC vP : Value} {vs : Nat → Value} {g : GD} {x : List UInt8} {r : List (List UInt8)} (h : PaI w w2 t rest i vS vC vP vs g) (hE : HEB w.heap.size w) (hi : i + rest.length ≤ 2000000) (hw : wordsL (rest.takeWhile (· != 10)) = x :: r)
    (ho : w2.ownsRow Bw 9 1 (.slice (some ⟨g0, 0, none⟩) (r.length + 1) cap) (r.length + 1) (strC (x :: r))) : Rdg (w.heap.size + 2) (w.heap.size + 1) Bw g0 cap x r vS vC vP vs g w2 := by
  have hl : (rest.takeWhile (· != 10)).length ≤ rest.length := (List.takeWhile_prefix _).length_le
  have h1 := words_len (rest.takeWhile (· != 10))
  rw [hw] at h1
  have gs := h.gs
  refine ⟨h.rd, h.sz, ho, fun y hy => ?_, by simp at h1; omega, h.ok, ⟨by have := gs.st; omega, by have := gs.sc; omega, fun k => by have := gs.ro k; omega⟩, hE.down h.bel (by omega)⟩
  rw [← hw] at hy
  have := words_le hy
  omega
theorem says_step {g : GD} {ws : List (List UInt8)} (h : saysB ws = true) : stepG g ws = some g := by
  cases ws with
  | nil => rfl
  | cons x r => rw [stepG, if_pos ((prefix35 x).1 h)]
theorem says_not {ws : List (List UInt8)} (h : ¬ saysB ws = true) : ∃ x r, ws = x :: r ∧ x.head? ≠ some 35 ∧ saysB ws = false := by
  cases ws with
  | nil => exact absurd rfl h
  | cons x r => exact ⟨x, r, rfl, fun q => h ((prefix35 x).2 q), by simpa using h⟩
set_option maxRecDepth 100000 in
set_option maxHeartbeats 16000000 in
theorem parse_any (t : List UInt8) (ht : t.length ≤ 2000000) (w : World) (hE : HEB w.heap.size w) :
    Calls Tryz.prog 10 #[.string ⟨t.toArray⟩] w fun e w' => ParOut w w' t e := by
  have HE : Hid (HEB w.heap.size w) := hE
  have HT : Hid (t.length ≤ 2000000) := ht
  have P0 : Hid _ := pai0 w t (fun _ => .slice none 0 0)
  clear hE ht
  go_enter Tryz.func10, Tryz.ntmps10
  go_wp2_with fail
  go_loopw [7, 8] (fun vi vr wr => ∃ (rest : List UInt8) (i : Nat) (vS vC vP : Value) (vs : Nat → Value) (g : GD), vi = .int .i64 i ∧ vr = .string ⟨rest.toArray⟩ ∧ PaI w wr t rest i vS vC vP vs g) (fun _ vr _ => (match vr with | .string s => s.size | _ => 0))
  case atStart => exact ⟨t, 0, _, _, _, _, _, rfl, rfl, P0.out⟩
  case round =>
    obtain ⟨rest, i, vS, vC, vP, vs, g, rfl, rfl, hI⟩ := hrel
    rename World => wr
    have HI : Hid (PaI w wr t rest i vS vC vP vs g) := hI
    have il : i + rest.length ≤ 2000000 := by have := hI.len; have := HT.out; omega
    have hzs := hI.sz
    clear hI
    by_cases hr : rest = []
    · subst hr
      obtain ⟨aS, nS, hvS, -⟩ := ownForm HI.out.rd.game.st
      obtain ⟨aC, nC, hvC, -⟩ := ownForm HI.out.rd.game.top
      obtain ⟨aP, nP, hvP, -⟩ := ownForm HI.out.rd.game.pk
      subst hvS hvC hvP
      generalize hnS : g.start.length = lS at *
      generalize hnC : g.scripts.length = lC at *
      generalize hnP : g.picks.length = lP at *
      obtain ⟨⟨c0, f0⟩, ⟨c1, f1⟩, ⟨c2, f2⟩, ⟨c3, f3⟩⟩ := cells4 HI.out.rd.box
      obtain ⟨⟨r0, s0⟩, ⟨r1, s1⟩, ⟨r2, s2⟩⟩ := tri3 HI.out.res
      have OUT : Hid (parseG t = .inl g) := by have := HI.out.par; rw [lines_nil] at this; exact this
      clear hnS hnC hnP
      go_wp2_with fail
      refine bodyPost_ret (v := .tuple #[.agg #[.slice aS lS nS, .slice aC lC nC, .slice aP lP nP], .int .i64 0, .int .i64 0]) ?_ rfl ⟨Or.inl ⟨g, _, _, _, vs, OUT.out, rfl, ((HI.out.rd.game.low (b := w.heap.size) (by omega) 0 _).low (b := w.heap.size) (by omega) 1 _).low (b := w.heap.size) (by omega) 2 _⟩, ((HI.out.bel.setCell (p := ⟨w.heap.size, 0, none⟩) (Nat.le_refl _) _).setCell (p := ⟨w.heap.size, 1, none⟩) (Nat.le_refl _) _).setCell (p := ⟨w.heap.size, 2, none⟩) (Nat.le_refl _) _⟩
      rw [results_c2 rfl]
      go_simp
    · have hrl : 0 < rest.length := List.length_pos_iff.2 hr
      have hrb : (rest == []) = false := beq_eq_false_iff_ne.2 hr
      have HRN : Hid (rest ≠ []) := hr
      have hlw : (rest.takeWhile (· != 10)).length ≤ rest.length := (List.takeWhile_prefix _).length_le
      obtain ⟨LN, hLN⟩ : ∃ LN, LN = rest.takeWhile (· != 10) := ⟨_, rfl⟩
      obtain ⟨R2, hR2⟩ : ∃ R2, R2 = rest.drop ((rest.takeWhile (· != 10)).length + 1) := ⟨_, rfl⟩
      have CU : Hid (∀ W, PaI w W t rest i vS vC vP vs g → Calls Tryz.prog 25 #[.string ⟨rest.toArray⟩, .string ⟨#[10]⟩] W fun e w' => (∃ b, e = .returned (.tuple #[.string ⟨LN.toArray⟩, .string ⟨R2.toArray⟩, .bool b])) ∧ PaI w w' t rest i vS vC vP vs g) := fun W hW => (cut_any rest (by omega) W).mono (by
        rintro e w' ⟨hb, hbl⟩
        rw [← hR2, ← hLN] at hb
        exact ⟨hb, hW.on hbl⟩)
      have hdl : Hid (R2.length < rest.length) := by show _ < _; rw [hR2]; simp; omega
      have HLN : Hid (LN = rest.takeWhile (· != 10)) := hLN
      have HR2 : Hid (R2 = rest.drop ((rest.takeWhile (· != 10)).length + 1)) := hR2
      have hll : LN.length ≤ 2000000 := by rw [hLN]; omega
      have hwl := words_len LN
      have i0 : (i : Int) ≤ 2000000 := by omega
      have i1 : (0 : Int) ≤ (i : Int) := Int.natCast_nonneg _
      clear hr hLN hR2 hlw
      by_cases hsy : saysB (wordsL LN) = true
      · have WO : Hid (∀ W, PaI w W t rest i vS vC vP vs g → Calls Tryz.prog 26 #[.string ⟨LN.toArray⟩] W fun e w' => ∃ base cap n, e = .returned (.slice base n cap) ∧ PaI w w' t R2 (i + 1) vS vC vP vs g ∧ Calls Tryz.prog 27 #[.slice base n cap] w' fun e w2 => e = .returned (.bool true) ∧ w2 = w') := fun W hW => (wordsOf_any _ (by omega) W).mono (by
          rintro e w' ⟨v, rfl, ho, hb⟩
          obtain ⟨base, cap, gg, rfl, hbs, hcl⟩ := row_cells ho
          have hn := (hW.on hb).next HRN.out (g' := g) (by rw [← HLN.out]; exact says_step hsy) (hW.on hb).rd (Below.refl _ _)
          rw [← HR2.out] at hn
          refine ⟨base, cap, _, rfl, hn, (says_any _ base cap gg w' hbs hcl (by omega)).mono ?_⟩
          rintro e w2 ⟨rfl, rfl⟩
          exact ⟨by rw [hsy], rfl⟩)
        clear hsy hwl
        go_wp2_with (first | (go_at_call 25; refine (CU.out _ HI.out).mono ?_; rintro e w1 ⟨⟨bb, rfl⟩, hp1⟩; have I1 : Hid (PaI w w1 t rest i vS vC vP vs g) := hp1; clear hp1) | (go_at_call 26; refine (WO.out _ I1.out).mono ?_; rintro e w2 ⟨base, cap, n, rfl, hp2, hsay⟩; have I2 : Hid (PaI w w2 t R2 (i + 1) vS vC vP vs g) := hp2; have SA : Hid (Calls _ _ _ _ _) := hsay; clear hp2 hsay) | (go_at_call 27; refine Calls.mono SA.out ?_; rintro e w3 ⟨rfl, rfl⟩))
        exact ⟨⟨R2, i + 1, vS, vC, vP, vs, g, by go_num, rfl, I2.out⟩, by have := hdl.out; simpa [ByteArray.size] using this⟩
      · obtain ⟨x, r, hws, hx, hsf⟩ := says_not hsy
        cases hst : stepG g (wordsL LN) with
        | some g' =>
          have WO : Hid (∀ W, PaI w W t rest i vS vC vP vs g → Calls Tryz.prog 26 #[.string ⟨LN.toArray⟩] W fun e w' => ∃ g0 cap, e = .returned (.slice (some ⟨g0, 0, none⟩) (r.length + 1) cap) ∧ (Calls Tryz.prog 27 #[.slice (some ⟨g0, 0, none⟩) (r.length + 1) cap] w' fun e w2 => e = .returned (.bool false) ∧ w2 = w') ∧ Calls Tryz.prog 28 #[.pointer (some ⟨w.heap.size + 1, 0, none⟩), .slice (some ⟨g0, 0, none⟩) (r.length + 1) cap] w' fun e w2 => e = .returned (.bool true) ∧ ∃ a1 a2 a3 a4, PaI w w2 t R2 (i + 1) a1 a2 a3 a4 g') := fun W hW => (wordsOf_any _ (by omega) W).mono (by
            rintro e w' ⟨v, rfl, ho, hb⟩
            rw [hws] at ho hsf hst
            have ho : w'.ownsRow W.heap.size 9 1 v (r.length + 1) (strC (x :: r)) := ho
            obtain ⟨g0, cap, rfl, -, -, -, -, hcl, -⟩ := owns_some ho (by omega)
            have hP := hW.on hb
            refine ⟨g0, cap, rfl, (says_any (x :: r) (some ⟨g0, 0, none⟩) cap g0 w' (fun _ => rfl) (fun j hj => ?_) (by rw [hws] at hwl; omega)).mono ?_, (lread_any _ _ _ g0 cap x r vS vC vP vs g w' (hP.rdg HE.out (by omega) (by rw [← HLN.out]; exact hws) ho) hx).mono ?_⟩
            · rw [hcl j (by simpa using hj)]
              simp only [strC, List.getElem?_map]
              rw [List.getD_eq_getElem?_getD, List.getElem?_eq_getElem hj]
              rfl
            · rintro e w2 ⟨rfl, rfl⟩
              exact ⟨by rw [hsf], rfl⟩
            · rintro e w2 ⟨⟨g1, a1, a2, a3, a4, hg, rfl, hR⟩ | ⟨hg, -⟩, hb2⟩
              · rw [hst] at hg
                obtain rfl := Option.some.inj hg
                have hn := hP.next HRN.out (g' := g') (by rw [← HLN.out, hws]; exact hst) hR hb2
                rw [← HR2.out] at hn
                exact ⟨rfl, a1, a2, a3, a4, hn⟩
              · rw [hst] at hg; cases hg)
          clear hsy hwl hst hws hx hsf
          go_wp2_with (first | (go_at_call 25; refine (CU.out _ HI.out).mono ?_; rintro e w1 ⟨⟨bb, rfl⟩, hp1⟩; have I1 : Hid (PaI w w1 t rest i vS vC vP vs g) := hp1; clear hp1) | (go_at_call 26; refine (WO.out _ I1.out).mono ?_; rintro e w2 ⟨g0, cap, rfl, hsay, hrd⟩; have SA : Hid (Calls _ _ _ _ _) := hsay; have RA : Hid (Calls _ _ _ _ _) := hrd; clear hsay hrd) | (go_at_call 27; refine Calls.mono SA.out ?_; rintro e w3 ⟨rfl, rfl⟩) | (go_at_call 28; refine Calls.mono RA.out ?_; rintro e w4 ⟨rfl, a1, a2, a3, a4, hp4⟩; have I4 : Hid (PaI w w4 t R2 (i + 1) a1 a2 a3 a4 g') := hp4; clear hp4))
          exact ⟨⟨R2, i + 1, a1, a2, a3, a4, g', by go_num, rfl, I4.out⟩, by have := hdl.out; simpa [ByteArray.size] using this⟩
        | none =>
          have WO : Hid (∀ W, PaI w W t rest i vS vC vP vs g → Calls Tryz.prog 26 #[.string ⟨LN.toArray⟩] W fun e w' => ∃ g0 cap, e = .returned (.slice (some ⟨g0, 0, none⟩) (r.length + 1) cap) ∧ (Calls Tryz.prog 27 #[.slice (some ⟨g0, 0, none⟩) (r.length + 1) cap] w' fun e w2 => e = .returned (.bool false) ∧ w2 = w') ∧ Calls Tryz.prog 28 #[.pointer (some ⟨w.heap.size + 1, 0, none⟩), .slice (some ⟨g0, 0, none⟩) (r.length + 1) cap] w' fun e w2 => e = .returned (.bool false) ∧ w2.heap[w.heap.size]? = some (.cells #[.slice none 0 0, .slice none 0 0, .slice none 0 0] 26) ∧ Below w.heap.size w w2) := fun W hW => (wordsOf_any _ (by omega) W).mono (by
            rintro e w' ⟨v, rfl, ho, hb⟩
            rw [hws] at ho hsf hst
            have ho : w'.ownsRow W.heap.size 9 1 v (r.length + 1) (strC (x :: r)) := ho
            obtain ⟨g0, cap, rfl, -, -, -, -, hcl, -⟩ := owns_some ho (by omega)
            have hP := hW.on hb
            refine ⟨g0, cap, rfl, (says_any (x :: r) (some ⟨g0, 0, none⟩) cap g0 w' (fun _ => rfl) (fun j hj => ?_) (by rw [hws] at hwl; omega)).mono ?_, (lread_any _ _ _ g0 cap x r vS vC vP vs g w' (hP.rdg HE.out (by omega) (by rw [← HLN.out]; exact hws) ho) hx).mono ?_⟩
            · rw [hcl j (by simpa using hj)]
              simp only [strC, List.getElem?_map]
              rw [List.getD_eq_getElem?_getD, List.getElem?_eq_getElem hj]
              rfl
            · rintro e w2 ⟨rfl, rfl⟩
              exact ⟨by rw [hsf], rfl⟩
            · rintro e w2 ⟨⟨g1, a1, a2, a3, a4, hg, rfl, hR⟩ | ⟨hg, rfl⟩, hb2⟩
              · rw [hst] at hg; cases hg
              · exact ⟨rfl, (hb2.block _ (by omega)).trans hP.res, hP.bel.trans (hb2.mono (by omega))⟩)
          have OUT : Hid (parseG t = .inr (i + 1)) := HI.out.bad HRN.out (by rw [← HLN.out]; exact hst)
          clear hsy hwl hst hws hx hsf
          go_wp2_with (first | (go_at_call 25; refine (CU.out _ HI.out).mono ?_; rintro e w1 ⟨⟨bb, rfl⟩, hp1⟩; have I1 : Hid (PaI w w1 t rest i vS vC vP vs g) := hp1; clear hp1) | (go_at_call 26; refine (WO.out _ I1.out).mono ?_; rintro e w2 ⟨g0, cap, rfl, hsay, hrd⟩; have SA : Hid (Calls _ _ _ _ _) := hsay; have RA : Hid (Calls _ _ _ _ _) := hrd; clear hsay hrd) | (go_at_call 27; refine Calls.mono SA.out ?_; rintro e w3 ⟨rfl, rfl⟩) | (go_at_call 28; refine Calls.mono RA.out ?_; rintro e w4 ⟨rfl, hres, hb4⟩; have B4 : Hid (Below w.heap.size w w4) := hb4; have q3 := tri3 hres; obtain ⟨⟨r0, s0⟩, ⟨r1, s1⟩, ⟨r2, s2⟩⟩ := q3; clear hb4 hres))
          refine bodyPost_ret (v := .tuple #[.agg #[.slice none 0 0, .slice none 0 0, .slice none 0 0], .int .i64 ((i + 1 : Nat) : Int), .int .i64 7]) ?_ rfl ⟨Or.inr ⟨i + 1, OUT.out, rfl⟩, ((B4.out.setCell (p := ⟨w.heap.size, 0, none⟩) (Nat.le_refl _) _).setCell (p := ⟨w.heap.size, 1, none⟩) (Nat.le_refl _) _).setCell (p := ⟨w.heap.size, 2, none⟩) (Nat.le_refl _) _⟩
          rw [results_c2 rfl]
          go_simp
end Go.Proofs.YtknlapipkglnjaaGreatDoor



namespace Go.Proofs.YtknlapipkglnjaaGreatDoor

open Go.RowKit

attribute [local go_sem ↓] Go.wp_at_zero Go.wp_at_succ

def RpOut (w w' : World) (t : List UInt8) (e : Ending) : Prop :=
  ((∃ g vS vC vP vs, parseG t = .inl g ∧ e = .returned (.tuple #[.agg #[vS, vC, vP], .int .i64 0]) ∧ GAt (w.heap.size + 2) w' vS vC vP vs g) ∨
   (∃ i : Nat, parseG t = .inr i ∧ e = .returned (.tuple #[.agg #[.slice none 0 0, .slice none 0 0, .slice none 0 0], .int .i64 (i : Int)]))) ∧ Below w.heap.size w w'
structure PrI (w wr : World) (t : List UInt8) (i : Nat) (vS vC vP : Value) (vs : Nat → Value) (g : GD) (vL : Value) : Prop where
  rf : RfB (w.heap.size + 2) (w.heap.size + 1) wr vS vC vP vs g vL (linesL t)
  res : wr.heap[w.heap.size]? = some (.cells #[.slice none 0 0, .slice none 0 0, .slice none 0 0] 33)
  bel : Below w.heap.size w wr
  sz : w.heap.size + 2 ≤ wr.heap.size
  par : parseG t = parG ((linesL t).drop i) i g
  ok : GOk g
  gs : SzG g i
theorem PrI.on {w wr z : World} {t : List UInt8} {i : Nat} {vS vC vP vL : Value} {vs : Nat → Value} {g : GD} (h : PrI w wr t i vS vC vP vs g vL) (hb : Below wr.heap.size wr z) : PrI w z t i vS vC vP vs g vL := by
  have := h.sz
  exact ⟨h.rf.quiet hb, (hb.block _ (by omega)).trans h.res, h.bel.trans (hb.mono (by omega)), Nat.le_trans h.sz hb.size, h.par, h.ok, h.gs⟩
theorem ldrop (L : List (List UInt8)) {i : Nat} (h : i < L.length) : L.drop i = L.getD i [] :: L.drop (i + 1) := by
  rw [List.drop_eq_getElem_cons h, List.getD_eq_getElem?_getD, List.getElem?_eq_getElem h]
  rfl
theorem PrI.next {w w2 w3 : World} {t : List UInt8} {i : Nat} {vS vC vP vL vS' vC' vP' : Value} {vs vs' : Nat → Value} {g g' : GD} (h : PrI w w2 t i vS vC vP vs g vL) (hi : i < (linesL t).length) (hs : stepG g (wordsL ((linesL t).getD i [])) = some g') (hR : RfB (w.heap.size + 2) (w.heap.size + 1) w3 vS' vC' vP' vs' g' vL (linesL t)) (hb : Below (w.heap.size + 1) w2 w3) : PrI w w3 t (i + 1) vS' vC' vP' vs' g' vL := by
  refine ⟨hR, (hb.block _ (by omega)).trans h.res, h.bel.trans (hb.mono (by omega)), Nat.le_trans h.sz hb.size, ?_, stepG_ok h.ok hs, stepG_sz h.gs hs⟩
  rw [h.par, ldrop _ hi, parG_step hs]
theorem PrI.bad {w w2 : World} {t : List UInt8} {i : Nat} {vS vC vP vL : Value} {vs : Nat → Value} {g : GD} (h : PrI w w2 t i vS vC vP vs g vL) (hi : i < (linesL t).length) (hs : stepG g (wordsL ((linesL t).getD i [])) = none) : parseG t = .inr (i + 1) := by
  rw [h.par, ldrop _ hi, parG_bad hs]
theorem lines_le : ∀ (n : Nat) (t : List UInt8), t.length ≤ n → (linesL t).length ≤ t.length ∧ ∀ l ∈ linesL t, l.length ≤ t.length
  | 0, t, h => by
    have : t = [] := List.length_eq_zero_iff.1 (by omega)
    subst this
    exact ⟨Nat.le_refl _, fun l hl => by cases hl⟩
  | n + 1, t, h => by
    by_cases ht : t = []
    · subst ht; exact ⟨Nat.le_refl _, fun l hl => by cases hl⟩
    · have hp : 0 < t.length := List.length_pos_iff.2 ht
      have hk : (t.drop ((t.takeWhile (· != 10)).length + 1)).length + 1 ≤ t.length := by simp; omega
      obtain ⟨h1, h2⟩ := lines_le n (t.drop ((t.takeWhile (· != 10)).length + 1)) (by omega)
      rw [lines_cons ht]
      refine ⟨by simp only [List.length_cons]; omega, fun l hl => ?_⟩
      rcases List.mem_cons.1 hl with rfl | hl
      · exact (List.takeWhile_prefix _).length_le
      · have := h2 l hl; omega
theorem pri0 (w w1 : World) (t : List UInt8) (vs : Nat → Value) (vL : Value) (h : Wd ((w.alloc (.cells #[.slice none 0 0, .slice none 0 0, .slice none 0 0] 33)).alloc (.cells #[.slice none 0 0, .slice none 0 0, .slice none 0 0] 33)) w1 vL (linesL t)) : PrI w w1 t 0 (.slice none 0 0) (.slice none 0 0) (.slice none 0 0) vs gd0 vL := by
  have e : ((w.alloc (.cells #[.slice none 0 0, .slice none 0 0, .slice none 0 0] 33)).alloc (.cells #[.slice none 0 0, .slice none 0 0, .slice none 0 0] 33)).heap.size = w.heap.size + 2 := by simp
  have hb := h.below
  have ho := h.own
  rw [e] at hb ho
  refine ⟨⟨(hb.block _ (by omega)).trans (heap_alloc_at _ _ _ (by simp)), by omega, gat0 _ _ _, ho⟩, (hb.block _ (by omega)).trans ((heap_alloc_old _ _ (by simp)).trans (heap_alloc_at _ _ _ rfl)), (allocS (below_alloc w _) _).trans (hb.mono (by omega)), by have := hb.size; rw [e] at this; exact this, rfl, gok0, sz0⟩
end Go.Proofs.YtknlapipkglnjaaGreatDoor
