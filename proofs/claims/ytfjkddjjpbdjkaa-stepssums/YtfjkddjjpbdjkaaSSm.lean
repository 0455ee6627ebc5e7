
/- Layer 18: the statements' sums. -/

import Derived.Test.YtfjkddjjpbdjkaaSLaw0

namespace Go.Proofs.Ytfjkddjjpbdjkaa

open Go.RowKit

attribute [local go_sem ↓] Go.wp_at_zero Go.wp_at_succ

def smC (L : List Int) : List Value := L.map (fun x : Int => Value.int .i64 x)
theorem smC_length (L : List Int) : (smC L).length = L.length := by simp [smC]
theorem smC_append (a b : List Int) : smC (a ++ b) = smC a ++ smC b := by simp [smC]
theorem smC_get (L : List Int) (i : Nat) (h : i < L.length) : (smC L)[i]? = some (.int .i64 (L.getD i 0)) := by
  simp [smC, List.getElem?_map, List.getD_eq_getElem?_getD, List.getElem?_eq_getElem h]
/-- A row of numbers that is ours. -/
structure SmRow (w0 x : World) (v : Value) (V : List Int) : Prop where
  own : x.ownsRow w0.heap.size 3 1 v V.length (smC V)
  below : Below w0.heap.size w0 x
theorem SmRow.grown {w0 x y : World} {v v' : Value} {V : List Int} {q : Int} {o : Obj} (h : SmRow w0 x v V) (hg : (x.alloc o).grownBy y v.ownBlock) (ho : y.ownsRow w0.heap.size 3 1 v' (V.length + 1) (smC V ++ [.int .i64 q])) : SmRow w0 y v' (V ++ [q]) :=
  ⟨by rw [List.length_append, smC_append]; exact ho, Below.grown (h.below.alloc h.below.size o) hg (by rw [World.size_alloc]; have := h.below.size; omega) (fun k hk => (owns_lt h.own k hk).1)⟩
theorem SmRow.quiet {w0 x y : World} {v : Value} {V : List Int} (h : SmRow w0 x v V) (hb : Below x.heap.size x y) : SmRow w0 y v V := ⟨owns_below h.own hb, h.below.trans (hb.mono h.below.size)⟩
theorem SmRow.drew {w0 x : World} {v : Value} {V : List Int} (h : SmRow w0 x v V) : SmRow w0 x.drew v V := h.quiet (Below.refl _ _).drew
theorem SmRow.none (w : World) : SmRow w w (.slice none 0 0) [] := ⟨World.ownsRow_nil _ _ _ _, Below.refl _ _⟩
theorem SmRow.some {w0 x : World} {v : Value} {V : List Int} (h : SmRow w0 x v V) (hp : 0 < V.length) : ∃ g cap, v = .slice (some ⟨g, 0, .none⟩) V.length cap ∧ g < x.heap.size ∧ ∀ j, j < V.length → x.cell? ⟨g, j, .none⟩ = .some (.int .i64 (V.getD j 0)) := by
  obtain ⟨g, cap, rfl, -, hg, -, -, hc, -⟩ := owns_some h.own hp
  exact ⟨g, cap, rfl, hg, fun j hj => (hc j (by omega)).trans (smC_get V j hj)⟩
theorem BT.sms_size : ∀ (b : BT) (a : Int), (b.sms a).length ≤ b.size
  | .leaf _, _ => by simp [BT.sms, BT.size]
  | .node p l r, a => by
    have := BT.sms_size l (a + p.wt)
    have := BT.sms_size r (a + p.wt)
    simp only [BT.sms, BT.size, List.length_append]; omega
theorem BT.sms_le : ∀ {b : BT}, b.ok → ∀ {a : Int}, 0 ≤ a → ∀ x ∈ b.sms a, 0 ≤ x ∧ x ≤ a + 1000000 * (b.size : Int)
  | .leaf d, h, a, ha, x, hx => by
    simp only [BT.sms, List.mem_singleton] at hx
    have := h.2
    simp only [BT.size]
    omega
  | .node d l r, h, a, ha, x, hx => by
    have := h.1.2
    have s1 := l.size_pos
    have s2 := r.size_pos
    simp only [BT.sms, List.mem_append] at hx
    simp only [BT.size]
    rcases hx with hx | hx
    · have := BT.sms_le h.2.2.1 (a := a + d.wt) (by omega) x hx; omega
    · have := BT.sms_le h.2.2.2 (a := a + d.wt) (by omega) x hx; omega
set_option maxRecDepth 100000 in
set_option maxHeartbeats 4000000 in
theorem sums_any (base : Option Addr) (b o c : Nat) (t : NL) (hf : InForm t) {p : Nat} {B : BT} (h : Abs t p B) : ∀ (w0 w : World) (v : Value) (V : List Int) (a : Int), NodesAt w0 base b o t → SmRow w0 w v V → 0 ≤ a → a + 1000000 * (B.size : Int) ≤ 1000000000000 → V.length + B.size ≤ 1000000 →
    Calls Try.prog 35 #[.slice base t.length c, .int .i64 (p : Int), .int .i64 a, v] w fun e w' => ∃ v', e = .returned v' ∧ SmRow w0 w' v' (V ++ B.sms a) := by
  induction h with
  | @leaf p hp hl hr =>
    intro w0 w v V a h hS ha hA hV
    obtain rfl : base = some ⟨b, o, none⟩ := h.base (by omega)
    have hb := h.lt (by omega)
    have hbs := hS.below
    have hb' : b < w.heap.size := Nat.lt_of_lt_of_le hb hbs.size
    obtain ⟨-, -, c2, -, c4, -⟩ := h.cells p hp
    have hw := form_wt hf hp
    rw [hl] at c4
    rw [← hbs.cell (p := ⟨b, o + p * 6 + 2, none⟩) hb] at c2
    rw [← hbs.cell (p := ⟨b, o + p * 6 + 4, none⟩) hb] at c4
    have F : Hid ((BT.leaf (ndP (ndAt t p))).sms a = [a + (ndAt t p).wt]) := rfl
    simp only [BT.size] at hA hV
    generalize (BT.leaf (ndP (ndAt t p))).sms a = R at *
    generalize (ndAt t p).wt = u at *
    have e1 : IntKind.i64.wrap (a + u) = a + u := by rw [IntKind.wrap_i64] <;> omega
    have p0 : (0 : Int) ≤ (p : Int) := Int.natCast_nonneg _
    have p1 : (p : Int) < (t.length : Int) := by omega
    have S0 : Hid (SmRow w0 w v V) := hS
    obtain ⟨i0, hi0, hz0, hz1, hz2⟩ := info_parts in_info
    clear h hf hS hbs
    go_enter Try.func35, Try.ntmps35
    go_wp2_with (first | (at_builtin; (refine wpList_append_lies _ (by rfl) _ _ _ (by rfl) w0.heap.size 3 i0 _ 1 8 ins_under hi0 hz0 hz1 hz2 rfl (by omega) _ V.length _ (by rfl) (S0.out.own.alloc _) ⟨w.heap.size, 0, none⟩ 1 1 [.int .i64 (a + u)] (by rfl) (by rfl) (World.news_of_block (cs := #[.int .i64 (a + u)]) (t := 3) (fr := (0, 0)) (heap_alloc_at _ _ _ (by simp))) (by simp [Value.oneCell']) (by omega) (by unfold maxLen; omega) (by omega) (by have := S0.out.below.size; simp; omega) (w.heap.size + 1) (by simp) ?_); intro g4 c4' w4 ho hg hat hl4; have S4 : Hid (SmRow w0 w4 _ (V ++ [a + u])) := S0.out.grown (q := a + u) hg ho; clear ho hg hat hl4))
    go_ret
    exact ⟨_, rfl, by rw [F.out]; exact S4.out⟩
  | @node p l r A C hp hl hr hA hC ih1 ih2 =>
    intro w0 w v V a h hS ha hSz hV
    obtain rfl : base = some ⟨b, o, none⟩ := h.base (by omega)
    have hb := h.lt (by omega)
    have hbs := hS.below
    have hb' : b < w.heap.size := Nat.lt_of_lt_of_le hb hbs.size
    obtain ⟨-, -, c2, -, c4, c5⟩ := h.cells p hp
    have hw := form_wt hf hp
    rw [hl] at c4
    rw [hr] at c5
    have HC : Hid (∀ z, Below w0.heap.size w0 z → z.cell? ⟨b, o + p * 6 + 4, none⟩ = some (.int .i64 (l : Int)) ∧ z.cell? ⟨b, o + p * 6 + 5, none⟩ = some (.int .i64 (r : Int))) := fun z hz => ⟨(hz.cell (p := ⟨b, o + p * 6 + 4, none⟩) hb).trans c4, (hz.cell (p := ⟨b, o + p * 6 + 5, none⟩) hb).trans c5⟩
    rw [← hbs.cell (p := ⟨b, o + p * 6 + 2, none⟩) hb] at c2
    rw [← hbs.cell (p := ⟨b, o + p * 6 + 4, none⟩) hb] at c4
    rw [← hbs.cell (p := ⟨b, o + p * 6 + 5, none⟩) hb] at c5
    have F : Hid ((BT.node (ndP (ndAt t p)) A C).sms a = A.sms (a + (ndAt t p).wt) ++ C.sms (a + (ndAt t p).wt)) := rfl
    simp only [BT.size] at hSz hV
    have sA := A.sms_size (a + (ndAt t p).wt)
    have zA := A.size_pos
    have zC := C.size_pos
    have I1 : Hid (∀ W v, SmRow w0 W v V → Calls Try.prog 35 #[.slice (some ⟨b, o, none⟩) t.length c, .int .i64 (l : Int), .int .i64 (a + (ndAt t p).wt), v] W fun e w' => ∃ v', e = .returned v' ∧ SmRow w0 w' v' (V ++ A.sms (a + (ndAt t p).wt))) := fun W v hW => ih1 w0 W v V _ h hW (by omega) (by omega) (by omega)
    have I2 : Hid (∀ W v, SmRow w0 W v (V ++ A.sms (a + (ndAt t p).wt)) → Calls Try.prog 35 #[.slice (some ⟨b, o, none⟩) t.length c, .int .i64 (r : Int), .int .i64 (a + (ndAt t p).wt), v] W fun e w' => ∃ v', e = .returned v' ∧ SmRow w0 w' v' (V ++ A.sms (a + (ndAt t p).wt) ++ C.sms (a + (ndAt t p).wt))) := fun W v hW => ih2 w0 W v _ _ h hW (by omega) (by omega) (by rw [List.length_append]; omega)
    have S0 : Hid (SmRow w0 w.drew v V) := hS.drew
    generalize (BT.node (ndP (ndAt t p)) A C).sms a = R at *
    generalize A.sms (a + (ndAt t p).wt) = R1 at *
    generalize C.sms (a + (ndAt t p).wt) = R2 at *
    generalize (ndAt t p).wt = u at *
    have e1 : IntKind.i64.wrap (a + u) = a + u := by rw [IntKind.wrap_i64] <;> omega
    have p0 : (0 : Int) ≤ (p : Int) := Int.natCast_nonneg _
    have p1 : (p : Int) < (t.length : Int) := by omega
    have l0 : decide ((l : Int) < 0) = false := by simp
    have K0 : Hid True := trivial
    clear h hf hS hbs ih1 ih2 hA hC sA zA zC
    go_enter Try.func35, Try.ntmps35
    go_wp2_with fail
    go_region_held3 (fun w' => w'.cell? ⟨b, o + p * 6 + 4, none⟩ = some (.int .i64 (l : Int)) ∧ w'.cell? ⟨b, o + p * 6 + 5, none⟩ = some (.int .i64 (r : Int)))
      (first | (with_reducible exact X2.out) | (with_reducible exact X1.out) | go_keep)
      (first | (go_at_call 35; have hq := K0; refine (I1.out _ _ S0.out).mono ?_; rintro e w1 ⟨v1, rfl, hs⟩; have S1 : Hid (SmRow w0 w1 v1 (V ++ R1)) := hs; have X1 : Hid _ := HC.out _ hs.below; have K1 : Hid True := trivial; clear hs hq K0)
             | (go_at_call 35; have hq := K1; refine (I2.out _ _ S1.out).mono ?_; rintro e w2 ⟨v2, rfl, hs⟩; have S2 : Hid (SmRow w0 w2 v2 (V ++ R1 ++ R2)) := hs; have X2 : Hid _ := HC.out _ hs.below; clear hs hq K1))
    go_wp2_with fail
    go_ret
    exact ⟨_, rfl, by rw [F.out, ← List.append_assoc]; exact S2.out⟩
end Go.Proofs.Ytfjkddjjpbdjkaa
