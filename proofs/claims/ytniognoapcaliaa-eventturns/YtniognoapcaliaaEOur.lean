/- Layer 5: the law's our: operations for the program. -/
import Derived.Test.YtniognoapcaliaaEEvents
namespace Go.Proofs.Ytniognoapcaliaa
open Go.RowKit
attribute [local go_sem ↓] Go.wp_at_zero Go.wp_at_succ

def cdC (c : CD) (v : Value) : List Value := [.int .i64 c.th, .int .i64 c.op.kind, .int .i64 c.op.key, .int .i64 c.op.val, .int .i64 c.op.hi, .bool c.rt.ok, .int .i64 c.rt.key, .int .i64 c.rt.val, v, .int .i64 c.fr, .int .i64 c.to]
def cdsC : List (CD × Value) → List Value
  | [] => []
  | x :: t => cdC x.1 x.2 ++ cdsC t
theorem cdsC_append (b : List (CD × Value)) : ∀ a, cdsC (a ++ b) = cdsC a ++ cdsC b
  | [] => rfl
  | x :: t => by simp [cdsC, cdsC_append b t]
theorem cdsC_length : ∀ a, (cdsC a).length = a.length * 11
  | [] => rfl
  | x :: t => by
    have : (cdC x.1 x.2).length = 11 := rfl
    simp only [cdsC, List.length_append, this, cdsC_length t, List.length_cons]; omega
theorem cdsC_get : ∀ (a : List (CD × Value)) (k i : Nat) (x : CD × Value), a[k]? = some x → i < 11 → (cdsC a)[k * 11 + i]? = (cdC x.1 x.2)[i]?
  | [], k, i, x, h, _ => by simp at h
  | y :: t, 0, i, x, h, hi => by
    simp only [List.getElem?_cons_zero, Option.some.injEq] at h
    subst h
    simp only [cdsC, Nat.zero_mul, Nat.zero_add]
    rw [List.getElem?_append_left (by exact hi)]
  | y :: t, k + 1, i, x, h, hi => by
    have ih := cdsC_get t k i x (by simpa using h) hi
    have l11 : (cdC y.1 y.2).length = 11 := rfl
    simp only [cdsC]
    rw [List.getElem?_append_right (by rw [l11]; omega), l11, show (k + 1) * 11 + i - 11 = k * 11 + i by omega]
    exact ih
def CRets (w : World) (B : Nat) (row : Option Nat) (l : List (CD × Value)) : Prop := ∀ x ∈ l, RetAt w B row x.1.rt.pairs x.2
theorem CRets.below {w w' : World} {B : Nat} {row : Option Nat} {l : List (CD × Value)} (h : CRets w B row l) (hb : Below w.heap.size w w') : CRets w' B row l := fun x hx => (h x hx).below hb
theorem CRets.grown {w w1 : World} {B : Nat} {row row' : Option Nat} {l : List (CD × Value)} (h : CRets w B row l) (hg : w.grownBy w1 row) (hr : ∀ g, row' = some g → row = some g ∨ w.heap.size ≤ g) : CRets w1 B row' l := by
  intro x hx
  obtain ⟨g, cap, e, h1, h2, h3, h4⟩ := h x hx
  refine ⟨g, cap, e, h1, Nat.lt_of_lt_of_le h2 hg.size, fun q => ?_, ?_⟩
  · rcases hr g q with r | r
    · exact h3 r
    · omega
  · refine ⟨h4.base, fun hn => Nat.lt_of_lt_of_le (h4.lt hn) hg.size, fun i hi => ?_, h4.len⟩
    exact ⟨(hg.cell_far ⟨g, _, none⟩ h2 (fun q => h3 q.symm)).trans (h4.cells i hi).1, (hg.cell_far ⟨g, _, none⟩ h2 (fun q => h3 q.symm)).trans (h4.cells i hi).2⟩

set_option maxRecDepth 100000 in
set_option maxHeartbeats 2000000 in
theorem our_any (a1 : Option Addr) (b1 o1 c1 : Nat) (l : List CD) (pb : Nat → Option Addr) (pc pg po : Nat → Nat) (w : World) (hx : CdsAt w a1 b1 o1 l pb pc pg po) (hby : l.length * 104 ≤ 140737488351232) :
    Calls Try.prog 21 #[.slice a1 l.length c1] w fun e w' => ∃ v m, e = .returned v ∧ Below w.heap.size w w' ∧ m.map (·.1) = l ∧ w'.ownsRow w.heap.size 61 11 v m.length (cdsC m) ∧ CRets w' w.heap.size v.ownBlock m := by
  have HX : Hid _ := hx
  clear hx
  have lx := HX.out.len
  unfold maxLen at lx
  obtain ⟨i0, hi0, hz0, hz1, hz2⟩ := info_parts pc_info
  go_enter Try.func21, Try.ntmps21
  go_wp2_with fail
  go_loopw [3, 4] (fun v i wr => ∃ (j : Nat) (m : List (CD × Value)), j ≤ l.length ∧ i = .int .i64 j ∧ Below w.heap.size w wr ∧ m.map (·.1) = l.take j ∧ wr.ownsRow w.heap.size 61 11 v m.length (cdsC m) ∧ CRets wr w.heap.size v.ownBlock m) (fun _ i _ => l.length - (intOf i).toNat)
  case atStart => exact ⟨0, [], Nat.zero_le _, rfl, Below.refl _ _, by simp, World.ownsRow_nil _ _ _ _, fun x hx => by cases hx⟩
  case round =>
    obtain ⟨j, m, hj, rfl, hbw, hmap, hown, hrets⟩ := hrel
    obtain ⟨oa, oc, rfl⟩ := owns_form hown
    have HW : Hid _ := hbw
    have HM : Hid _ := hmap
    have HO : Hid (World.ownsRow _ _ _ _ _ _ _) := hown
    have HR : Hid (CRets _ _ _ _) := hrets
    by_cases hlt : j < l.length
    · obtain rfl : a1 = some ⟨b1, o1, none⟩ := HX.out.base (by omega)
      have EX := HX.out.below hbw
      have zx : b1 < wr.heap.size := EX.lt (by omega)
      obtain ⟨d0, d1, d2, d3, d4⟩ := EX.c0 j hlt
      obtain ⟨d5, d6, d7, d8⟩ := EX.c1 j hlt
      obtain ⟨d9, d10⟩ := EX.c2 j hlt
      have j0 : (0 : Int) ≤ (j : Int) := Int.natCast_nonneg _
      have j1 : (j : Int) < (l.length : Int) := by omega
      have hml : Hid (m.length = j) := by show m.length = j; have := congrArg List.length hmap; simp at this; omega
      have hm2 : m.length < l.length := by have := hml.out; omega
      obtain ⟨W0, hW0⟩ : ∃ W0, W0 = wr.alloc (.cells #[.int .i64 (cdAt l j).th, .int .i64 (cdAt l j).op.kind, .int .i64 (cdAt l j).op.key, .int .i64 (cdAt l j).op.val, .int .i64 (cdAt l j).op.hi, .bool (cdAt l j).rt.ok, .int .i64 (cdAt l j).rt.key, .int .i64 (cdAt l j).rt.val, .slice (pb j) (cdAt l j).rt.pairs.length (pc j), .int .i64 (cdAt l j).fr, .int .i64 (cdAt l j).to] 88) := ⟨_, rfl⟩
      have hc : ∀ k, W0.cell? ⟨wr.heap.size, k, none⟩ = #[.int .i64 (cdAt l j).th, .int .i64 (cdAt l j).op.kind, .int .i64 (cdAt l j).op.key, .int .i64 (cdAt l j).op.val, .int .i64 (cdAt l j).op.hi, .bool (cdAt l j).rt.ok, .int .i64 (cdAt l j).rt.key, .int .i64 (cdAt l j).rt.val, .slice (pb j) (cdAt l j).rt.pairs.length (pc j), .int .i64 (cdAt l j).fr, .int .i64 (cdAt l j).to][k]? := fun k => by rw [hW0]; exact cell_new wr _ _ k
      have hb0 : Below wr.heap.size wr W0 := by rw [hW0]; exact below_alloc _ _
      have z0 : W0.heap.size = wr.heap.size + 1 := by rw [hW0]; simp
      have ol := owns_lt hown
      have HOL : Hid _ := ol
      have B0 : Hid (Below wr.heap.size wr W0) := hb0
      have PX : Hid _ := EX.prs j hlt
      clear EX hbw hmap hown hrets hb0 ol
      go_wp2_with fail
      rw [← hW0]
      have k0 : W0.cell? ⟨wr.heap.size, 0, none⟩ = some (.int .i64 (cdAt l j).th) := hc 0
      have k1 : W0.cell? ⟨wr.heap.size, 1, none⟩ = some (.int .i64 (cdAt l j).op.kind) := hc 1
      have k2 : W0.cell? ⟨wr.heap.size, 2, none⟩ = some (.int .i64 (cdAt l j).op.key) := hc 2
      have k3 : W0.cell? ⟨wr.heap.size, 3, none⟩ = some (.int .i64 (cdAt l j).op.val) := hc 3
      have k4 : W0.cell? ⟨wr.heap.size, 4, none⟩ = some (.int .i64 (cdAt l j).op.hi) := hc 4
      have k5 : W0.cell? ⟨wr.heap.size, 5, none⟩ = some (.bool (cdAt l j).rt.ok) := hc 5
      have k6 : W0.cell? ⟨wr.heap.size, 6, none⟩ = some (.int .i64 (cdAt l j).rt.key) := hc 6
      have k7 : W0.cell? ⟨wr.heap.size, 7, none⟩ = some (.int .i64 (cdAt l j).rt.val) := hc 7
      have k8 : W0.cell? ⟨wr.heap.size, 8, none⟩ = some (.slice (pb j) (cdAt l j).rt.pairs.length (pc j)) := hc 8
      have k9 : W0.cell? ⟨wr.heap.size, 9, none⟩ = some (.int .i64 (cdAt l j).fr) := hc 9
      have k10 : W0.cell? ⟨wr.heap.size, 10, none⟩ = some (.int .i64 (cdAt l j).to) := hc 10
      clear hW0 hc d0 d1 d2 d3 d4 d5 d6 d7 d8 d9 d10
      have hsz0 : wr.heap.size < W0.heap.size := by omega
      have ag : Value.ownBlock (.slice oa m.length oc) ≠ some wr.heap.size := by intro q; have := (HOL.out _ q).2; omega
      have O0 : Hid (W0.drew.ownsRow w.heap.size 61 11 (.slice oa m.length oc) m.length (cdsC m)) := owns_below (HO.out) (B0.out.drew)
      have P0 : Hid (PairsAt W0.drew (pb j) (pg j) (po j) (cdAt l j).rt.pairs) := PX.out.1.below B0.out.drew
      go_region_held3 (fun w' => w'.cell? ⟨wr.heap.size, 0, none⟩ = some (.int .i64 (cdAt l j).th) ∧ w'.cell? ⟨wr.heap.size, 1, none⟩ = some (.int .i64 (cdAt l j).op.kind) ∧ w'.cell? ⟨wr.heap.size, 2, none⟩ = some (.int .i64 (cdAt l j).op.key) ∧ w'.cell? ⟨wr.heap.size, 3, none⟩ = some (.int .i64 (cdAt l j).op.val) ∧ w'.cell? ⟨wr.heap.size, 4, none⟩ = some (.int .i64 (cdAt l j).op.hi) ∧ w'.cell? ⟨wr.heap.size, 5, none⟩ = some (.bool (cdAt l j).rt.ok) ∧ w'.cell? ⟨wr.heap.size, 6, none⟩ = some (.int .i64 (cdAt l j).rt.key) ∧ w'.cell? ⟨wr.heap.size, 7, none⟩ = some (.int .i64 (cdAt l j).rt.val) ∧ w'.cell? ⟨wr.heap.size, 8, none⟩ = some (.slice (pb j) (cdAt l j).rt.pairs.length (pc j)) ∧ w'.cell? ⟨wr.heap.size, 9, none⟩ = some (.int .i64 (cdAt l j).fr) ∧ w'.cell? ⟨wr.heap.size, 10, none⟩ = some (.int .i64 (cdAt l j).to))
          (first
            | go_keep
            | (exact ⟨(hb2.cell (p := ⟨wr.heap.size, 0, none⟩) hsz0).trans k0, (hb2.cell (p := ⟨wr.heap.size, 1, none⟩) hsz0).trans k1, (hb2.cell (p := ⟨wr.heap.size, 2, none⟩) hsz0).trans k2, (hb2.cell (p := ⟨wr.heap.size, 3, none⟩) hsz0).trans k3, (hb2.cell (p := ⟨wr.heap.size, 4, none⟩) hsz0).trans k4, (hb2.cell (p := ⟨wr.heap.size, 5, none⟩) hsz0).trans k5, (hb2.cell (p := ⟨wr.heap.size, 6, none⟩) hsz0).trans k6, (hb2.cell (p := ⟨wr.heap.size, 7, none⟩) hsz0).trans k7, (hb2.cell (p := ⟨wr.heap.size, 8, none⟩) hsz0).trans k8, (hb2.cell (p := ⟨wr.heap.size, 9, none⟩) hsz0).trans k9, (hb2.cell (p := ⟨wr.heap.size, 10, none⟩) hsz0).trans k10⟩)
            | (go_split_ands
               refine ⟨?_, ?_, ?_, ?_, ?_, ?_, ?_, ?_, ?_, ?_, ?_⟩ <;> (rw [hgrow.cell_far _ (by simp; omega) (Ne.symm ag)]; assumption)))
          (first
            | (go_at_call 56; refine (copyRet_any (pb j) (pg j) (po j) (pc j) (cdAt l j).rt _ P0.out PX.out.2.1 PX.out.2.2).mono ?_; rintro e w2 ⟨g2, c2, rfl, hg2, hgl2, hpa2, hb2⟩; have z2 := hb2.size; simp only [World.drew] at z2)
            | (refine step_append_lies _ (by rfl) _ _ _ (by rfl) w.heap.size 61 i0 _ 11 104 pcs_under hi0 hz0 hz1 hz2 rfl (by omega) _ m.length _ (by rfl) ((owns_below O0.out hb2).alloc _)
                    ⟨w2.heap.size, 0, none⟩ 1 1 [.int .i64 (cdAt l j).th, .int .i64 (cdAt l j).op.kind, .int .i64 (cdAt l j).op.key, .int .i64 (cdAt l j).op.val, .int .i64 (cdAt l j).op.hi, .bool (cdAt l j).rt.ok, .int .i64 (cdAt l j).rt.key, .int .i64 (cdAt l j).rt.val, .slice (some ⟨g2, 0, none⟩) (cdAt l j).rt.pairs.length c2, .int .i64 (cdAt l j).fr, .int .i64 (cdAt l j).to] (by rfl) (by rfl) (World.news_of_block (cs := #[.int .i64 (cdAt l j).th, .int .i64 (cdAt l j).op.kind, .int .i64 (cdAt l j).op.key, .int .i64 (cdAt l j).op.val, .int .i64 (cdAt l j).op.hi, .bool (cdAt l j).rt.ok, .int .i64 (cdAt l j).rt.key, .int .i64 (cdAt l j).rt.val, .slice (some ⟨g2, 0, none⟩) (cdAt l j).rt.pairs.length c2, .int .i64 (cdAt l j).fr, .int .i64 (cdAt l j).to]) (t := 61) (fr := (0, 0)) (heap_alloc_new w2 _)) (by simp [Value.oneCell'])
                    (by omega) (by unfold maxLen; omega) (by omega) (by have := HW.out.size; simp; omega) (w2.heap.size + 1) (by simp) ?_; intro gg cap w3 hown3 hgrow hat hlt3))
      have R2 : Hid (CRets w2 w.heap.size (Value.ownBlock (.slice oa m.length oc)) (m ++ [(cdAt l j, .slice (some ⟨g2, 0, none⟩) (cdAt l j).rt.pairs.length c2)])) := by
        intro x hx
        rcases List.mem_append.1 hx with hx | hx
        · exact ((HR.out.below B0.out).below (below_of_drew hb2)) x hx
        · simp only [List.mem_singleton] at hx
          subst hx
          simp only [World.drew] at hg2
          exact ⟨g2, c2, rfl, by have := HW.out.size; omega, hgl2, fun q => by have := (HOL.out _ q).2; omega, hpa2⟩
      have HG : Hid ((w2.alloc (.cells #[.int .i64 (cdAt l j).th, .int .i64 (cdAt l j).op.kind, .int .i64 (cdAt l j).op.key, .int .i64 (cdAt l j).op.val, .int .i64 (cdAt l j).op.hi, .bool (cdAt l j).rt.ok, .int .i64 (cdAt l j).rt.key, .int .i64 (cdAt l j).rt.val, .slice (some ⟨g2, 0, none⟩) (cdAt l j).rt.pairs.length c2, .int .i64 (cdAt l j).fr, .int .i64 (cdAt l j).to] 61)).grownBy w3 (Value.ownBlock (.slice oa m.length oc))) := hgrow
      have HAT : Hid _ := hat
      have HO3 : Hid (World.ownsRow _ _ _ _ _ _ _) := hown3
      have B2 : Hid (Below w.heap.size w w2) := (HW.out.trans (B0.out.mono HW.out.size)).trans ((below_of_drew hb2).mono (by have := HW.out.size; show w.heap.size ≤ W0.heap.size; omega))
      clear hgrow hat hown3 hb2 hpa2
      go_wp2_with fail
      have B3 : Below w.heap.size w w3 := Below.grown (B2.out.alloc B2.out.size _) HG.out (by have := B2.out.size; simp; omega) (fun k hk => (HOL.out k hk).1)
      refine ⟨⟨j + 1, m ++ [(cdAt l j, .slice (some ⟨g2, 0, none⟩) (cdAt l j).rt.pairs.length c2)], by omega, by go_num, B3, ?_, ?_, ?_⟩, by simp [intOf]; omega⟩
      · rw [List.map_append, HM.out, List.take_succ_eq_append_getElem hlt]
        congr 1
        show [cdAt l j] = _
        unfold cdAt
        rw [List.getD_eq_getElem?_getD, List.getElem?_eq_getElem hlt]
        rfl
      · have ec : cdsC (m ++ [(cdAt l j, .slice (some ⟨g2, 0, none⟩) (cdAt l j).rt.pairs.length c2)]) = cdsC m ++ [.int .i64 (cdAt l j).th, .int .i64 (cdAt l j).op.kind, .int .i64 (cdAt l j).op.key, .int .i64 (cdAt l j).op.val, .int .i64 (cdAt l j).op.hi, .bool (cdAt l j).rt.ok, .int .i64 (cdAt l j).rt.key, .int .i64 (cdAt l j).rt.val, .slice (some ⟨g2, 0, none⟩) (cdAt l j).rt.pairs.length c2, .int .i64 (cdAt l j).fr, .int .i64 (cdAt l j).to] := by
          rw [cdsC_append]
          simp [cdsC, cdC]
        rw [ec, List.length_append]
        exact HO3.out
      · exact (R2.out.below (below_alloc w2 (.cells #[.int .i64 (cdAt l j).th, .int .i64 (cdAt l j).op.kind, .int .i64 (cdAt l j).op.key, .int .i64 (cdAt l j).op.val, .int .i64 (cdAt l j).op.hi, .bool (cdAt l j).rt.ok, .int .i64 (cdAt l j).rt.key, .int .i64 (cdAt l j).rt.val, .slice (some ⟨g2, 0, none⟩) (cdAt l j).rt.pairs.length c2, .int .i64 (cdAt l j).fr, .int .i64 (cdAt l j).to] 61))).grown (row' := some gg) HG.out (by
            intro g hg
            cases hg
            rcases HAT.out with q | q
            · exact Or.inl q
            · right; simp; omega)
    · obtain rfl : j = l.length := by omega
      clear hbw hmap hown hrets
      go_wp2_with fail
      go_ret
      exact ⟨_, m, rfl, HW.out, by rw [HM.out, List.take_length], HO.out, HR.out⟩
end Go.Proofs.Ytniognoapcaliaa
