
/- Layer 16: Leaves of both, whole. -/

import Derived.Test.YthlhbajaogonnaaTLeav

namespace Go.Proofs.Ythlhbajaogonnaa

open Go.RowKit

attribute [local go_sem ↓] Go.wp_at_zero Go.wp_at_succ

open Classical in
/-- Leaves' answer. -/
noncomputable def leafL (t : NL) : List Nat := if formE t = 0 then lvL t (theL t 0) else []
theorem theL_ok {t : NL} (hf : InForm t) : ∀ j, j < (theL t 0).length → PlOk t ((theL t 0).getD j 0) := by
  obtain ⟨hT, -, -⟩ := theL_form hf
  intro j hj
  have hm : (theL t 0).getD j 0 ∈ theL t 0 := by rw [List.getD_eq_getElem?_getD, List.getElem?_eq_getElem hj]; exact List.getElem_mem hj
  refine ⟨hT.all _ hm, ?_⟩
  rcases hT.each _ hm with h | ⟨l, r, h, -⟩
  · exact Or.inl h
  · exact Or.inr (by omega)
theorem lv_len (t : NL) (L : List Nat) : (lvL t L).length ≤ L.length := List.length_filter_le _ _

set_option maxRecDepth 100000 in
set_option maxHeartbeats 1000000 in
theorem leaves_any (base : Option Addr) (b o c : Nat) (t : NL) (w : World) (h : NodesAt w base b o t) (hf : InForm t) (hbig : t.length ≤ 100000) :
    Calls Try.prog 80 #[.slice base t.length c] w fun e w' => ∃ a cap g, e = .returned (.slice a (lvL t (theL t 0)).length cap) ∧ PlsAt w' a g (lvL t (theL t 0)) ∧ Below w.heap.size w w' := by
  obtain ⟨hT, -, hlen⟩ := theL_form hf
  have HT : Hid (Tree _ _ _) := hT
  have HOK : Hid _ := theL_ok hf
  have hpos := hf.pos
  have hl1 : (theL t 0).length ≤ 100000 := by omega
  have HA : Hid _ := h
  obtain rfl : base = some ⟨b, o, none⟩ := HA.out.base (by omega)
  have hbl := HA.out.lt (by omega)
  clear h hf hT hlen
  generalize theL t 0 = X at HT HOK hl1 ⊢
  have HBX : Hid (BoxAt (w.alloc (.cells #[.slice (some ⟨b, o, none⟩) t.length c] 22)) w.heap.size b o c t) := ⟨cell_new _ _ _ 0, by simp, by simp; omega, HA.out.below (below_alloc _ _)⟩
  go_enter Try.func80, Try.ntmps80
  go_wp2_with (first | (go_at_call 77; refine (order_any _ b o c t 0 X _ HBX.out.nodes HT.out (by omega)).mono ?_; rintro e w3 ⟨v, rfl, ho, hb3⟩; have HO : Hid (World.ownsRow _ _ _ _ _ _ _) := ho; have HB3 : Hid (Below _ _ _) := hb3; have hz3 := hb3.size; simp only [World.size_alloc] at hz3; clear ho hb3) | (go_at_call 92; refine (deleteP_any _ _ w.heap.size b o c t X _ HO.out HB3.out.size (HBX.out.below HB3.out (by simp) (by simp; omega)) (by simp) (by simp; omega) HOK.out).mono ?_; rintro e w4 ⟨a, cap, g, rfl, hp, hb4⟩; have HP : Hid _ := hp; have HB4 : Hid (Below w.heap.size w w4) := (below_alloc w _).trans ((HB3.out.trans hb4).mono (by simp)); clear hp hb4))
  go_ret
  exact ⟨_, _, _, rfl, HP.out, HB4.out⟩

end Go.Proofs.Ythlhbajaogonnaa
