
/- Layer 16: Leaves and Parents answer rows of their own, that may be written over. Made by mk_tapc.py. -/

import Derived.Test.YtkioahkfjgbgdaaDoorTLeav2

import Derived.Test.YtkioahkfjgbgdaaDoorTUp

namespace Go.Proofs.YtkioahkfjgbgdaaDoor

open Go.RowKit

attribute [local go_sem ↓] Go.wp_at_zero Go.wp_at_succ

theorem owns_intsB {w : World} {B cap g : Nat} {base : Option Addr} {L : List Nat} (h : w.ownsRow B 3 1 (.slice base L.length cap) L.length (natC L)) (hp : PlsAt w base g L) (hn : 0 < L.length) : B ≤ g ∧ g < w.heap.size ∧ Ints w g L.length (fun x => ((L.getD x 0 : Nat) : Int)) := by
  obtain rfl := hp.base (by omega)
  have hI := owns_ints h hn rfl
  obtain ⟨g', cap', e', hg1, hg2, -, -, -, -⟩ := owns_some h hn
  cases e'
  exact ⟨hg1, hg2, hI⟩
theorem ints_past {w : World} {g n o : Nat} {F : Nat → Int} (h : Ints w g n F) (ho : n ≤ o) (v : Value) : Ints (w.setCell ⟨g, o, none⟩ v) g n F := fun x hx =>
  ⟨by rw [World.cell?_setCell_other _ _ _ _ (fun e => by injection e; omega)]; exact (h x hx).1, by simpa using (h x hx).2⟩
theorem ints_setCells {g n : Nat} {F : Nat → Int} : ∀ (vs : List Value) (o : Nat) (w : World), n ≤ o → Ints w g n F → Ints (w.setCells g o vs) g n F
  | [], _, _, _, h => h
  | v :: vs, o, w, ho, h => ints_setCells vs (o + 1) _ (by omega) (ints_past h ho v)
set_option maxRecDepth 100000 in
set_option maxHeartbeats 2000000 in
theorem deletePw_any (B : Nat) (v : Value) (bx b o c : Nat) (t : NL) (L : List Nat) (w : World) (h : w.ownsRow B 3 1 v L.length (natC L)) (hB : B ≤ w.heap.size) (hb : BoxAt w bx b o c t) (h1 : bx < B) (h2 : b < B) (hok : ∀ j, j < L.length → PlOk t (L.getD j 0)) :
    Calls Tryd.prog 41 #[v, .func (.func 42) #[] #[.pointer (some ⟨bx, 0, none⟩)]] w fun e w' => ∃ base cap g, e = .returned (.slice base (lvL t L).length cap) ∧ PlsAt w' base g (lvL t L) ∧ Below B w w' ∧ ((lvL t L).length ≠ 0 → B ≤ g ∧ ∃ F, Ints w' g (lvL t L).length F) := by
  obtain ⟨base, cap, g, rfl, hg, hnil, hpl⟩ := pls_of_owns h
  have HS : Hid _ := hpl
  have HO : Hid (World.ownsRow _ _ _ _ _ _ _) := h
  have HBX : Hid _ := hb
  have HOK : Hid (∀ j, j < L.length → PlOk t (L.getD j 0)) := hok
  have lx := hpl.len
  unfold maxLen at lx
  clear hpl h hb hok
  go_enter Tryd.func41, Tryd.ntmps41
  go_wp2_with fail
  refine (indexP_any base g cap bx b o c t L _ HS.out HBX.out HOK.out).mono ?_
  rintro e w1 ⟨r, rfl, hb1, hr⟩
  have B1 : Hid _ := hb1
  clear hb1
  rcases hr with ⟨rfl, hall⟩ | ⟨k, rfl, hk, hpk, hbef⟩
  · have HR : Hid (lvL t L = L) := by show _ = _; have := lv_all hall L.length (Nat.le_refl _); rwa [List.take_length] at this
    clear hall
    go_wp2_with fail
    go_ret
    rw [HR.out]
    exact ⟨base, cap, g, rfl, HS.out.below B1.out, B1.out.mono hB, fun q => ⟨(owns_intsB HO.out HS.out (by omega)).1, _, (owns_intsB HO.out HS.out (by omega)).2.2.below (owns_intsB HO.out HS.out (by omega)).2.1 B1.out⟩⟩
  · have hn0 : 0 < L.length := by omega
    obtain rfl : base = some ⟨g, 0, none⟩ := HS.out.base (by omega)
    obtain ⟨g', cap', e', hg1, hg2, hcap1, hcap2, -, -⟩ := owns_some HO.out hn0
    cases e'
    have z1 := B1.out.size
    have V1 : Hid (Ints w1 g L.length (fun x => ((L.getD x 0 : Nat) : Int))) := (owns_ints HO.out hn0 rfl).below hg2 B1.out
    have HR0 : Hid ((lvL t (L.take (k + 1))).length = k ∧ ∀ x, x < k → (lvL t (L.take (k + 1))).getD x 0 = L.getD x 0) := by
      rw [lv_first hk hpk hbef]
      refine ⟨by simp; omega, fun x hx => ?_⟩
      rw [List.getD_eq_getElem?_getD, List.getD_eq_getElem?_getD, List.getElem?_take, if_pos hx]
    have hki : ((k : Int) == -1) = false := by rw [beq_eq_false_iff_ne]; omega
    have hgB : Hid (B ≤ g) := hg1
    unfold maxLen at hcap2
    clear hpk hbef hnil hg hn0 HO
    go_wp2_with fail
    go_loopw [5, 6] (fun iv jv wr => ∃ (j i : Nat) (F : Nat → Int), j ≤ L.length ∧ jv = .int .i64 j ∧ iv = .int .i64 i ∧ i < j ∧ (lvL t (L.take j)).length = i ∧ Ints wr g L.length F ∧ (∀ x, x < i → F x = ((lvL t (L.take j)).getD x 0 : Nat)) ∧ (∀ x, j ≤ x → x < L.length → F x = (L.getD x 0 : Nat)) ∧ Below B w wr ∧ g < wr.heap.size ∧ B ≤ wr.heap.size) (fun _ jv _ => L.length - (intOf jv).toNat)
    case atStart => exact ⟨k + 1, k, _, by omega, by go_num, rfl, by omega, HR0.out.1, V1.out, fun x hx => by rw [HR0.out.2 x hx], fun x _ _ => rfl, B1.out.mono hB, by omega, by omega⟩
    case round =>
      clear V1 HR0 hki B1 z1
      obtain ⟨j, i, F, hj, rfl, rfl, hij, hlen, hV, hF1, hF2, hbw, hgw, hBw⟩ := hrel
      have HV : Hid (Ints _ _ _ _) := hV
      have H1 : Hid _ := hF1
      have H2 : Hid _ := hF2
      have HB : Hid _ := hbw
      have HL : Hid _ := hlen
      by_cases hlt : j < L.length
      · have c0 := (hV j hlt).1
        rw [hF2 j (Nat.le_refl _) hlt] at c0
        have j0 : (0 : Int) ≤ (j : Int) := Int.natCast_nonneg _
        have j1 : (j : Int) < (L.length : Int) := by omega
        have i0 : (0 : Int) ≤ (i : Int) := Int.natCast_nonneg _
        have i1 : (i : Int) < (L.length : Int) := by omega
        have HN : Hid (lvL t (L.take (j + 1)) = if lfB t (L.getD j 0) then lvL t (L.take j) ++ [L.getD j 0] else lvL t (L.take j)) := by show _ = _; rw [take_snocL hlt, lv_snoc]
        have HP : Hid _ := HOK.out j hlt
        have HBW : Hid _ := HBX.out.below hbw h1 h2
        clear hV hF1 hF2 hbw hlen
        generalize L.getD j 0 = y at c0 HP HN
        go_wp2_with fail
        refine (leaves1_any bx b o c y t _ HBW.out HP.out).mono ?_
        rintro e w2 ⟨rfl, hb2⟩
        have z2 := hb2.size
        have B2 : Hid (Below B w w2) := HB.out.trans (hb2.mono hBw)
        have V2 : Hid (Ints w2 g L.length F) := HV.out.below hgw hb2
        have m0 := (V2.out i (by omega)).1
        have m1 := (V2.out i (by omega)).2
        clear hb2 c0
        cases hq : lfB t y
        · have HN' : Hid (lvL t (L.take (j + 1)) = lvL t (L.take j)) := by show _ = _; rw [HN.out, hq]; rfl
          go_wp2_with fail
          exact ⟨⟨j + 1, i, F, by omega, by go_num, rfl, by omega, by rw [HN'.out]; exact HL.out, V2.out, by rw [HN'.out]; exact H1.out, fun x hx hx2 => H2.out x (by omega) hx2, B2.out, by omega, by omega⟩, by simp [intOf]; omega⟩
        · have HN' : Hid (lvL t (L.take (j + 1)) = lvL t (L.take j) ++ [y]) := by show _ = _; rw [HN.out, hq]; rfl
          go_wp2_with fail
          refine ⟨⟨j + 1, i + 1, _, by omega, by go_num, by go_num, by omega, by rw [HN'.out]; simp [HL.out], V2.out.set i _ (by omega), ?_, ?_, B2.out.setCell (by simpa using hgB.out) _, by simp; omega, by simp; omega⟩, by simp [intOf]; omega⟩
          · rw [HN'.out]
            intro x hx
            show (if x = i then (y : Int) else F x) = _
            rw [getD_snoc, HL.out]
            by_cases e : x = i
            · rw [if_pos e, if_neg (by omega), if_pos e]
            · rw [if_neg e, if_pos (by omega), H1.out x (by omega)]
          · intro x hx hx2
            show (if x = i then (y : Int) else F x) = _
            rw [if_neg (by omega), H2.out x (by omega) hx2]
      · obtain rfl : j = L.length := by omega
        have hcl : ∀ ty, (Builtin.clear_ #[ 29 ] ty #[.slice (some ⟨g, i, none⟩) (L.length - i) (cap - i)]).run Tryd.prog wr = .ok (.tuple #[]) (wr.setCells g i (List.replicate (L.length - i) (.int .i64 0))) := fun ty => run_clear_one wr _ _ ty ins_under Tryd.zeroValue3 g i (L.length - i) (cap - i) (by omega)
          (fun x hx => by rw [(hV (i + x) (by omega)).1]; rfl) (fun x hx => (hV (i + x) (by omega)).2)
        have q1 : i ≤ L.length := by omega
        have q2 : i ≤ cap := by omega
        have q3 : ¬ cap = i := by omega
        have q4 : (i : Int) ≤ (L.length : Int) := by omega
        have q5 : (i : Int) ≤ (cap : Int) := by omega
        have q6 : (0 : Int) ≤ (i : Int) := Int.natCast_nonneg _
        rw [List.take_length] at hlen hF1
        have HL' : Hid _ := hlen
        have H1' : Hid _ := hF1
        clear hV hF1 hF2 hbw hlen
        go_wp2_with fail
        go_ret
        refine ⟨_, cap, g, by rw [HL'.out]; rfl, ⟨fun _ => rfl, fun _ => ?_, fun x hx => ?_, ?_⟩, below_setCells g hgB.out _ _ _ HB.out, fun _ => ⟨hgB.out, F, by rw [HL'.out]; exact ints_setCells _ _ _ (Nat.le_refl _) (fun x hx => HV.out x (by omega))⟩⟩
        · have := below_setCells (w0 := wr) (B := 0) g (Nat.zero_le _) (List.replicate (L.length - i) (.int .i64 0)) i wr (Below.refl _ _)
          exact Nat.lt_of_lt_of_le hgw this.size
        · rw [HL'.out] at hx
          rw [World.cell?_setCells_out g _ _ _ ⟨g, x, none⟩ (fun _ _ => Or.inl (by show x < i; omega)), (HV.out x (by omega)).1, H1'.out x hx]
        · rw [HL'.out]; unfold maxLen; omega
set_option maxRecDepth 100000 in
set_option maxHeartbeats 1000000 in
theorem leavesw_any (base : Option Addr) (b o c : Nat) (t : NL) (w : World) (h : NodesAt w base b o t) (hf : InForm t) (hbig : t.length ≤ 100000) :
    Calls Tryd.prog 28 #[.slice base t.length c] w fun e w' => ∃ a cap g, e = .returned (.slice a (lvL t (theL t 0)).length cap) ∧ PlsAt w' a g (lvL t (theL t 0)) ∧ Below w.heap.size w w' ∧ ((lvL t (theL t 0)).length ≠ 0 → w.heap.size ≤ g ∧ ∃ F, Ints w' g (lvL t (theL t 0)).length F) := by
  obtain ⟨hT, -, hlen⟩ := theL_form hf
  have HT : Hid (Tree _ _ _) := hT
  have HOK : Hid _ := theL_ok hf
  have hpos := hf.pos
  have hl1 : (theL t 0).length ≤ 100000 := by omega
  have HA : Hid _ := h
  obtain rfl : base = some ⟨b, o, none⟩ := HA.out.base (by omega)
  have hbl := HA.out.lt (by omega)
  clear h hf hT hlen
  generalize theL t 0 = X at HT HOK hl1 ⊢
  have HBX : Hid (BoxAt (w.alloc (.cells #[.slice (some ⟨b, o, none⟩) t.length c] 22)) w.heap.size b o c t) := ⟨cell_new _ _ _ 0, by simp, by simp; omega, HA.out.below (below_alloc _ _)⟩
  go_enter Tryd.func28, Tryd.ntmps28
  go_wp2_with (first | (go_at_call 39; refine (order_any _ b o c t 0 X _ HBX.out.nodes HT.out (by omega)).mono ?_; rintro e w3 ⟨v, rfl, ho, hb3⟩; have HO : Hid (World.ownsRow _ _ _ _ _ _ _) := ho; have HB3 : Hid (Below _ _ _) := hb3; have hz3 := hb3.size; simp only [World.size_alloc] at hz3; clear ho hb3) | (go_at_call 41; refine (deletePw_any _ _ w.heap.size b o c t X _ HO.out HB3.out.size (HBX.out.below HB3.out (by simp) (by simp; omega)) (by simp) (by simp; omega) HOK.out).mono ?_; rintro e w4 ⟨a, cap, g, rfl, hp, hb4, hw4⟩; have HP : Hid _ := hp; have HQ : Hid ((lvL t X).length ≠ 0 → w.heap.size ≤ g ∧ ∃ F, Ints w4 g (lvL t X).length F) := (fun q => ⟨Nat.le_trans (by simp) (hw4 q).1, (hw4 q).2⟩); clear hw4; have HB4 : Hid (Below w.heap.size w w4) := (below_alloc w _).trans ((HB3.out.trans hb4).mono (by simp)); clear hp hb4))
  go_ret
  exact ⟨_, _, _, rfl, HP.out, HB4.out, HQ.out⟩

set_option maxRecDepth 100000 in
theorem Leavesw_any (base : Option Addr) (b o c : Nat) (t : NL) (w : World) (h : NodesAt w base b o t) :
    Calls Tryd.prog 9 #[.slice base t.length c] w fun e w' => ∃ a n cp g, e = .returned (.tuple #[.slice a n cp, .int .i64 (formE t)]) ∧ n = (leafL t).length ∧ PlsAt w' a g (leafL t) ∧ Below w.heap.size w w' ∧ ((leafL t).length ≠ 0 → w.heap.size ≤ g ∧ ∃ F, Ints w' g (leafL t).length F) := by
  have HA : Hid _ := h
  clear h
  by_cases he : formE t = 0
  · obtain ⟨hb, hf⟩ := formE_ok he
    have F : Hid (leafL t = lvL t (theL t 0)) := by show leafL t = _; unfold leafL; rw [if_pos he]
    have HE : Hid _ := he
    have HF : Hid _ := hf
    obtain ⟨e1, e2⟩ := e_eq he
    clear he hf
    go_enter Tryd.func9, Tryd.ntmps9
    go_wp2_with (first | (go_at_call 23; refine (check_any _ b o c t _ HA.out).mono ?_; rintro e w1 ⟨rfl, hb1⟩; have HB1 : Hid _ := hb1; clear hb1) | (go_at_call 28; refine (leavesw_any _ b o c t _ (HA.out.below HB1.out) HF.out hb).mono ?_; rintro e w2 ⟨a, cap, g, rfl, hp, hb2, hw2⟩; have HP : Hid _ := hp; have HQ : Hid ((lvL t (theL t 0)).length ≠ 0 → w.heap.size ≤ g ∧ ∃ F, Ints w2 g (lvL t (theL t 0)).length F) := (fun q => ⟨Nat.le_trans HB1.out.size (hw2 q).1, (hw2 q).2⟩); clear hw2; have HB2 : Hid _ := HB1.out.trans (hb2.mono HB1.out.size); clear hp hb2))
    go_ret2
    exact ⟨_, _, _, g, by rw [HE.out]; rfl, by rw [F.out], by rw [F.out]; exact HP.out, HB2.out, by rw [F.out]; exact HQ.out⟩
  · have F : Hid (leafL t = []) := by show leafL t = _; unfold leafL; rw [if_neg he]
    obtain ⟨e1, e2⟩ := e_ne he
    clear he
    go_enter Tryd.func9, Tryd.ntmps9
    go_wp2_with (first | (go_at_call 23; refine (check_any _ b o c t _ HA.out).mono ?_; rintro e w1 ⟨rfl, hb1⟩; have HB1 : Hid _ := hb1; clear hb1))
    go_ret2
    exact ⟨_, _, _, 0, rfl, by rw [F.out]; rfl, by rw [F.out]; exact ⟨fun h => absurd rfl h, fun h => absurd rfl h, fun i hi => by simp at hi, by simp⟩, HB1.out, fun q => absurd (by rw [F.out]; rfl) q⟩

set_option maxRecDepth 100000 in
theorem Parentsw_any (base : Option Addr) (b o c : Nat) (t : NL) (w : World) (h : NodesAt w base b o t) :
    Calls Tryd.prog 11 #[.slice base t.length c] w fun e w' => ∃ a n cp g, e = .returned (.tuple #[.slice a n cp, .int .i64 (formE t)]) ∧ n = (parL t).length ∧ IsAt w' a g (parL t) ∧ Below w.heap.size w w' ∧ ((parL t).length ≠ 0 → w.heap.size ≤ g ∧ ∃ F, Ints w' g (parL t).length F) := by
  have HA : Hid _ := h
  clear h
  by_cases he : formE t = 0
  · obtain ⟨hb, hf⟩ := formE_ok he
    have F : Hid (parL t = upL t) := by show parL t = _; unfold parL; rw [if_pos he]
    have HE : Hid _ := he
    have HF : Hid _ := hf
    obtain ⟨e1, e2⟩ := e_eq he
    clear he hf
    go_enter Tryd.func11, Tryd.ntmps11
    go_wp2_with (first | (go_at_call 23; refine (check_any _ b o c t _ HA.out).mono ?_; rintro e w1 ⟨rfl, hb1⟩; have HB1 : Hid _ := hb1; clear hb1) | (go_at_call 29; refine (parents_any _ b o c t _ (HA.out.below HB1.out) HF.out.pos (by omega) HF.out.good.node).mono ?_; rintro e w2 ⟨g, rfl, hI, hge, hgl, hb2⟩; have HQ : Hid (w.heap.size ≤ g) := Nat.le_trans HB1.out.size hge; clear hge; have HI : Hid (Ints _ _ _ _) := hI; have HB2 : Hid _ := HB1.out.trans (hb2.mono HB1.out.size); have HGL : Hid _ := hgl; clear hI hgl hb2))
    go_ret2
    exact ⟨_, _, _, g, by rw [HE.out]; rfl, by rw [F.out, upL_length], by rw [F.out]; exact HI.out.isAt HGL.out (by unfold maxLen; omega), HB2.out, fun _ => ⟨HQ.out, _, by rw [F.out, upL_length]; exact HI.out⟩⟩
  · have F : Hid (parL t = []) := by show parL t = _; unfold parL; rw [if_neg he]
    obtain ⟨e1, e2⟩ := e_ne he
    clear he
    go_enter Tryd.func11, Tryd.ntmps11
    go_wp2_with (first | (go_at_call 23; refine (check_any _ b o c t _ HA.out).mono ?_; rintro e w1 ⟨rfl, hb1⟩; have HB1 : Hid _ := hb1; clear hb1))
    go_ret2
    exact ⟨_, _, _, 0, rfl, by rw [F.out]; rfl, by rw [F.out]; exact IsAt.none _, HB1.out, fun q => absurd (by rw [F.out]; rfl) q⟩
end Go.Proofs.YtkioahkfjgbgdaaDoor
