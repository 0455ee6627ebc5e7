/- Layer 16: Norm and Same of both. -/
import Derived.Test.YtjekmkfpakdkeaaDoorTEq
namespace Go.Proofs.YtjekmkfpakdkeaaDoor
open Go.RowKit
attribute [local go_sem ↓] Go.wp_at_zero Go.wp_at_succ

open Classical in
/-- The places of a tree, by its order. -/
noncomputable def theL (t : NL) (p : Nat) : List Nat := if h : ∃ L, Tree t p L then Classical.choose h else []
theorem theL_of {t : NL} {p : Nat} {L : List Nat} (h : Tree t p L) : theL t p = L := by
  have hx : ∃ L, Tree t p L := ⟨L, h⟩
  unfold theL
  rw [dif_pos hx]
  exact (Classical.choose_spec hx).det h
theorem theL_form {t : NL} (h : InForm t) : Tree t 0 (theL t 0) ∧ (theL t 0).Nodup ∧ (theL t 0).length = t.length := by
  obtain ⟨L, h1, h2, h3⟩ := h.tree
  rw [theL_of h1]
  exact ⟨h1, h2, h3⟩
open Classical in
/-- Norm's answer. -/
noncomputable def normL (t : NL) : NL := if formE t = 0 then partL t (theL t 0) else []
theorem normL_ok {t : NL} (h : formE t = 0) : normL t = partL t (theL t 0) := by unfold normL; rw [if_pos h]
theorem normL_bad {t : NL} (h : formE t ≠ 0) : normL t = [] := by unfold normL; rw [if_neg h]
noncomputable def sameE (a b : NL) : Int := if formE a = 0 then formE b else formE a
noncomputable def sameB (a b : NL) : Bool := if formE a = 0 ∧ formE b = 0 then nlEq (normL a) (normL b) else false
theorem e_ne {x : Int} (h : x ≠ 0) : (x != 0) = true ∧ (x == 0) = false := by simp [h]
theorem e_eq {x : Int} (h : x = 0) : (x != 0) = false ∧ (x == 0) = true := by simp [h]

set_option maxRecDepth 100000 in
set_option maxHeartbeats 1000000 in
theorem norm_any (base : Option Addr) (b o c : Nat) (t : NL) (w : World) (h : NodesAt w base b o t) :
    Calls Tryd.prog 16 #[.slice base t.length c] w fun e w' => ∃ v, e = .returned (.tuple #[v, .int .i64 (formE t)]) ∧ w'.ownsRow w.heap.size 54 6 v (normL t).length (ndCells (normL t)) ∧ Below w.heap.size w w' := by
  have HA : Hid _ := h
  clear h
  by_cases he : formE t = 0
  · obtain ⟨hb, hf⟩ := formE_ok he
    obtain ⟨hT, -, hlen⟩ := theL_form hf
    have HT : Hid _ := hT
    have F : Hid _ := normL_ok he
    have HE : Hid _ := he
    obtain ⟨e1, e2⟩ := e_eq he
    clear he hf hT
    go_enter Tryd.func16, Tryd.ntmps16
    go_wp2_with (first | (go_at_call 13; refine (check_any _ b o c t _ HA.out).mono ?_; rintro e w1 ⟨rfl, hb1⟩; have HB1 : Hid _ := hb1; clear hb1) | (go_at_call 53; refine (below_any _ b o c t 0 _ _ (HA.out.below HB1.out) HT.out (by omega) (by omega)).mono ?_; rintro e w2 ⟨v, rfl, hown, hb2⟩))
    go_ret2
    refine ⟨_, by rw [HE.out]; rfl, ?_, HB1.out.trans (hb2.mono HB1.out.size)⟩
    rw [F.out, partL_length]
    exact owns_down hown HB1.out.size
  · have F : Hid _ := normL_bad he
    obtain ⟨e1, e2⟩ := e_ne he
    clear he
    go_enter Tryd.func16, Tryd.ntmps16
    go_wp2_with (first | (go_at_call 13; refine (check_any _ b o c t _ HA.out).mono ?_; rintro e w1 ⟨rfl, hb1⟩; have HB1 : Hid _ := hb1; clear hb1))
    go_ret2
    refine ⟨_, rfl, ?_, HB1.out⟩
    rw [F.out]
    exact World.ownsRow_nil _ _ _ _
set_option maxRecDepth 100000 in
set_option maxHeartbeats 1000000 in
theorem rnorm_any (base : Option Addr) (b o c : Nat) (t : NL) (w : World) (h : NodesAt w base b o t) :
    Calls Tryd.prog 15 #[.slice base t.length c] w fun e w' => ∃ v, e = .returned (.tuple #[v, .int .i64 (formE t)]) ∧ w'.ownsRow w.heap.size 54 6 v (normL t).length (ndCells (normL t)) ∧ Below w.heap.size w w' := by
  have HA : Hid _ := h
  clear h
  by_cases he : formE t = 0
  · obtain ⟨hb, hf⟩ := formE_ok he
    obtain ⟨hT, -, hlen⟩ := theL_form hf
    have HT : Hid _ := hT
    have F : Hid _ := normL_ok he
    have HE : Hid _ := he
    obtain ⟨e1, e2⟩ := e_eq he
    clear he hf hT
    go_enter Tryd.func15, Tryd.ntmps15
    go_wp2_with (first | (go_at_call 14; refine (rcheck_any _ b o c t _ HA.out).mono ?_; rintro e w1 ⟨rfl, hb1⟩; have HB1 : Hid _ := hb1; clear hb1) | (go_at_call 52; refine (rPart_any _ b o c t 0 _ _ (HA.out.below HB1.out) HT.out (by omega) (by omega)).mono ?_; rintro e w2 ⟨v, rfl, hown, hb2⟩))
    go_ret2
    refine ⟨_, by rw [HE.out]; rfl, ?_, HB1.out.trans (hb2.mono HB1.out.size)⟩
    rw [F.out, partL_length]
    exact owns_down hown HB1.out.size
  · have F : Hid _ := normL_bad he
    obtain ⟨e1, e2⟩ := e_ne he
    clear he
    go_enter Tryd.func15, Tryd.ntmps15
    go_wp2_with (first | (go_at_call 14; refine (rcheck_any _ b o c t _ HA.out).mono ?_; rintro e w1 ⟨rfl, hb1⟩; have HB1 : Hid _ := hb1; clear hb1))
    go_ret2
    refine ⟨_, rfl, ?_, HB1.out⟩
    rw [F.out]
    exact World.ownsRow_nil _ _ _ _
set_option maxRecDepth 100000 in
theorem checkBoth_any (ba bb : Option Addr) (ga oa ca gb ob cb : Nat) (a b : NL) (w : World) (ha : NodesAt w ba ga oa a) (hb : NodesAt w bb gb ob b) :
    Calls Tryd.prog 54 #[.slice ba a.length ca, .slice bb b.length cb] w fun e w' => e = .returned (.int .i64 (sameE a b)) ∧ Below w.heap.size w w' := by
  have HA : Hid _ := ha
  have HB : Hid _ := hb
  clear ha hb
  by_cases he : formE a = 0
  · have F : Hid (sameE a b = formE b) := by show sameE a b = _; unfold sameE; rw [if_pos he]
    obtain ⟨e1, e2⟩ := e_eq he
    clear he
    go_enter Tryd.func54, Tryd.ntmps54
    go_wp2_with (first | (go_at_call_of 13 a; refine (check_any _ ga oa ca a _ HA.out).mono ?_; rintro e w1 ⟨rfl, hb1⟩; have HB1 : Hid _ := hb1; clear hb1) | (go_at_call 13; refine (check_any _ gb ob cb b _ (HB.out.below HB1.out)).mono ?_; rintro e w2 ⟨rfl, hb2⟩))
    go_ret
    exact ⟨by rw [F.out]; rfl, HB1.out.trans (hb2.mono HB1.out.size)⟩
  · have F : Hid (sameE a b = formE a) := by show sameE a b = _; unfold sameE; rw [if_neg he]
    obtain ⟨e1, e2⟩ := e_ne he
    clear he
    go_enter Tryd.func54, Tryd.ntmps54
    go_wp2_with (first | (go_at_call 13; refine (check_any _ ga oa ca a _ HA.out).mono ?_; rintro e w1 ⟨rfl, hb1⟩; have HB1 : Hid _ := hb1; clear hb1))
    go_ret
    exact ⟨by rw [F.out]; rfl, HB1.out⟩
set_option maxRecDepth 100000 in
set_option maxHeartbeats 1000000 in
theorem same_any (ba bb : Option Addr) (ga oa ca gb ob cb : Nat) (a b : NL) (w : World) (ha : NodesAt w ba ga oa a) (hb : NodesAt w bb gb ob b) :
    Calls Tryd.prog 19 #[.slice ba a.length ca, .slice bb b.length cb] w fun e w' => e = .returned (.tuple #[.bool (sameB a b), .int .i64 (sameE a b)]) ∧ Below w.heap.size w w' := by
  have HA : Hid _ := ha
  have HB : Hid _ := hb
  clear ha hb
  by_cases hea : formE a = 0
  · by_cases heb : formE b = 0
    · have F : Hid (sameB a b = nlEq (partL a (theL a 0)) (partL b (theL b 0))) := by show sameB a b = _; unfold sameB; rw [if_pos ⟨hea, heb⟩, normL_ok hea, normL_ok heb]
      have HE : Hid (sameE a b = 0) := by show sameE a b = 0; unfold sameE; rw [if_pos hea, heb]
      obtain ⟨ba1, hfa⟩ := formE_ok hea
      obtain ⟨bb1, hfb⟩ := formE_ok heb
      obtain ⟨hTa, -, hlena⟩ := theL_form hfa
      obtain ⟨hTb, -, hlenb⟩ := theL_form hfb
      have HTA : Hid _ := hTa
      have HTB : Hid _ := hTb
      have HLA : Hid _ := hlena
      have HLB : Hid _ := hlenb
      have EA : Hid (formE a = 0) := hea
      have EB : Hid (formE b = 0) := heb
      obtain ⟨e3, e4⟩ := e_eq HE.out
      obtain ⟨e1, e2⟩ := e_eq hea
      obtain ⟨e5, e6⟩ := e_eq heb
      clear hea heb hfa hfb hTa hTb hlena hlenb
      generalize theL a 0 = La at *
      generalize theL b 0 = Lb at *
      have hp1 := HTA.out.pos
      have hp2 := HTB.out.pos
      go_enter Tryd.func19, Tryd.ntmps19
      go_wp2_with (first | (go_at_call 54; refine (checkBoth_any _ _ ga oa ca gb ob cb a b _ HA.out HB.out).mono ?_; rintro e w1 ⟨rfl, hb1⟩; have HC : Hid _ := hb1; clear hb1) | (go_at_call_of 53 a; refine (below_any _ ga oa ca a 0 La _ (HA.out.below HC.out) HTA.out (by have := HLA.out; omega) (by omega)).mono ?_; rintro e w2 ⟨v2, rfl, hown2, hb2⟩; obtain ⟨bs2, c2, g2, rfl, -, -, hn2⟩ := nodes_of_owns (by rw [partL_length]; exact hown2); rw [partL_length]; have H2 : Hid _ := hn2; have HB2 : Hid _ := HC.out.trans (hb2.mono HC.out.size); clear hb2 hown2 hn2) | (go_at_call_of 53 b; refine (below_any _ gb ob cb b 0 Lb _ (HB.out.below HB2.out) HTB.out (by have := HLB.out; omega) (by omega)).mono ?_; rintro e w3 ⟨v3, rfl, hown3, hb3⟩; obtain ⟨bs3, c3, g3, rfl, -, -, hn3⟩ := nodes_of_owns (by rw [partL_length]; exact hown3); rw [partL_length]; have H3 : Hid _ := hn3; have H23 : Hid _ := H2.out.below hb3; have HB3 : Hid _ := HB2.out.trans (hb3.mono HB2.out.size); clear hb3 hown3 hn3) | (go_at_call 55; rw [← partL_length a La, ← partL_length b Lb]; refine (equalN_any _ _ g2 0 c2 g3 0 c3 (partL a La) (partL b Lb) _ H23.out H3.out).mono ?_; rintro e w4 ⟨rfl, hb4⟩; have HB4 : Hid _ := HB3.out.trans (hb4.mono HB3.out.size); clear hb4))
      go_ret2
      exact ⟨by rw [F.out, HE.out]; rfl, HB4.out⟩
    · have F : Hid (sameB a b = false) := by show sameB a b = _; unfold sameB; rw [if_neg (fun q => heb q.2)]
      have HE : Hid (sameE a b = formE b) := by show sameE a b = _; unfold sameE; rw [if_pos hea]
      have HN : sameE a b ≠ 0 := by rw [HE.out]; exact heb
      obtain ⟨e3, e4⟩ := e_ne HN
      obtain ⟨e1, e2⟩ := e_eq hea
      obtain ⟨e5, e6⟩ := e_ne heb
      clear hea heb HN
      go_enter Tryd.func19, Tryd.ntmps19
      go_wp2_with (first | (go_at_call 54; refine (checkBoth_any _ _ ga oa ca gb ob cb a b _ HA.out HB.out).mono ?_; rintro e w1 ⟨rfl, hb1⟩; have HC : Hid _ := hb1; clear hb1))
      go_ret2
      exact ⟨by rw [F.out]; first | rfl | (rw [HE.out]; rfl), HC.out⟩
  · have F : Hid (sameB a b = false) := by show sameB a b = _; unfold sameB; rw [if_neg (fun q => hea q.1)]
    have HE : Hid (sameE a b = formE a) := by show sameE a b = _; unfold sameE; rw [if_neg hea]
    have HN : sameE a b ≠ 0 := by rw [HE.out]; exact hea
    obtain ⟨e3, e4⟩ := e_ne HN
    obtain ⟨e1, e2⟩ := e_ne hea
    clear hea HN
    go_enter Tryd.func19, Tryd.ntmps19
    go_wp2_with (first | (go_at_call 54; refine (checkBoth_any _ _ ga oa ca gb ob cb a b _ HA.out HB.out).mono ?_; rintro e w1 ⟨rfl, hb1⟩; have HC : Hid _ := hb1; clear hb1))
    go_ret2
    exact ⟨by rw [F.out]; first | rfl | (rw [HE.out]; rfl), HC.out⟩
set_option maxRecDepth 100000 in
set_option maxHeartbeats 1000000 in
theorem rsame_any (ba bb : Option Addr) (ga oa ca gb ob cb : Nat) (a b : NL) (w : World) (ha : NodesAt w ba ga oa a) (hb : NodesAt w bb gb ob b) :
    Calls Tryd.prog 18 #[.slice ba a.length ca, .slice bb b.length cb] w fun e w' => e = .returned (.tuple #[.bool (sameB a b), .int .i64 (sameE a b)]) ∧ Below w.heap.size w w' := by
  have HA : Hid _ := ha
  have HB : Hid _ := hb
  clear ha hb
  by_cases hea : formE a = 0
  · by_cases heb : formE b = 0
    · have F : Hid (sameB a b = nlEq (partL a (theL a 0)) (partL b (theL b 0))) := by show sameB a b = _; unfold sameB; rw [if_pos ⟨hea, heb⟩, normL_ok hea, normL_ok heb]
      have HE : Hid (sameE a b = 0) := by show sameE a b = 0; unfold sameE; rw [if_pos hea, heb]
      obtain ⟨ba1, hfa⟩ := formE_ok hea
      obtain ⟨bb1, hfb⟩ := formE_ok heb
      obtain ⟨hTa, -, hlena⟩ := theL_form hfa
      obtain ⟨hTb, -, hlenb⟩ := theL_form hfb
      have HTA : Hid _ := hTa
      have HTB : Hid _ := hTb
      have HLA : Hid _ := hlena
      have HLB : Hid _ := hlenb
      have EA : Hid (formE a = 0) := hea
      have EB : Hid (formE b = 0) := heb
      obtain ⟨e3, e4⟩ := e_eq HE.out
      obtain ⟨e1, e2⟩ := e_eq hea
      obtain ⟨e5, e6⟩ := e_eq heb
      clear hea heb hfa hfb hTa hTb hlena hlenb
      generalize theL a 0 = La at *
      generalize theL b 0 = Lb at *
      have hp1 := HTA.out.pos
      have hp2 := HTB.out.pos
      go_enter Tryd.func18, Tryd.ntmps18
      go_wp2_with (first | (go_at_call_of 14 a; refine (rcheck_any _ ga oa ca a _ HA.out).mono ?_; rintro e w0 ⟨rfl, hb0⟩; have HC : Hid _ := hb0; clear hb0) | (go_at_call_of 14 b; refine (rcheck_any _ gb ob cb b _ (HB.out.below HC.out)).mono ?_; rintro e w1 ⟨rfl, hb1⟩; have HC0 := HC; clear HC; have HC : Hid _ := HC0.out.trans (hb1.mono HC0.out.size); clear hb1) | (go_at_call_of 52 a; refine (rPart_any _ ga oa ca a 0 La _ (HA.out.below HC.out) HTA.out (by have := HLA.out; omega) (by omega)).mono ?_; rintro e w2 ⟨v2, rfl, hown2, hb2⟩; obtain ⟨bs2, c2, g2, rfl, -, -, hn2⟩ := nodes_of_owns (by rw [partL_length]; exact hown2); rw [partL_length]; have H2 : Hid _ := hn2; have HB2 : Hid _ := HC.out.trans (hb2.mono HC.out.size); clear hb2 hown2 hn2) | (go_at_call_of 52 b; refine (rPart_any _ gb ob cb b 0 Lb _ (HB.out.below HB2.out) HTB.out (by have := HLB.out; omega) (by omega)).mono ?_; rintro e w3 ⟨v3, rfl, hown3, hb3⟩; obtain ⟨bs3, c3, g3, rfl, -, -, hn3⟩ := nodes_of_owns (by rw [partL_length]; exact hown3); rw [partL_length]; have H3 : Hid _ := hn3; have H23 : Hid _ := H2.out.below hb3; have HB3 : Hid _ := HB2.out.trans (hb3.mono HB2.out.size); clear hb3 hown3 hn3) | (go_at_call 17; rw [← partL_length a La, ← partL_length b Lb]; refine (rEqual_any _ _ g2 0 c2 g3 0 c3 (partL a La) (partL b Lb) _ H23.out H3.out).mono ?_; rintro e w4 ⟨rfl, hb4⟩; have HB4 : Hid _ := HB3.out.trans (hb4.mono HB3.out.size); clear hb4))
      go_ret2
      exact ⟨by rw [F.out, HE.out]; rfl, HB4.out⟩
    · have F : Hid (sameB a b = false) := by show sameB a b = _; unfold sameB; rw [if_neg (fun q => heb q.2)]
      have HE : Hid (sameE a b = formE b) := by show sameE a b = _; unfold sameE; rw [if_pos hea]
      have HN : sameE a b ≠ 0 := by rw [HE.out]; exact heb
      obtain ⟨e3, e4⟩ := e_ne HN
      obtain ⟨e1, e2⟩ := e_eq hea
      obtain ⟨e5, e6⟩ := e_ne heb
      clear hea heb HN
      go_enter Tryd.func18, Tryd.ntmps18
      go_wp2_with (first | (go_at_call_of 14 a; refine (rcheck_any _ ga oa ca a _ HA.out).mono ?_; rintro e w0 ⟨rfl, hb0⟩; have HC : Hid _ := hb0; clear hb0) | (go_at_call_of 14 b; refine (rcheck_any _ gb ob cb b _ (HB.out.below HC.out)).mono ?_; rintro e w1 ⟨rfl, hb1⟩; have HC0 := HC; clear HC; have HC : Hid _ := HC0.out.trans (hb1.mono HC0.out.size); clear hb1))
      go_ret2
      exact ⟨by rw [F.out]; first | rfl | (rw [HE.out]; rfl), HC.out⟩
  · have F : Hid (sameB a b = false) := by show sameB a b = _; unfold sameB; rw [if_neg (fun q => hea q.1)]
    have HE : Hid (sameE a b = formE a) := by show sameE a b = _; unfold sameE; rw [if_neg hea]
    have HN : sameE a b ≠ 0 := by rw [HE.out]; exact hea
    obtain ⟨e3, e4⟩ := e_ne HN
    obtain ⟨e1, e2⟩ := e_ne hea
    clear hea HN
    go_enter Tryd.func18, Tryd.ntmps18
    go_wp2_with (first | (go_at_call_of 14 a; refine (rcheck_any _ ga oa ca a _ HA.out).mono ?_; rintro e w0 ⟨rfl, hb0⟩; have HC : Hid _ := hb0; clear hb0))
    go_ret2
    exact ⟨by rw [F.out]; first | rfl | (rw [HE.out]; rfl), HC.out⟩
end Go.Proofs.YtjekmkfpakdkeaaDoor
