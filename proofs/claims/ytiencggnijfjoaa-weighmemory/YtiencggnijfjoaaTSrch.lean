
/- Layer 16: Search of both. -/

import Derived.Test.YtiencggnijfjoaaTUp

namespace Go.Proofs.Ytiencggnijfjoaa

open Go.RowKit

attribute [local go_sem ↓] Go.wp_at_zero Go.wp_at_succ

/-- Does a search go to the left? -/
def goesL (n : NdD) (key : Int) : Prop := n.inf = 1 ∨ key < n.key
instance (n : NdD) (key : Int) : Decidable (goesL n key) := by unfold goesL; exact inferInstance
/-- The places that a search passes from p on. -/
inductive Way (t : NL) (key : Int) : Nat → List Nat → Prop
  | leaf {p : Nat} : p < t.length → (ndAt t p).l = -1 → (ndAt t p).r = -1 → Way t key p [p]
  | inner {p l r q : Nat} {P : List Nat} : p < t.length → (ndAt t p).l = (l : Int) → (ndAt t p).r = (r : Int) → q = (if goesL (ndAt t p) key then l else r) → Way t key q P → Way t key p (p :: P)
theorem Way.det {t : NL} {key : Int} {p : Nat} {P : List Nat} (h : Way t key p P) : ∀ {P' : List Nat}, Way t key p P' → P = P' := by
  induction h with
  | leaf hp hl hr =>
    intro P' h'
    cases h' with
    | leaf => rfl
    | inner _ hl' => omega
  | inner hp hl hr hq _ ih =>
    intro P' h'
    cases h' with
    | leaf _ hl' => omega
    | inner _ hl' hr' hq' h1 =>
      have e1 := hl.symm.trans hl'
      have e2 := hr.symm.trans hr'
      obtain rfl := Int.ofNat.inj e1
      obtain rfl := Int.ofNat.inj e2
      rw [← hq] at hq'
      subst hq'
      rw [ih h1]
theorem way_of {t : NL} {p : Nat} {L : List Nat} (key : Int) (h : Tree t p L) : ∃ P, Way t key p P ∧ P.length ≤ L.length := by
  induction h with
  | leaf hp hl hr => exact ⟨_, Way.leaf hp hl hr, Nat.le_refl _⟩
  | @inner p l r L R hp hl hr _ _ ih1 ih2 =>
    obtain ⟨P1, h1, q1⟩ := ih1
    obtain ⟨P2, h2, q2⟩ := ih2
    by_cases hg : goesL (ndAt t p) key
    · exact ⟨p :: P1, Way.inner hp hl hr (if_pos hg).symm h1, by simp; omega⟩
    · exact ⟨p :: P2, Way.inner hp hl hr (if_neg hg).symm h2, by simp; omega⟩
theorem Way.head {t : NL} {key : Int} {p : Nat} {P : List Nat} (h : Way t key p P) : ∃ P', P = p :: P' := by cases h <;> exact ⟨_, rfl⟩
theorem Way.lt {t : NL} {key : Int} {p : Nat} {P : List Nat} (h : Way t key p P) : p < t.length := by cases h <;> assumption
theorem way_step {t : NL} {key : Int} {p : Nat} {P : List Nat} (h : Way t key p P) : ((ndAt t p).l = -1 ∧ (ndAt t p).r = -1 ∧ P = [p]) ∨ ∃ (l r q : Nat) (P' : List Nat), (ndAt t p).l = (l : Int) ∧ (ndAt t p).r = (r : Int) ∧ q = (if goesL (ndAt t p) key then l else r) ∧ Way t key q P' ∧ P = p :: P' := by
  cases h with
  | leaf hp hl hr => exact Or.inl ⟨hl, hr, rfl⟩
  | inner hp hl hr hq h => exact Or.inr ⟨_, _, _, _, hl, hr, hq, h, rfl⟩
open Classical in
/-- Search's answer. -/
noncomputable def wayL (t : NL) (key : Int) : List Nat := if h : formE t = 0 ∧ ∃ P, Way t key 0 P then Classical.choose h.2 else []
theorem wayL_of {t : NL} {key : Int} {P : List Nat} (he : formE t = 0) (h : Way t key 0 P) : wayL t key = P := by
  have hx : formE t = 0 ∧ ∃ P, Way t key 0 P := ⟨he, P, h⟩
  unfold wayL
  rw [dif_pos hx]
  exact (Classical.choose_spec hx.2).det h
theorem wayL_bad {t : NL} {key : Int} (he : formE t ≠ 0) : wayL t key = [] := by unfold wayL; rw [dif_neg (fun q => he q.1)]

-- WALKS
/-- A row of places that is ours. -/
structure IRow (w0 x : World) (v : Value) (V : List Nat) : Prop where
  own : x.ownsRow w0.heap.size 3 1 v V.length (natC V)
  below : Below w0.heap.size w0 x
theorem IRow.size {w0 x : World} {v : Value} {V : List Nat} (h : IRow w0 x v V) : w0.heap.size ≤ x.heap.size := h.below.size
theorem IRow.quiet {w0 x y : World} {v : Value} {V : List Nat} (h : IRow w0 x v V) (hb : Below x.heap.size x y) : IRow w0 y v V := ⟨owns_below h.own hb, h.below.trans (hb.mono h.size)⟩
theorem IRow.alloc {w0 x : World} {v : Value} {V : List Nat} (h : IRow w0 x v V) (o : Obj) : IRow w0 (x.alloc o) v V := h.quiet (below_alloc _ _)
theorem IRow.grown {w0 x y : World} {v v' : Value} {V : List Nat} {q : Nat} {o : Obj} (h : IRow w0 x v V) (hg : (x.alloc o).grownBy y v.ownBlock) (ho : y.ownsRow w0.heap.size 3 1 v' (V.length + 1) (natC V ++ [.int .i64 (q : Int)])) : IRow w0 y v' (V ++ [q]) :=
  ⟨by rw [List.length_append, natC_snoc]; exact ho, Below.grown (h.below.alloc h.size o) hg (by rw [World.size_alloc]; have := h.size; omega) (fun k q => (owns_lt h.own k q).1)⟩
theorem IRow.len {w0 x : World} {v : Value} {V : List Nat} (h : IRow w0 x v V) : slLen v = V.length := by
  rcases Go.Joins.ownsRow_forms h.own with ⟨rfl, q⟩ | ⟨_, _, rfl⟩
  · rw [q]; rfl
  · rfl

set_option maxRecDepth 100000 in
set_option maxHeartbeats 2000000 in
theorem Search_any (base : Option Addr) (b o c : Nat) (t : NL) (key : Int) (w : World) (h : NodesAt w base b o t) :
    Calls Try.prog 58 #[.slice base t.length c, .int .i64 key] w fun e w' => ∃ v, e = .returned (.tuple #[v, .int .i64 (formE t)]) ∧ w'.ownsRow w.heap.size 3 1 v (wayL t key).length (natC (wayL t key)) ∧ Below w.heap.size w w' := by
  have HA : Hid _ := h
  clear h
  by_cases he : formE t = 0
  · obtain ⟨hbig, hf⟩ := formE_ok he
    obtain ⟨hT, -, hlen⟩ := theL_form hf
    obtain ⟨X, hX, hXl⟩ := way_of key hT
    have F : Hid (wayL t key = X) := wayL_of he hX
    have HX : Hid (Way _ _ _ _) := hX
    have HE : Hid _ := he
    have hX1 : X.length ≤ 100000 := by omega
    have hpos := hf.pos
    obtain ⟨e1, e2⟩ := e_eq he
    obtain rfl : base = some ⟨b, o, none⟩ := HA.out.base (by omega)
    have hbl := HA.out.lt (by omega)
    clear he hf hT hX hXl hlen
    obtain ⟨i0, hi0, hz0, hz1, hz2⟩ := info_parts in_info
    go_enter Try.func58, Try.ntmps58
    go_wp2_with (first | (go_at_call 74; refine (check_any _ b o c t _ HA.out).mono ?_; rintro e w1 ⟨rfl, hb1⟩; have HB1 : Hid _ := hb1; have hw1 := hb1.size; clear hb1))
    go_loopw [7, 8] (fun vp v wr => ∃ (P V R : List Nat) (p : Nat), vp = .int .i64 (p : Int) ∧ P = V ++ [p] ∧ V ++ R = X ∧ Way t key p R ∧ IRow w wr v P) (fun _ v _ => X.length - slLen v)
    case atStart =>
      refine ⟨[0], [], X, 0, rfl, rfl, rfl, HX.out, ?_, HB1.out.alloc HB1.out.size _⟩
      exact owns_down (World.ownsRow_lit w1 #[.int .i64 0] 1 (Nat.le_refl _) (by unfold maxLen; omega) rfl) HB1.out.size
    case round =>
      obtain ⟨P, V, R, p, rfl, hP, hV, hW, hI⟩ := hrel
      have hp := hW.lt
      have hst := way_step hW
      have hVR : V.length + R.length = X.length := by rw [← hV]; simp
      have hPV : P.length ≤ V.length + 1 := by rw [hP]; simp
      have HM : Hid _ := hI.len
      have hbs := hI.size
      have hbr : b < wr.heap.size := by omega
      have HC : Hid (∀ W, Below w.heap.size w W → _) := fun W (hW : Below w.heap.size w W) => (HA.out.below hW).cells p hp
      have T0 : Hid _ := hI
      have s0 : (0 : Int) ≤ (p : Int) := Int.natCast_nonneg _
      have s1 : (p : Int) < (t.length : Int) := by omega
      have HV : Hid _ := hV
      have HP : Hid _ := hP
      clear hW hV hI hP
      rcases hst with ⟨hl, hr, hR⟩ | ⟨l, r, q, P', hl, hr, hq, hW', hR⟩
      · have HLF : Hid _ := leafB_yes (n := ndAt t p) hl hr
        have HF : Hid (P = X) := by show _ = _; rw [← HV.out, hR]; exact HP.out
        clear hl hr hR
        generalize ndAt t p = nd at HC HLF
        obtain ⟨k0, k1, k2, k3, k4, k5⟩ := nd
        simp only at HC
        obtain ⟨c0, c1, c2, c3, c4, c5⟩ := HC.out wr T0.out.below
        go_wp2_with (first | (go_at_call 78; refine (isLeaf_any _ _ _ _ _ _ _).mono ?_; rintro e w3 ⟨rfl, hb3⟩; rw [HLF.out]; have T3 : Hid _ := T0.out.quiet hb3; clear hb3))
        go_ret2
        refine ⟨_, by rw [HE.out]; rfl, ?_, T3.out.below⟩
        rw [F.out, ← HF.out]
        exact T3.out.own
      · have HLF : Hid _ := leafB_no (n := ndAt t p) (by omega)
        have HR : Hid _ := hR
        have HW : Hid (Way _ _ _ _) := hW'
        have hRl : R.length = P'.length + 1 := by rw [hR]; simp
        have hP1 : 0 < P'.length := by obtain ⟨x, hx⟩ := hW'.head; rw [hx]; simp
        clear hR hW'
        generalize ndAt t p = nd at HC HLF hl hr hq
        obtain ⟨k0, k1, k2, k3, k4, k5⟩ := nd
        simp only at HC hl hr
        subst hl hr
        obtain ⟨c0, c1, c2, c3, c4, c5⟩ := HC.out wr T0.out.below
        by_cases g1 : k1 = 1
        · obtain rfl : q = l := by rw [hq, if_pos (show goesL _ _ from Or.inl g1)]
          have d1 : (k1 == 1) = true := by simp [g1]
          clear g1 hq
          go_wp2_with (first | (go_at_call 78; have hq := T0; refine (isLeaf_any _ _ _ _ _ _ _).mono ?_; rintro e w3 ⟨rfl, hb3⟩; rw [HLF.out]; have T3 : Hid _ := T0.out.quiet hb3; have hz3 := T3.out.size; have hb3r := hb3.size; obtain ⟨c0, c1, c2, c3, c4, c5⟩ := HC.out w3 T3.out.below; clear hb3 hq T0) | (at_builtin; have hq := T3; (refine wpList_append_lies _ (by rfl) _ _ _ (by rfl) w.heap.size 3 i0 _ 1 8 ins_under hi0 hz0 hz1 hz2 rfl (by omega) _ P.length _ (by rfl) ((T3.out.own.alloc _).alloc _) ⟨w3.heap.size + 1, 0, none⟩ 1 1 [.int .i64 (q : Int)] (by rfl) (by rfl) (World.news_of_block (cs := #[.int .i64 (q : Int)]) (t := 3) (fr := (0, 0)) (heap_alloc_at _ _ _ (by simp))) (by simp [Value.oneCell']) (by omega) (by unfold maxLen; omega) (by omega) (by have := T3.out.size; simp; omega) (w3.heap.size + 1 + 1) (by simp) ?_); intro g4 c4 w4 ho hg hat hl; have T4 : Hid _ := (T3.out.alloc _).grown (q := q) hg ho; clear ho hg hat hl hq))
          refine ⟨⟨P ++ [q], V ++ [p], P', q, rfl, by rw [HP.out], by rw [← HV.out, HR.out]; simp, HW.out, T4.out⟩, ?_⟩
          have h1 := HM.out; have h2 := T4.out.len; simp only [List.length_append, List.length_singleton, slLen] at h1 h2 ⊢; omega
        · have d1 : (k1 == 1) = false := by simp [g1]
          by_cases g2 : key < k0
          · obtain rfl : q = l := by rw [hq, if_pos (show goesL _ _ from Or.inr g2)]
            have d2 : decide (key < k0) = true := by simp [g2]
            clear g1 hq
            go_wp2_with (first | (go_at_call 78; have hq := T0; refine (isLeaf_any _ _ _ _ _ _ _).mono ?_; rintro e w3 ⟨rfl, hb3⟩; rw [HLF.out]; have T3 : Hid _ := T0.out.quiet hb3; have hz3 := T3.out.size; have hb3r := hb3.size; obtain ⟨c0, c1, c2, c3, c4, c5⟩ := HC.out w3 T3.out.below; clear hb3 hq T0) | (at_builtin; have hq := T3; (refine wpList_append_lies _ (by rfl) _ _ _ (by rfl) w.heap.size 3 i0 _ 1 8 ins_under hi0 hz0 hz1 hz2 rfl (by omega) _ P.length _ (by rfl) ((T3.out.own.alloc _).alloc _) ⟨w3.heap.size + 1, 0, none⟩ 1 1 [.int .i64 (q : Int)] (by rfl) (by rfl) (World.news_of_block (cs := #[.int .i64 (q : Int)]) (t := 3) (fr := (0, 0)) (heap_alloc_at _ _ _ (by simp))) (by simp [Value.oneCell']) (by omega) (by unfold maxLen; omega) (by omega) (by have := T3.out.size; simp; omega) (w3.heap.size + 1 + 1) (by simp) ?_); intro g4 c4 w4 ho hg hat hl; have T4 : Hid _ := (T3.out.alloc _).grown (q := q) hg ho; clear ho hg hat hl hq))
            refine ⟨⟨P ++ [q], V ++ [p], P', q, rfl, by rw [HP.out], by rw [← HV.out, HR.out]; simp, HW.out, T4.out⟩, ?_⟩
            have h1 := HM.out; have h2 := T4.out.len; simp only [List.length_append, List.length_singleton, slLen] at h1 h2 ⊢; omega
          · obtain rfl : q = r := by rw [hq, if_neg (fun h : goesL _ _ => h.elim g1 g2)]
            have d2 : decide (key < k0) = false := by simp [g2]
            have d3 : k0 ≤ key := by omega
            clear g1 hq
            go_wp2_with (first | (go_at_call 78; have hq := T0; refine (isLeaf_any _ _ _ _ _ _ _).mono ?_; rintro e w3 ⟨rfl, hb3⟩; rw [HLF.out]; have T3 : Hid _ := T0.out.quiet hb3; have hz3 := T3.out.size; have hb3r := hb3.size; obtain ⟨c0, c1, c2, c3, c4, c5⟩ := HC.out w3 T3.out.below; clear hb3 hq T0) | (at_builtin; have hq := T3; (refine wpList_append_lies _ (by rfl) _ _ _ (by rfl) w.heap.size 3 i0 _ 1 8 ins_under hi0 hz0 hz1 hz2 rfl (by omega) _ P.length _ (by rfl) ((T3.out.own.alloc _).alloc _) ⟨w3.heap.size + 1, 0, none⟩ 1 1 [.int .i64 (q : Int)] (by rfl) (by rfl) (World.news_of_block (cs := #[.int .i64 (q : Int)]) (t := 3) (fr := (0, 0)) (heap_alloc_at _ _ _ (by simp))) (by simp [Value.oneCell']) (by omega) (by unfold maxLen; omega) (by omega) (by have := T3.out.size; simp; omega) (w3.heap.size + 1 + 1) (by simp) ?_); intro g4 c4 w4 ho hg hat hl; have T4 : Hid _ := (T3.out.alloc _).grown (q := q) hg ho; clear ho hg hat hl hq))
            refine ⟨⟨P ++ [q], V ++ [p], P', q, rfl, by rw [HP.out], by rw [← HV.out, HR.out]; simp, HW.out, T4.out⟩, ?_⟩
            have h1 := HM.out; have h2 := T4.out.len; simp only [List.length_append, List.length_singleton, slLen] at h1 h2 ⊢; omega
  · have F : Hid (wayL t key = []) := wayL_bad he
    obtain ⟨e1, e2⟩ := e_ne he
    clear he
    go_enter Try.func58, Try.ntmps58
    go_wp2_with (first | (go_at_call 74; refine (check_any _ b o c t _ HA.out).mono ?_; rintro e w1 ⟨rfl, hb1⟩; have HB1 : Hid _ := hb1; clear hb1))
    go_ret2
    exact ⟨_, rfl, by rw [F.out]; exact World.ownsRow_nil _ _ _ _, HB1.out⟩

end Go.Proofs.Ytiencggnijfjoaa
