
/- Layer 16: the document's Text. -/

import Derived.Test.YtegajbfefhljmaaDoorTXH

import Derived.Test.YtegajbfefhljmaaDoorTRChk

namespace Go.Proofs.YtegajbfefhljmaaDoor

open Go.RowKit

attribute [local go_sem ↓] Go.wp_at_zero Go.wp_at_succ

theorem TyOwn.grown0 {w0 w w' : World} {B m : Nat} {v v' va : Value} {V X : List UInt8} {A : List Value} (h : TyOwn w0 w B v V va m A) (hg : w.grownBy w' v.ownBlock) (ho : w'.ownsRow B 5 1 v' (V.length + X.length) (Lib.byteCells V ++ Lib.byteCells X)) (hB : B ≤ w.heap.size := by assumption) : TyOwn w0 w' B v' (V ++ X) va m A :=
  ⟨by rw [List.length_append, byteCells_snoc]; exact ho, h.stk.kept hg (own_sep h.stk h.own (by decide)), Below.grown h.below hg hB (fun k q => (owns_lt h.own k q).1)⟩
theorem TyOwn.len {w0 w : World} {B m n n' cp : Nat} {ad : Option Addr} {va : Value} {V : List UInt8} {A : List Value} (h : TyOwn w0 w B (.slice ad n cp) V va m A) (e : n = n') : TyOwn w0 w B (.slice ad n' cp) V va m A := e ▸ h
/-- What is still to be written (the next one first; -1: a blank, -2: a closing sign), and its text. -/
def T2Todo (t : NL) : List Int → List UInt8 → Prop
  | [], R => R = []
  | s :: S, R => ∃ R', T2Todo t S R' ∧ ((s = -1 ∧ R = 32 :: R') ∨ (s = -2 ∧ R = 41 :: R') ∨ ∃ (p : Nat) (x : List UInt8), s = (p : Int) ∧ Txt t p x ∧ R = x ++ R')
theorem t2Todo_length {t : NL} : ∀ {S : List Int} {R : List UInt8}, T2Todo t S R → S.length ≤ R.length
  | [], R, h => by simp
  | s :: S, R, ⟨R', h1, h2⟩ => by
    have ih := t2Todo_length h1
    rcases h2 with ⟨_, rfl⟩ | ⟨_, rfl⟩ | ⟨p, x, _, hx, rfl⟩
    · simp; omega
    · simp; omega
    · have := hx.pos
      simp; omega
theorem t2_step {t : NL} {s : Int} {S : List Int} {R : List UInt8} (h : T2Todo t (s :: S) R) : (s = -1 ∧ ∃ R', R = 32 :: R' ∧ T2Todo t S R') ∨ (s = -2 ∧ ∃ R', R = 41 :: R' ∧ T2Todo t S R') ∨ ∃ p : Nat, s = (p : Int) ∧ p < t.length ∧
    (((ndAt t p).l = -1 ∧ (ndAt t p).r = -1 ∧ ∃ R', R = headL (ndAt t p) ++ (41 :: R') ∧ T2Todo t S R') ∨
     (∃ (l r : Nat) (R' : List UInt8), (ndAt t p).l = (l : Int) ∧ (ndAt t p).r = (r : Int) ∧ R = headL (ndAt t p) ++ R' ∧ T2Todo t (-1 :: (l : Int) :: -1 :: (r : Int) :: -2 :: S) R')) := by
  obtain ⟨R', h1, h2⟩ := h
  rcases h2 with ⟨rfl, rfl⟩ | ⟨rfl, rfl⟩ | ⟨p, x, rfl, hx, rfl⟩
  · exact Or.inl ⟨rfl, R', rfl, h1⟩
  · exact Or.inr (Or.inl ⟨rfl, R', rfl, h1⟩)
  · refine Or.inr (Or.inr ⟨p, rfl, hx.lt, ?_⟩)
    cases hx with
    | leaf hp hl hr => exact Or.inl ⟨hl, hr, R', by simp, h1⟩
    | @inner _ l r x y hp hl hr l1 r1 hx hy =>
      refine Or.inr ⟨l, r, 32 :: (x ++ (32 :: (y ++ (41 :: R')))), hl, hr, by simp, ?_⟩
      exact ⟨_, ⟨_, ⟨_, ⟨_, ⟨R', h1, Or.inr (Or.inl ⟨rfl, rfl⟩)⟩, Or.inr (Or.inr ⟨r, y, rfl, hy, rfl⟩)⟩, Or.inl ⟨rfl, rfl⟩⟩, Or.inr (Or.inr ⟨l, x, rfl, hx, rfl⟩)⟩, Or.inl ⟨rfl, rfl⟩⟩

set_option maxRecDepth 100000 in
set_option maxHeartbeats 4000000 in
theorem rText_any (base : Option Addr) (b o c : Nat) (t : NL) (w : World) (h : NodesAt w base b o t) (hin : NodesIn t) :
    Calls Tryd.prog 5 #[.slice base t.length c] w fun e w' => e = .returned (.tuple #[.string ⟨(textA t).toArray⟩, .int .i64 (formE t)]) ∧ Below w.heap.size w w' := by
  have HA : Hid _ := h
  have HIN : Hid (NodesIn t) := hin
  clear h hin
  by_cases he : formE t = 0
  · obtain ⟨hbig, hf⟩ := formE_ok he
    obtain ⟨hT, -, hlen⟩ := theL_form hf
    obtain ⟨X, hX, hXl⟩ := txt_of hf.good HIN.out hT
    have F : Hid (textA t = X) := textA_of he hX
    have HX : Hid _ := hX
    have HE : Hid _ := he
    have HG : Hid (Good t) := hf.good
    have hX1 : X.length ≤ 8000000 := by omega
    have hpos := hf.pos
    obtain ⟨e1, e2⟩ := e_eq he
    obtain rfl : base = some ⟨b, o, none⟩ := HA.out.base (by omega)
    have hbl := HA.out.lt (by omega)
    clear he hf hT hX hXl hlen
    obtain ⟨i0, hi0, hz0, hz1, hz2⟩ := info_parts by_info
    obtain ⟨j0', hj0, hy0, hy1, hy2⟩ := info_parts in_info
    go_enter Tryd.func5, Tryd.ntmps5
    go_wp2_with (first | (go_at_call 11; refine (rcheck_any _ b o c t _ HA.out).mono ?_; rintro e w1 ⟨rfl, hb1⟩; have HB1 : Hid _ := hb1; have hw1 := hb1.size; clear hb1))
    go_loopw [5, 6] (fun vt va wr => ∃ (V R : List UInt8) (S : List Int), V ++ R = X ∧ T2Todo t S R ∧ TyOwn w wr w.heap.size vt V va S.length (intC S.reverse)) (fun vt _ _ => X.length - slLen vt)
    case atStart =>
      refine ⟨[], X, [0], rfl, ⟨[], rfl, Or.inr (Or.inr ⟨0, X, rfl, HX.out, by simp⟩)⟩, World.ownsRow_nil _ _ _ _, ?_, HB1.out.alloc HB1.out.size _⟩
      exact owns_down (World.ownsRow_lit w1 #[.int .i64 0] 1 (Nat.le_refl _) (by unfold maxLen; omega) rfl) HB1.out.size
    case round =>
      obtain ⟨V, R, S, hV, hS, hT0⟩ := hrel
      cases S with
      | nil =>
        obtain rfl : R = [] := hS
        obtain rfl : V = X := by simpa using hV
        have T0 : Hid (TyOwn _ _ _ _ _ _ _ _) := hT0
        have hp := HX.out.pos
        obtain ⟨gt, ct, rfl, -, -, -, -, hcell, -⟩ := owns_some hT0.own hp
        have hcv := run_convert_bytes_back (P := Tryd.prog) wr 35 9 5 ⟨gt, 0, none⟩ ct V bys_under Tryd.underlying5 str_under (fun j hj => by rw [addr_add', Nat.zero_add, hcell j (by omega)]; simp [Lib.byteCells, hj])
        rcases Go.Joins.ownsRow_forms hT0.stk with ⟨rfl, _⟩ | ⟨ga, ca, rfl⟩
        all_goals
          clear hT0 hcell
          go_wp2_with fail
          go_ret2
          exact ⟨by rw [F.out, HE.out]; rfl, T0.out.below⟩
      | cons s S =>
        have hst := t2_step hS
        have hRl := t2Todo_length hS
        have hVR : V.length + R.length = X.length := by rw [← hV]; simp
        have HM : Hid (slLen u5 = V.length) := own_len hT0.own
        obtain ⟨ga, ca, rfl, hga, hgl, hcap, hcm, hcell, hfr⟩ := owns_some hT0.stk (by simp)
        have htop : wr.cell? ⟨ga, S.length, none⟩ = some (.int .i64 s) := by
          rw [hcell _ (by simp)]
          simp [intC]
        have T0 : Hid (TyOwn w wr w.heap.size _ V (.slice (some ⟨ga, 0, none⟩) S.length ca) S.length (intC S.reverse)) := ⟨hT0.own, by rw [← intC_cut S s]; exact owns_cut hT0.stk S.length (Nat.le_succ _), hT0.below⟩
        have hbs := hT0.below.size
        have hbr : b < wr.heap.size := by omega
        have hn1 : S.length + 1 ≤ 8000000 := by simp at hRl; omega
        have hi1 : ((S.length + 1 : Nat) : Int) - 1 = (S.length : Int) := by omega
        have hVl : V.length ≤ 8000000 := by omega
        have HV : Hid _ := hV
        clear hT0 hS hcell hV
        simp only [List.length_cons] at *
        rcases hst with ⟨rfl, R', hR, hTd⟩ | ⟨rfl, R', hR, hTd⟩ | ⟨p, rfl, hp, hk⟩
        · have HR : Hid _ := hR
          have HTD : Hid (T2Todo _ _ _) := hTd
          have hR1 : R.length = R'.length + 1 := by rw [hR]; simp
          have HR1 : Hid _ := hR1
          clear hR hTd hR1
          go_wp2_with (first | (at_builtin; have q := T0; (refine wpList_append_lies _ (by rfl) _ _ _ (by rfl) w.heap.size 5 i0 _ 1 1 bys_under hi0 hz0 hz1 hz2 rfl (by omega) _ (V).length _ (by rfl) (T0.out.own.alloc _) ⟨wr.heap.size, 0, none⟩ 1 1 [.int .u8 32] (by rfl) (by rfl) (World.news_of_block (cs := #[.int .u8 32]) (t := 5) (fr := (0, 0)) (heap_alloc_at _ _ _ (by simp))) (by simp [Value.oneCell']) (by omega) (by unfold maxLen; first | omega | (simp; omega)) (by first | omega | (simp; omega)) (by have := T0.out.size; simp; omega) (wr.heap.size + 1) (by simp) ?_); intro g4 p4 x4 ho hg hat hl; have T4 : Hid _ := T0.out.grown (X := [32]) T0.out.size hg (by first | exact ho | (simpa [Lib.byteCells] using ho)); have hz4' := T4.out.size; clear ho hg hat hl q))
          refine ⟨⟨V ++ [32], R', S, by rw [← HV.out, HR.out]; simp, HTD.out, T4.out⟩, ?_⟩
          have h1 := HM.out; have h2 := HR1.out; have h3 := own_len T4.out.own; simp [slLen] at h1 h2 h3 ⊢; omega
        · have HR : Hid _ := hR
          have HTD : Hid (T2Todo _ _ _) := hTd
          have hR1 : R.length = R'.length + 1 := by rw [hR]; simp
          have HR1 : Hid _ := hR1
          clear hR hTd hR1
          go_wp2_with (first | (at_builtin; have q := T0; (refine wpList_append_lies _ (by rfl) _ _ _ (by rfl) w.heap.size 5 i0 _ 1 1 bys_under hi0 hz0 hz1 hz2 rfl (by omega) _ (V).length _ (by rfl) (T0.out.own.alloc _) ⟨wr.heap.size, 0, none⟩ 1 1 [.int .u8 41] (by rfl) (by rfl) (World.news_of_block (cs := #[.int .u8 41]) (t := 5) (fr := (0, 0)) (heap_alloc_at _ _ _ (by simp))) (by simp [Value.oneCell']) (by omega) (by unfold maxLen; first | omega | (simp; omega)) (by first | omega | (simp; omega)) (by have := T0.out.size; simp; omega) (wr.heap.size + 1) (by simp) ?_); intro g4 p4 x4 ho hg hat hl; have T4 : Hid _ := T0.out.grown (X := [41]) T0.out.size hg (by first | exact ho | (simpa [Lib.byteCells] using ho)); have hz4' := T4.out.size; clear ho hg hat hl q))
          refine ⟨⟨V ++ [41], R', S, by rw [← HV.out, HR.out]; simp, HTD.out, T4.out⟩, ?_⟩
          have h1 := HM.out; have h2 := HR1.out; have h3 := own_len T4.out.own; simp [slLen] at h1 h2 h3 ⊢; omega
        · have HNO : Hid (NodeOk (ndAt t p) t.length) := HG.out.node p hp
          obtain ⟨n0, n3⟩ := HIN.out p hp
          have n2 := HNO.out.wt64
          have ni : (ndAt t p).inf = 0 ∨ (ndAt t p).inf = 1 := by
            rcases HNO.out.2.1 with q | q
            · exact Or.inl q
            · exact Or.inr q.1
          have s0 : (0 : Int) ≤ (p : Int) := Int.natCast_nonneg _
          have s1 : (p : Int) < (t.length : Int) := by omega
          have pm : ((p : Int) == -1) = false := by simp
          have pm2 : ((p : Int) == -2) = false := beq_eq_false_iff_ne.2 (by omega)
          have HC : Hid (∀ W, Below w.heap.size w W → _) := fun W (hW : Below w.heap.size w W) => (HA.out.below hW).cells p hp
          rcases hk with ⟨hl, hr, R', hR, hTd⟩ | ⟨l, r, R', hl, hr, hR, hTd⟩
          · have HLF : Hid _ := rleafB_yes (n := ndAt t p) hl
            have HRL : Hid (rleafB (ndAt t p) = leafB (ndAt t p)) := by show _ = _; rw [rleafB_yes hl, leafB_yes hl hr]
            have HR : Hid _ := hR
            have HTD : Hid (T2Todo _ _ _) := hTd
            have hR1 : R.length = (headL (ndAt t p)).length + (R'.length + 1) := by rw [hR]; simp
            have HR1 : Hid _ := hR1
            have hH1 := headL_length n0 n2 n3
            have HP := headL_pos (ndAt t p)
            clear hR hTd hR1 hl hr
            generalize ndAt t p = nd at *
            obtain ⟨k0, k1, k2, k3, k4, k5⟩ := nd
            simp only at HC n0 n2 n3 ni
            obtain ⟨c0, c1, c2, c3, c4, c5⟩ := HC.out wr T0.out.below
            have RH : Hid (∀ W, Calls Tryd.prog 13 #[.agg #[.int .i64 k0, .int .i64 k1, .int .i64 k2, .int .i64 k3, .int .i64 k4, .int .i64 k5]] W fun e w' => ∃ v', e = .returned v' ∧ w'.ownsRow W.heap.size 5 1 v' (headL ⟨k0, k1, k2, k3, k4, k5⟩).length (Lib.byteCells (headL ⟨k0, k1, k2, k3, k4, k5⟩)) ∧ Below W.heap.size W w') := fun W => rhead_any _ _ _ _ _ _ W n0 n2 n3 ni HRL.out
            generalize headL ⟨k0, k1, k2, k3, k4, k5⟩ = HDL at *
            clear HRL
            go_wp2_with (first | (go_at_call 12; have q := T0; refine (rLeaf_any _ _ _ _ _ _ _).mono ?_; rintro e y1 ⟨rfl, hby⟩; rw [HLF.out]; have T1 : Hid (TyOwn w y1 w.heap.size _ V _ _ _) := T0.out.quiet T0.out.size hby; clear c0 c1 c2 c3 c4 c5; obtain ⟨c0, c1, c2, c3, c4, c5⟩ := HC.out y1 T1.out.below; have hz1' := T1.out.size; clear hby q T0) | (go_at_call 13; have q := T1; refine (RH.out _).mono ?_; rintro e y2 ⟨v2, rfl, hod, hbd⟩; obtain ⟨gd, cd, rfl, -, -, -, -, -, -⟩ := owns_some hod HP; have T2 : Hid (TyOwn w y2 w.heap.size _ V _ _ _) := T1.out.quiet T1.out.size hbd; have D2 : Hid (World.ownsRow _ _ _ _ _ _ _) := hod; have hz2' := T2.out.size; clear c0 c1 c2 c3 c4 c5; obtain ⟨c0, c1, c2, c3, c4, c5⟩ := HC.out y2 T2.out.below; clear hod hbd q T1) | (at_builtin; have q := T2; (refine wpList_append_lies _ (by rfl) _ _ _ (by rfl) w.heap.size 5 i0 _ 1 1 bys_under hi0 hz0 hz1 hz2 rfl (by omega) _ V.length _ (by rfl) T2.out.own ⟨gd, 0, none⟩ _ cd _ (by rfl) (byC_len _) (byC_news D2.out) (byC_one _) HP (by unfold maxLen; first | omega | (simp; omega)) (by first | omega | (simp; omega)) T2.out.size _ rfl ?_); intro g3 p3 x3 ho hg hat hl; have T3 : Hid (TyOwn w x3 w.heap.size _ (V ++ HDL) _ _ _) := T2.out.grown0 (X := HDL) hg ho; have hz3' := T3.out.size; clear c0 c1 c2 c3 c4 c5; obtain ⟨c0, c1, c2, c3, c4, c5⟩ := HC.out x3 T3.out.below; clear ho hg hat hl q T2 D2) | (at_builtin; have q := T3; (refine wpList_append_lies _ (by rfl) _ _ _ (by rfl) w.heap.size 5 i0 _ 1 1 bys_under hi0 hz0 hz1 hz2 rfl (by omega) _ (V ++ HDL).length _ (by rfl) (T3.out.own.alloc _) ⟨x3.heap.size, 0, none⟩ 1 1 [.int .u8 41] (by rfl) (by rfl) (World.news_of_block (cs := #[.int .u8 41]) (t := 5) (fr := (0, 0)) (heap_alloc_at _ _ _ (by simp))) (by simp [Value.oneCell']) (by omega) (by unfold maxLen; first | omega | (simp; omega)) (by first | omega | (simp; omega)) (by have := T3.out.size; simp; omega) (x3.heap.size + 1) (by simp) ?_); intro g4 p4 x4 ho hg hat hl; have T4 : Hid _ := T3.out.grown (X := [41]) T3.out.size hg (by first | exact ho | (simpa [Lib.byteCells] using ho)); have hz4' := T4.out.size; clear ho hg hat hl q))
            refine ⟨⟨V ++ HDL ++ [41], R', S, by rw [← HV.out, HR.out]; simp, HTD.out, T4.out.len (by simp)⟩, ?_⟩
            have h1 := HM.out; have h2 := HR1.out; have h3 := own_len T4.out.own; simp [slLen] at h1 h2 h3 ⊢; omega
          · have HLF : Hid _ := rleafB_no (n := ndAt t p) (by omega)
            have HRL : Hid (rleafB (ndAt t p) = leafB (ndAt t p)) := by show _ = _; rw [rleafB_no (by omega), leafB_no (by omega)]
            have HR : Hid _ := hR
            have HTD : Hid (T2Todo t (-1 :: (l : Int) :: -1 :: (r : Int) :: -2 :: S) R') := hTd
            have hR1 : R.length = (headL (ndAt t p)).length + R'.length := by rw [hR]; simp
            have HR1 : Hid _ := hR1
            have hH1 := headL_length n0 n2 n3
            have HP := headL_pos (ndAt t p)
            have hS3 : S.length + 5 ≤ 8000000 := by have q : (-1 :: (l : Int) :: -1 :: (r : Int) :: -2 :: S).length ≤ R'.length := t2Todo_length (t := t) HTD.out; simp at q; omega
            clear hR hTd hR1
            generalize ndAt t p = nd at *
            obtain ⟨k0, k1, k2, k3, k4, k5⟩ := nd
            simp only at HC n0 n2 n3 hl hr ni
            subst hl hr
            obtain ⟨c0, c1, c2, c3, c4, c5⟩ := HC.out wr T0.out.below
            have RH : Hid (∀ W, Calls Tryd.prog 13 #[.agg #[.int .i64 k0, .int .i64 k1, .int .i64 k2, .int .i64 k3, .int .i64 (l : Int), .int .i64 (r : Int)]] W fun e w' => ∃ v', e = .returned v' ∧ w'.ownsRow W.heap.size 5 1 v' (headL ⟨k0, k1, k2, k3, (l : Int), (r : Int)⟩).length (Lib.byteCells (headL ⟨k0, k1, k2, k3, (l : Int), (r : Int)⟩)) ∧ Below W.heap.size W w') := fun W => rhead_any _ _ _ _ _ _ W n0 n2 n3 ni HRL.out
            generalize headL ⟨k0, k1, k2, k3, (l : Int), (r : Int)⟩ = HDL at *
            clear HRL
            go_wp2_with (first | (go_at_call 12; have q := T0; refine (rLeaf_any _ _ _ _ _ _ _).mono ?_; rintro e y1 ⟨rfl, hby⟩; rw [HLF.out]; have T1 : Hid (TyOwn w y1 w.heap.size _ V _ _ _) := T0.out.quiet T0.out.size hby; clear c0 c1 c2 c3 c4 c5; obtain ⟨c0, c1, c2, c3, c4, c5⟩ := HC.out y1 T1.out.below; have hz1' := T1.out.size; clear hby q T0) | (go_at_call 13; have q := T1; refine (RH.out _).mono ?_; rintro e y2 ⟨v2, rfl, hod, hbd⟩; obtain ⟨gd, cd, rfl, -, -, -, -, -, -⟩ := owns_some hod HP; have T2 : Hid (TyOwn w y2 w.heap.size _ V _ _ _) := T1.out.quiet T1.out.size hbd; have D2 : Hid (World.ownsRow _ _ _ _ _ _ _) := hod; have hz2' := T2.out.size; clear c0 c1 c2 c3 c4 c5; obtain ⟨c0, c1, c2, c3, c4, c5⟩ := HC.out y2 T2.out.below; clear hod hbd q T1) | (at_builtin; have q := T2; (refine wpList_append_lies _ (by rfl) _ _ _ (by rfl) w.heap.size 5 i0 _ 1 1 bys_under hi0 hz0 hz1 hz2 rfl (by omega) _ V.length _ (by rfl) T2.out.own ⟨gd, 0, none⟩ _ cd _ (by rfl) (byC_len _) (byC_news D2.out) (byC_one _) HP (by unfold maxLen; first | omega | (simp; omega)) (by first | omega | (simp; omega)) T2.out.size _ rfl ?_); intro g3 p3 x3 ho hg hat hl; have T3 : Hid (TyOwn w x3 w.heap.size _ (V ++ HDL) _ _ _) := T2.out.grown0 (X := HDL) hg ho; have hz3' := T3.out.size; clear c0 c1 c2 c3 c4 c5; obtain ⟨c0, c1, c2, c3, c4, c5⟩ := HC.out x3 T3.out.below; clear ho hg hat hl q T2 D2))
            have hb3 : b < x3.heap.size := by omega
            have ag : Value.ownBlock (.slice (some ⟨ga, 0, none⟩) S.length ca) ≠ some b := by intro q; simp [Value.ownBlock] at q; omega
            clear c0 c1 c2 c3
            go_region_held3 (fun w' => w'.cell? ⟨b, o + p * 6 + 4, none⟩ = some (.int .i64 (l : Int)) ∧ w'.cell? ⟨b, o + p * 6 + 5, none⟩ = some (.int .i64 (r : Int)))
              (first
                | go_keep
                | (go_split_ands
                   refine ⟨?_, ?_⟩ <;> (rw [hgrow5.cell_far _ (by simp; omega) (Ne.symm ag)]; assumption)))
              ((refine step_append_lies _ (by rfl) _ _ _ (by rfl) w.heap.size 3 j0' _ 1 8 ins_under hj0 hy0 hy1 hy2 rfl (by omega) _ S.length _ (by rfl) ((T3.out.stk.alloc _).drew) ⟨x3.heap.size, 0, none⟩ 5 5 [.int .i64 (-2), .int .i64 (r : Int), .int .i64 (-1), .int .i64 (l : Int), .int .i64 (-1)] (by rfl) (by rfl) (World.news_of_block (cs := #[.int .i64 (-2), .int .i64 (r : Int), .int .i64 (-1), .int .i64 (l : Int), .int .i64 (-1)]) (t := 3) (fr := (0, 0)) (heap_alloc_at _ _ _ (by simp))) (by simp [Value.oneCell']) (by omega) (by unfold maxLen; omega) (by omega) (by have := T3.out.size; simp; omega) (x3.heap.size + 1) (by simp) ?_; intro g5 c5' w5 hown5 hgrow5 hat5 hlt5))
            have T4 : Hid _ := T3.out.push T3.out.size (undrew hgrow5) hown5
            clear hown5 hgrow5 hat5
            go_wp2_with fail
            refine ⟨⟨V ++ HDL, R', -1 :: (l : Int) :: -1 :: (r : Int) :: -2 :: S, by rw [← HV.out, HR.out]; simp, HTD.out, by simpa [intC] using T4.out⟩, ?_⟩
            have h1 := HM.out; have h2 := HR1.out; have h3 := own_len T4.out.own; simp [slLen] at h1 h2 h3 ⊢; omega
  · have F : Hid (textA t = []) := textA_bad he
    obtain ⟨e1, e2⟩ := e_ne he
    clear he
    go_enter Tryd.func5, Tryd.ntmps5
    go_wp2_with (first | (go_at_call 11; refine (rcheck_any _ b o c t _ HA.out).mono ?_; rintro e w1 ⟨rfl, hb1⟩; have HB1 : Hid _ := hb1; clear hb1))
    go_ret2
    exact ⟨by rw [F.out]; rfl, HB1.out⟩
end Go.Proofs.YtegajbfefhljmaaDoor
