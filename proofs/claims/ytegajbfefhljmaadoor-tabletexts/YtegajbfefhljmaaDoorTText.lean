
/- Layer 16: a table's text: Text. -/

import Derived.Test.YtegajbfefhljmaaDoorTHead

namespace Go.Proofs.YtegajbfefhljmaaDoor

open Go.RowKit

attribute [local go_sem ↓] Go.wp_at_zero Go.wp_at_succ

/-- The text of the tree at a place. -/
inductive Txt (t : NL) : Nat → List UInt8 → Prop
  | leaf {p : Nat} : p < t.length → (ndAt t p).l = -1 → (ndAt t p).r = -1 → Txt t p (headL (ndAt t p) ++ [41])
  | inner {p l r : Nat} {x y : List UInt8} : p < t.length → (ndAt t p).l = (l : Int) → (ndAt t p).r = (r : Int) → 1 ≤ l → 1 ≤ r → Txt t l x → Txt t r y → Txt t p (headL (ndAt t p) ++ (32 :: (x ++ (32 :: (y ++ [41])))))
theorem Txt.det {t : NL} {p : Nat} {x : List UInt8} (h : Txt t p x) : ∀ {x' : List UInt8}, Txt t p x' → x = x' := by
  induction h with
  | leaf hp hl hr =>
    intro x' h'
    cases h' with
    | leaf => rfl
    | inner _ hl' => omega
  | inner hp hl hr _ _ _ _ ih1 ih2 =>
    intro x' h'
    cases h' with
    | leaf _ hl' => omega
    | inner _ hl' hr' _ _ h1 h2 =>
      have e1 := hl.symm.trans hl'
      have e2 := hr.symm.trans hr'
      obtain rfl := Int.ofNat.inj e1
      obtain rfl := Int.ofNat.inj e2
      rw [ih1 h1, ih2 h2]
theorem NodeOk.wt64 {n : NdD} {m : Int} (h : NodeOk n m) : In64 n.wt := by
  have h1 := h.2.2.1
  have h2 := h.2.2.2
  exact ⟨by omega, by omega⟩
theorem txt_of {t : NL} (hg : Good t) (hin : NodesIn t) {p : Nat} {L : List Nat} (h : Tree t p L) : ∃ x, Txt t p x ∧ x.length ≤ 80 * L.length := by
  have hh : ∀ i, i < t.length → (headL (ndAt t i)).length ≤ 66 := fun i hi => headL_length (hin i hi).1 (hg.node i hi).wt64 (hin i hi).2
  induction h with
  | leaf hp hl hr => exact ⟨_, Txt.leaf hp hl hr, by have := hh _ hp; simp; omega⟩
  | inner hp hl hr _ _ ih1 ih2 =>
    obtain ⟨x, hx, lx⟩ := ih1
    obtain ⟨y, hy, ly⟩ := ih2
    have ho := (hg.node _ hp).1
    exact ⟨_, Txt.inner hp hl hr (by omega) (by omega) hx hy, by have := hh _ hp; simp; omega⟩
/-- What is still to be written (the next one first; -1: a closing sign), and its text. -/
def blkL (p : Nat) : List UInt8 := if p = 0 then [] else [32]
def TxTodo (t : NL) : List Int → List UInt8 → Prop
  | [], R => R = []
  | s :: S, R => ∃ R', TxTodo t S R' ∧ ((s = -1 ∧ R = 41 :: R') ∨ ∃ (p : Nat) (x : List UInt8), s = (p : Int) ∧ Txt t p x ∧ R = blkL p ++ (x ++ R'))
theorem headL_pos (n : NdD) : 0 < (headL n).length := by simp [headL]
theorem Txt.lt {t : NL} {p : Nat} {x : List UInt8} (h : Txt t p x) : p < t.length := by cases h <;> assumption
theorem Txt.pos {t : NL} {p : Nat} {x : List UInt8} (h : Txt t p x) : 0 < x.length := by
  cases h with
  | leaf => simp
  | inner => simp; omega
theorem txTodo_length {t : NL} : ∀ {S : List Int} {R : List UInt8}, TxTodo t S R → S.length ≤ R.length
  | [], R, h => by simp
  | s :: S, R, ⟨R', h1, h2⟩ => by
    have ih := txTodo_length h1
    rcases h2 with ⟨_, rfl⟩ | ⟨p, x, _, hx, rfl⟩
    · simp; omega
    · have := hx.pos
      simp; omega
theorem tx_step {t : NL} {s : Int} {S : List Int} {R : List UInt8} (h : TxTodo t (s :: S) R) : (s = -1 ∧ ∃ R', R = 41 :: R' ∧ TxTodo t S R') ∨ ∃ p : Nat, s = (p : Int) ∧ p < t.length ∧
    (((ndAt t p).l = -1 ∧ (ndAt t p).r = -1 ∧ ∃ R', R = blkL p ++ (headL (ndAt t p) ++ (41 :: R')) ∧ TxTodo t S R') ∨
     (∃ (l r : Nat) (R' : List UInt8), (ndAt t p).l = (l : Int) ∧ (ndAt t p).r = (r : Int) ∧ R = blkL p ++ (headL (ndAt t p) ++ R') ∧ TxTodo t ((l : Int) :: (r : Int) :: -1 :: S) R')) := by
  obtain ⟨R', h1, h2⟩ := h
  rcases h2 with ⟨rfl, rfl⟩ | ⟨p, x, rfl, hx, rfl⟩
  · exact Or.inl ⟨rfl, R', rfl, h1⟩
  · refine Or.inr ⟨p, rfl, hx.lt, ?_⟩
    cases hx with
    | leaf hp hl hr => exact Or.inl ⟨hl, hr, R', by simp, h1⟩
    | @inner _ l r x y hp hl hr l1 r1 hx hy =>
      refine Or.inr ⟨l, r, 32 :: (x ++ (32 :: (y ++ (41 :: R')))), hl, hr, by simp, ?_⟩
      refine ⟨32 :: (y ++ (41 :: R')), ⟨41 :: R', ⟨R', h1, Or.inl ⟨rfl, rfl⟩⟩, Or.inr ⟨r, y, rfl, hy, ?_⟩⟩, Or.inr ⟨l, x, rfl, hx, ?_⟩⟩
      · unfold blkL; rw [if_neg (by omega)]; simp
      · unfold blkL; rw [if_neg (by omega)]; simp

def intC (L : List Int) : List Value := L.map (fun x : Int => Value.int .i64 x)
theorem intC_cut (S : List Int) (s : Int) : (intC (s :: S).reverse).take (S.length * 1) = intC S.reverse := by
  rw [List.reverse_cons, show intC (S.reverse ++ [s]) = intC S.reverse ++ intC [s] by simp [intC], Nat.mul_one, List.take_append_of_le_length (by simp [intC]), List.take_of_length_le (by simp [intC])]
theorem own_len {w : World} {B sz n : Nat} {e : TypeId} {v : Value} {xs : List Value} (h : w.ownsRow B e sz v n xs) : slLen v = n := by
  rcases Go.Joins.ownsRow_forms h with ⟨rfl, q⟩ | ⟨_, _, rfl⟩
  · rw [q]; rfl
  · rfl
theorem own_sep {w : World} {B B' sz sz' n n' : Nat} {e e' : TypeId} {v v' : Value} {xs xs' : List Value} (h : w.ownsRow B e sz v n xs) (h' : w.ownsRow B' e' sz' v' n' xs') (he : e ≠ e') : v.ownBlock = none ∨ v.ownBlock ≠ v'.ownBlock := by
  cases hv : v.ownBlock with
  | none => exact Or.inl rfl
  | some g =>
    refine Or.inr (fun q => ?_)
    obtain ⟨c, f, h1⟩ := own_kind h g hv
    obtain ⟨c', f', h2⟩ := own_kind h' g q.symm
    rw [h1] at h2
    have := Option.some.inj h2
    injection this with _ h3 _
    exact he h3
theorem owns_kept {w w' : World} {B sz n : Nat} {e : TypeId} {v : Value} {xs : List Value} (h : w.ownsRow B e sz v n xs) (hk : Lib.OthersKept 5 none w w') (he : e ≠ 5) : w'.ownsRow B e sz v n xs := by
  obtain ⟨h0, h⟩ := h
  rcases h with h | ⟨g, cap, cur, hv, hg, hh, r⟩
  · exact ⟨h0, Or.inl h⟩
  · exact ⟨h0, Or.inr ⟨g, cap, cur, hv, hg, hk g _ hh (by simp) (by intro c fz q; injection q with _ q2 _; exact he q2), r⟩⟩
/-- The text so far and the row of what is to be written. -/
structure TyOwn (w0 w : World) (B : Nat) (v : Value) (V : List UInt8) (va : Value) (m : Nat) (A : List Value) : Prop where
  own : w.ownsRow B 5 1 v V.length (Lib.byteCells V)
  stk : w.ownsRow B 3 1 va m A
  below : Below B w0 w
theorem TyOwn.grown {w0 w w' : World} {B m : Nat} {v v' va : Value} {V X : List UInt8} {A : List Value} {o : Obj} (h : TyOwn w0 w B v V va m A) (hB : B ≤ w.heap.size) (hg : (w.alloc o).grownBy w' v.ownBlock) (ho : w'.ownsRow B 5 1 v' (V.length + X.length) (Lib.byteCells V ++ Lib.byteCells X)) : TyOwn w0 w' B v' (V ++ X) va m A :=
  ⟨by rw [List.length_append, byteCells_snoc]; exact ho, (h.stk.alloc o).kept hg (own_sep h.stk h.own (by decide)), Below.grown (h.below.alloc hB o) hg (by rw [World.size_alloc]; omega) (fun k q => (owns_lt h.own k q).1)⟩
theorem TyOwn.push {w0 w w' : World} {B m m' : Nat} {v va va' : Value} {V : List UInt8} {A A' : List Value} {o : Obj} (h : TyOwn w0 w B v V va m A) (hB : B ≤ w.heap.size) (hg : (w.alloc o).grownBy w' va.ownBlock) (ho : w'.ownsRow B 3 1 va' m' A') : TyOwn w0 w' B v V va' m' A' :=
  ⟨(h.own.alloc o).kept hg (own_sep h.own h.stk (by decide)), ho, Below.grown (h.below.alloc hB o) hg (by rw [World.size_alloc]; omega) (fun k q => (owns_lt h.stk k q).1)⟩
theorem TyOwn.quiet {w0 w w' : World} {B m : Nat} {v va : Value} {V : List UInt8} {A : List Value} (h : TyOwn w0 w B v V va m A) (hB : B ≤ w.heap.size) (hb : Below w.heap.size w w') : TyOwn w0 w' B v V va m A :=
  ⟨owns_below h.own hb, owns_below h.stk hb, h.below.trans (hb.mono hB)⟩
theorem TyOwn.call {w0 w w' : World} {B m : Nat} {v v' va : Value} {V V' : List UInt8} {A : List Value} (h : TyOwn w0 w B v V va m A) (ho : w'.ownsRow B 5 1 v' V'.length (Lib.byteCells V')) (hb : Below B w w') (hk : Lib.OthersKept 5 none w w') : TyOwn w0 w' B v' V' va m A :=
  ⟨ho, owns_kept h.stk hk (by decide), h.below.trans hb⟩
theorem TyOwn.size {w0 w : World} {B m : Nat} {v va : Value} {V : List UInt8} {A : List Value} (h : TyOwn w0 w B v V va m A) : w0.heap.size ≤ w.heap.size := h.below.size

open Classical in
noncomputable def textA (t : NL) : List UInt8 := if h : formE t = 0 ∧ ∃ x, Txt t 0 x then Classical.choose h.2 else []
theorem textA_of {t : NL} {x : List UInt8} (he : formE t = 0) (h : Txt t 0 x) : textA t = x := by
  have hx : formE t = 0 ∧ ∃ x, Txt t 0 x := ⟨he, x, h⟩
  unfold textA
  rw [dif_pos hx]
  exact (Classical.choose_spec hx.2).det h
theorem textA_bad {t : NL} (he : formE t ≠ 0) : textA t = [] := by unfold textA; rw [dif_neg (fun q => he q.1)]

set_option maxRecDepth 100000 in
set_option maxHeartbeats 4000000 in
theorem text_any (base : Option Addr) (b o c : Nat) (t : NL) (w : World) (h : NodesAt w base b o t) (hin : NodesIn t) (htab : TabB w.heap.size w) :
    Calls Tryd.prog 6 #[.slice base t.length c] w fun e w' => e = .returned (.tuple #[.string ⟨(textA t).toArray⟩, .int .i64 (formE t)]) ∧ Below w.heap.size w w' := by
  have HA : Hid _ := h
  have HTab : Hid (TabB w.heap.size w) := htab
  have HIN : Hid (NodesIn t) := hin
  clear h htab hin
  by_cases he : formE t = 0
  · obtain ⟨hbig, hf⟩ := formE_ok he
    obtain ⟨hT, -, hlen⟩ := theL_form hf
    obtain ⟨X, hX, hXl⟩ := txt_of hf.good HIN.out hT
    have F : Hid (textA t = X) := textA_of he hX
    have HX : Hid _ := hX
    have HE : Hid _ := he
    have HG : Hid (Good t) := hf.good
    have hX1 : X.length ≤ 8000000 := by omega
    have hpos := hf.pos
    obtain ⟨e1, e2⟩ := e_eq he
    obtain rfl : base = some ⟨b, o, none⟩ := HA.out.base (by omega)
    have hbl := HA.out.lt (by omega)
    clear he hf hT hX hXl hlen
    obtain ⟨i0, hi0, hz0, hz1, hz2⟩ := info_parts by_info
    obtain ⟨j0', hj0, hy0, hy1, hy2⟩ := info_parts in_info
    go_enter Tryd.func6, Tryd.ntmps6
    go_wp2_with (first | (go_at_call 14; refine (check_any _ b o c t _ HA.out).mono ?_; rintro e w1 ⟨rfl, hb1⟩; have HB1 : Hid _ := hb1; have hw1 := hb1.size; clear hb1))
    go_loopw [5, 6] (fun vt va wr => ∃ (V R : List UInt8) (S : List Int), V ++ R = X ∧ TxTodo t S R ∧ TyOwn w wr w.heap.size vt V va S.length (intC S.reverse)) (fun vt _ _ => X.length - slLen vt)
    case atStart =>
      refine ⟨[], X, [0], rfl, ⟨[], rfl, Or.inr ⟨0, X, rfl, HX.out, by simp [blkL]⟩⟩, World.ownsRow_nil _ _ _ _, ?_, HB1.out.alloc HB1.out.size _⟩
      exact owns_down (World.ownsRow_lit w1 #[.int .i64 0] 1 (Nat.le_refl _) (by unfold maxLen; omega) rfl) HB1.out.size
    case round =>
      obtain ⟨V, R, S, hV, hS, hT0⟩ := hrel
      cases S with
      | nil =>
        obtain rfl : R = [] := hS
        obtain rfl : V = X := by simpa using hV
        have T0 : Hid (TyOwn _ _ _ _ _ _ _ _) := hT0
        have hp := HX.out.pos
        obtain ⟨gt, ct, rfl, -, -, -, -, hcell, -⟩ := owns_some hT0.own hp
        have hcv := run_convert_bytes_back (P := Tryd.prog) wr 35 9 5 ⟨gt, 0, none⟩ ct V bys_under Tryd.underlying5 str_under (fun j hj => by rw [addr_add', Nat.zero_add, hcell j (by omega)]; simp [Lib.byteCells, hj])
        rcases Go.Joins.ownsRow_forms hT0.stk with ⟨rfl, _⟩ | ⟨ga, ca, rfl⟩
        all_goals
          clear hT0 hcell
          go_wp2_with fail
          go_ret2
          exact ⟨by rw [F.out, HE.out]; rfl, T0.out.below⟩
      | cons s S =>
        have hst := tx_step hS
        have hRl := txTodo_length hS
        have hVR : V.length + R.length = X.length := by rw [← hV]; simp
        have HM : Hid (slLen u5 = V.length) := own_len hT0.own
        obtain ⟨ga, ca, rfl, hga, hgl, hcap, hcm, hcell, hfr⟩ := owns_some hT0.stk (by simp)
        have htop : wr.cell? ⟨ga, S.length, none⟩ = some (.int .i64 s) := by
          rw [hcell _ (by simp)]
          simp [intC]
        have T0 : Hid (TyOwn w wr w.heap.size _ V (.slice (some ⟨ga, 0, none⟩) S.length ca) S.length (intC S.reverse)) := ⟨hT0.own, by rw [← intC_cut S s]; exact owns_cut hT0.stk S.length (Nat.le_succ _), hT0.below⟩
        have hbs := hT0.below.size
        have hbr : b < wr.heap.size := by omega
        have hn1 : S.length + 1 ≤ 8000000 := by simp at hRl; omega
        have hi1 : ((S.length + 1 : Nat) : Int) - 1 = (S.length : Int) := by omega
        have hVl : V.length ≤ 8000000 := by omega
        have HV : Hid _ := hV
        clear hT0 hS hcell hV
        simp only [List.length_cons] at *
        rcases hst with ⟨rfl, R', hR, hTd⟩ | ⟨p, rfl, hp, hk⟩
        · have HR : Hid _ := hR
          have HTD : Hid (TxTodo _ _ _) := hTd
          have hR1 : R.length = R'.length + 1 := by rw [hR]; simp
          have HR1 : Hid _ := hR1
          clear hR hTd hR1
          go_wp2_with (first | (at_builtin; have q := T0; (refine wpList_append_lies _ (by rfl) _ _ _ (by rfl) w.heap.size 5 i0 _ 1 1 bys_under hi0 hz0 hz1 hz2 rfl (by omega) _ V.length _ (by rfl) (T0.out.own.alloc _) ⟨wr.heap.size, 0, none⟩ 1 1 [.int .u8 41] (by rfl) (by rfl) (World.news_of_block (cs := #[.int .u8 41]) (t := 5) (fr := (0, 0)) (heap_alloc_at _ _ _ (by simp))) (by simp [Value.oneCell']) (by omega) (by unfold maxLen; first | omega | (simp; omega)) (by first | omega | (simp; omega)) (by have := T0.out.size; simp; omega) (wr.heap.size + 1) (by simp) ?_); intro g4 p4 x4 ho hg hat hl; have T4 : Hid _ := T0.out.grown (X := [41]) T0.out.size hg (by simpa [Lib.byteCells] using ho); have hz4' := T4.out.size; clear ho hg hat hl q))
          refine ⟨⟨V ++ [41], R', S, by rw [← HV.out, HR.out]; simp, HTD.out, T4.out⟩, ?_⟩
          have h1 := HM.out; have h2 := HR1.out; have h3 := own_len T4.out.own; simp [slLen] at h1 h2 h3 ⊢; omega
        · have HNO : Hid (NodeOk (ndAt t p) t.length) := HG.out.node p hp
          obtain ⟨n0, n3⟩ := HIN.out p hp
          have n2 := HNO.out.wt64
          have s0 : (0 : Int) ≤ (p : Int) := Int.natCast_nonneg _
          have s1 : (p : Int) < (t.length : Int) := by omega
          have pm : ((p : Int) == -1) = false := by simp
          have HC : Hid (∀ W, Below w.heap.size w W → _) := fun W (hW : Below w.heap.size w W) => (HA.out.below hW).cells p hp
          rcases hk with ⟨hl, hr, R', hR, hTd⟩ | ⟨l, r, R', hl, hr, hR, hTd⟩
          · have HLF : Hid _ := leafB_yes (n := ndAt t p) hl hr
            have HR : Hid _ := hR
            have HTD : Hid (TxTodo _ _ _) := hTd
            have hR1 : R.length = (blkL p).length + ((headL (ndAt t p)).length + (R'.length + 1)) := by rw [hR]; simp
            have HR1 : Hid _ := hR1
            have hH1 := headL_length n0 n2 n3
            have HP := headL_pos (ndAt t p)
            clear hR hTd hR1 hl hr
            generalize ndAt t p = nd at *
            obtain ⟨k0, k1, k2, k3, k4, k5⟩ := nd
            simp only at HC n0 n2 n3
            rcases Nat.eq_zero_or_pos p with hp0 | hp0
            · have hpz : decide ((0 : Int) < (p : Int)) = false := by simp; omega
              have hp1 : (p : Int) ≤ 0 := by omega
              have HBk : Hid (blkL p = []) := by show blkL p = []; unfold blkL; rw [if_pos hp0]
              have T1 := T0
              obtain ⟨c0, c1, c2, c3, c4, c5⟩ := HC.out wr T1.out.below
              clear hp0
              go_wp2_with (first | (go_at_call 15; have q := T1; refine (appendHead_any w.heap.size _ V _ _ _ _ _ _ _ (T1.out.own.alloc _) (by have := T1.out.size; simp; omega) (by first | omega | (simp; omega)) (HTab.out.on (T1.out.below.alloc T1.out.size _)) n0 n2 n3).mono ?_; rintro e x2 ⟨v2, rfl, ho, hbl, hkp⟩; have hbx := hkp wr.heap.size _ (heap_alloc_at _ _ _ rfl) (by simp) (by simp); have T2 : Hid _ := (T1.out.quiet T1.out.size (below_alloc _ _)).call ho hbl hkp; obtain ⟨hs2, b0, b1, b2, b3, b4, b5⟩ := box_cells hbx; have HBX : Hid _ := hbx; have hz2' := T2.out.size; clear ho hbl hkp q hbx T1 T0) | (go_at_call 16; have q := T2; refine (isLeaf_any _ _ _ _ _ _ _).mono ?_; rintro e x3 ⟨rfl, hb3⟩; rw [HLF.out]; have T3 : Hid _ := T2.out.quiet T2.out.size hb3; have hz3' := T3.out.size; obtain ⟨hs3, b0, b1, b2, b3, b4, b5⟩ := box_cells ((hb3.block _ hs2).trans HBX.out); clear hb3 q T2) | (at_builtin; have q := T3; (refine wpList_append_lies _ (by rfl) _ _ _ (by rfl) w.heap.size 5 i0 _ 1 1 bys_under hi0 hz0 hz1 hz2 rfl (by omega) _ (V ++ headL ⟨k0, k1, k2, k3, k4, k5⟩).length _ (by rfl) (T3.out.own.alloc _) ⟨x3.heap.size, 0, none⟩ 1 1 [.int .u8 41] (by rfl) (by rfl) (World.news_of_block (cs := #[.int .u8 41]) (t := 5) (fr := (0, 0)) (heap_alloc_at _ _ _ (by simp))) (by simp [Value.oneCell']) (by omega) (by unfold maxLen; first | omega | (simp; omega)) (by first | omega | (simp; omega)) (by have := T3.out.size; simp; omega) (x3.heap.size + 1) (by simp) ?_); intro g4 p4 x4 ho hg hat hl; have T4 : Hid _ := T3.out.grown (X := [41]) T3.out.size hg (by simpa [Lib.byteCells] using ho); have hz4' := T4.out.size; clear ho hg hat hl q T3))
              refine ⟨⟨V ++ headL ⟨k0, k1, k2, k3, k4, k5⟩ ++ [41], R', S, by rw [← HV.out, HR.out, HBk.out]; simp, HTD.out, T4.out⟩, ?_⟩
              have h1 := HM.out; have h2 := HR1.out; have h3 := own_len T4.out.own; rw [HBk.out] at h2; simp [slLen] at h1 h2 h3 ⊢; omega
            · have hpz : decide ((0 : Int) < (p : Int)) = true := by simp; omega
              have hp1 : (0 : Int) < (p : Int) := by omega
              have HBk : Hid (blkL p = [32]) := by show blkL p = [32]; unfold blkL; rw [if_neg (by omega)]
              clear hp0
              go_wp2_with (first | (at_builtin; have q := T0; (refine wpList_append_lies _ (by rfl) _ _ _ (by rfl) w.heap.size 5 i0 _ 1 1 bys_under hi0 hz0 hz1 hz2 rfl (by omega) _ V.length _ (by rfl) (T0.out.own.alloc _) ⟨wr.heap.size, 0, none⟩ 1 1 [.int .u8 32] (by rfl) (by rfl) (World.news_of_block (cs := #[.int .u8 32]) (t := 5) (fr := (0, 0)) (heap_alloc_at _ _ _ (by simp))) (by simp [Value.oneCell']) (by omega) (by unfold maxLen; first | omega | (simp; omega)) (by first | omega | (simp; omega)) (by have := T0.out.size; simp; omega) (wr.heap.size + 1) (by simp) ?_); intro g1 p1 x1 ho hg hat hl; have T1 : Hid _ := T0.out.grown (X := [32]) T0.out.size hg (by simpa [Lib.byteCells] using ho); have hz1' := T1.out.size; obtain ⟨c0, c1, c2, c3, c4, c5⟩ := HC.out x1 T1.out.below; clear ho hg hat hl q T0) | (go_at_call 15; have q := T1; refine (appendHead_any w.heap.size _ (V ++ [32]) _ _ _ _ _ _ _ (T1.out.own.alloc _) (by have := T1.out.size; simp; omega) (by first | omega | (simp; omega)) (HTab.out.on (T1.out.below.alloc T1.out.size _)) n0 n2 n3).mono ?_; rintro e x2 ⟨v2, rfl, ho, hbl, hkp⟩; have hbx := hkp x1.heap.size _ (heap_alloc_at _ _ _ rfl) (by simp) (by simp); have T2 : Hid _ := (T1.out.quiet T1.out.size (below_alloc _ _)).call ho hbl hkp; obtain ⟨hs2, b0, b1, b2, b3, b4, b5⟩ := box_cells hbx; have HBX : Hid _ := hbx; have hz2' := T2.out.size; clear ho hbl hkp q hbx T1) | (go_at_call 16; have q := T2; refine (isLeaf_any _ _ _ _ _ _ _).mono ?_; rintro e x3 ⟨rfl, hb3⟩; rw [HLF.out]; have T3 : Hid _ := T2.out.quiet T2.out.size hb3; have hz3' := T3.out.size; obtain ⟨hs3, b0, b1, b2, b3, b4, b5⟩ := box_cells ((hb3.block _ hs2).trans HBX.out); clear hb3 q T2) | (at_builtin; have q := T3; (refine wpList_append_lies _ (by rfl) _ _ _ (by rfl) w.heap.size 5 i0 _ 1 1 bys_under hi0 hz0 hz1 hz2 rfl (by omega) _ ((V ++ [32]) ++ headL ⟨k0, k1, k2, k3, k4, k5⟩).length _ (by rfl) (T3.out.own.alloc _) ⟨x3.heap.size, 0, none⟩ 1 1 [.int .u8 41] (by rfl) (by rfl) (World.news_of_block (cs := #[.int .u8 41]) (t := 5) (fr := (0, 0)) (heap_alloc_at _ _ _ (by simp))) (by simp [Value.oneCell']) (by omega) (by unfold maxLen; first | omega | (simp; omega)) (by first | omega | (simp; omega)) (by have := T3.out.size; simp; omega) (x3.heap.size + 1) (by simp) ?_); intro g4 p4 x4 ho hg hat hl; have T4 : Hid _ := T3.out.grown (X := [41]) T3.out.size hg (by simpa [Lib.byteCells] using ho); have hz4' := T4.out.size; clear ho hg hat hl q T3))
              refine ⟨⟨(V ++ [32]) ++ headL ⟨k0, k1, k2, k3, k4, k5⟩ ++ [41], R', S, by rw [← HV.out, HR.out, HBk.out]; simp, HTD.out, T4.out⟩, ?_⟩
              have h1 := HM.out; have h2 := HR1.out; have h3 := own_len T4.out.own; rw [HBk.out] at h2; simp [slLen] at h1 h2 h3 ⊢; omega
          · have HLF : Hid _ := leafB_no (n := ndAt t p) (by omega)
            have HR : Hid _ := hR
            have HTD : Hid (TxTodo t ((l : Int) :: (r : Int) :: -1 :: S) R') := hTd
            have hR1 : R.length = (blkL p).length + ((headL (ndAt t p)).length + R'.length) := by rw [hR]; simp
            have HR1 : Hid _ := hR1
            have hH1 := headL_length n0 n2 n3
            have HP := headL_pos (ndAt t p)
            have hS3 : S.length + 3 ≤ 8000000 := by have q : ((l : Int) :: (r : Int) :: -1 :: S).length ≤ R'.length := txTodo_length (t := t) HTD.out; simp at q; omega
            clear hR hTd hR1
            generalize ndAt t p = nd at *
            obtain ⟨k0, k1, k2, k3, k4, k5⟩ := nd
            simp only at HC n0 n2 n3 hl hr
            subst hl hr
            rcases Nat.eq_zero_or_pos p with hp0 | hp0
            · have hpz : decide ((0 : Int) < (p : Int)) = false := by simp; omega
              have hp1 : (p : Int) ≤ 0 := by omega
              have HBk : Hid (blkL p = []) := by show blkL p = []; unfold blkL; rw [if_pos hp0]
              have T1 := T0
              obtain ⟨c0, c1, c2, c3, c4, c5⟩ := HC.out wr T1.out.below
              clear hp0
              go_wp2_with (first | (go_at_call 15; have q := T1; refine (appendHead_any w.heap.size _ V _ _ _ _ _ _ _ (T1.out.own.alloc _) (by have := T1.out.size; simp; omega) (by first | omega | (simp; omega)) (HTab.out.on (T1.out.below.alloc T1.out.size _)) n0 n2 n3).mono ?_; rintro e x2 ⟨v2, rfl, ho, hbl, hkp⟩; have hbx := hkp wr.heap.size _ (heap_alloc_at _ _ _ rfl) (by simp) (by simp); have T2 : Hid _ := (T1.out.quiet T1.out.size (below_alloc _ _)).call ho hbl hkp; obtain ⟨hs2, b0, b1, b2, b3, b4, b5⟩ := box_cells hbx; have HBX : Hid _ := hbx; have hz2' := T2.out.size; clear ho hbl hkp q hbx T1 T0) | (go_at_call 16; have q := T2; refine (isLeaf_any _ _ _ _ _ _ _).mono ?_; rintro e x3 ⟨rfl, hb3⟩; rw [HLF.out]; have T3 : Hid _ := T2.out.quiet T2.out.size hb3; have hz3' := T3.out.size; obtain ⟨hs3, b0, b1, b2, b3, b4, b5⟩ := box_cells ((hb3.block _ hs2).trans HBX.out); clear hb3 q T2) | (at_builtin; have q := T3; (refine wpList_append_lies _ (by rfl) _ _ _ (by rfl) w.heap.size 3 j0' _ 1 8 ins_under hj0 hy0 hy1 hy2 rfl (by omega) _ S.length _ (by rfl) (T3.out.stk.alloc _) ⟨x3.heap.size, 0, none⟩ 3 3 [.int .i64 (-1), .int .i64 (r : Int), .int .i64 (l : Int)] (by rfl) (by rfl) (World.news_of_block (cs := #[.int .i64 (-1), .int .i64 (r : Int), .int .i64 (l : Int)]) (t := 3) (fr := (0, 0)) (heap_alloc_at _ _ _ (by simp))) (by simp [Value.oneCell']) (by omega) (by unfold maxLen; omega) (by omega) (by have := T3.out.size; simp; omega) (x3.heap.size + 1) (by simp) ?_); intro g5 p5 x5 ho hg hat hl; have T4 : Hid _ := T3.out.push T3.out.size hg ho; clear ho hg hat hl q))
              refine ⟨⟨V ++ headL ⟨k0, k1, k2, k3, (l : Int), (r : Int)⟩, R', (l : Int) :: (r : Int) :: -1 :: S, by rw [← HV.out, HR.out, HBk.out]; simp, HTD.out, by simpa [intC] using T4.out⟩, ?_⟩
              have h1 := HM.out; have h2 := HR1.out; have h3 := own_len T4.out.own; rw [HBk.out] at h2; simp [slLen] at h1 h2 h3 ⊢; omega
            · have hpz : decide ((0 : Int) < (p : Int)) = true := by simp; omega
              have hp1 : (0 : Int) < (p : Int) := by omega
              have HBk : Hid (blkL p = [32]) := by show blkL p = [32]; unfold blkL; rw [if_neg (by omega)]
              clear hp0
              go_wp2_with (first | (at_builtin; have q := T0; (refine wpList_append_lies _ (by rfl) _ _ _ (by rfl) w.heap.size 5 i0 _ 1 1 bys_under hi0 hz0 hz1 hz2 rfl (by omega) _ V.length _ (by rfl) (T0.out.own.alloc _) ⟨wr.heap.size, 0, none⟩ 1 1 [.int .u8 32] (by rfl) (by rfl) (World.news_of_block (cs := #[.int .u8 32]) (t := 5) (fr := (0, 0)) (heap_alloc_at _ _ _ (by simp))) (by simp [Value.oneCell']) (by omega) (by unfold maxLen; first | omega | (simp; omega)) (by first | omega | (simp; omega)) (by have := T0.out.size; simp; omega) (wr.heap.size + 1) (by simp) ?_); intro g1 p1 x1 ho hg hat hl; have T1 : Hid _ := T0.out.grown (X := [32]) T0.out.size hg (by simpa [Lib.byteCells] using ho); have hz1' := T1.out.size; obtain ⟨c0, c1, c2, c3, c4, c5⟩ := HC.out x1 T1.out.below; clear ho hg hat hl q T0) | (go_at_call 15; have q := T1; refine (appendHead_any w.heap.size _ (V ++ [32]) _ _ _ _ _ _ _ (T1.out.own.alloc _) (by have := T1.out.size; simp; omega) (by first | omega | (simp; omega)) (HTab.out.on (T1.out.below.alloc T1.out.size _)) n0 n2 n3).mono ?_; rintro e x2 ⟨v2, rfl, ho, hbl, hkp⟩; have hbx := hkp x1.heap.size _ (heap_alloc_at _ _ _ rfl) (by simp) (by simp); have T2 : Hid _ := (T1.out.quiet T1.out.size (below_alloc _ _)).call ho hbl hkp; obtain ⟨hs2, b0, b1, b2, b3, b4, b5⟩ := box_cells hbx; have HBX : Hid _ := hbx; have hz2' := T2.out.size; clear ho hbl hkp q hbx T1) | (go_at_call 16; have q := T2; refine (isLeaf_any _ _ _ _ _ _ _).mono ?_; rintro e x3 ⟨rfl, hb3⟩; rw [HLF.out]; have T3 : Hid _ := T2.out.quiet T2.out.size hb3; have hz3' := T3.out.size; obtain ⟨hs3, b0, b1, b2, b3, b4, b5⟩ := box_cells ((hb3.block _ hs2).trans HBX.out); clear hb3 q T2) | (at_builtin; have q := T3; (refine wpList_append_lies _ (by rfl) _ _ _ (by rfl) w.heap.size 3 j0' _ 1 8 ins_under hj0 hy0 hy1 hy2 rfl (by omega) _ S.length _ (by rfl) (T3.out.stk.alloc _) ⟨x3.heap.size, 0, none⟩ 3 3 [.int .i64 (-1), .int .i64 (r : Int), .int .i64 (l : Int)] (by rfl) (by rfl) (World.news_of_block (cs := #[.int .i64 (-1), .int .i64 (r : Int), .int .i64 (l : Int)]) (t := 3) (fr := (0, 0)) (heap_alloc_at _ _ _ (by simp))) (by simp [Value.oneCell']) (by omega) (by unfold maxLen; omega) (by omega) (by have := T3.out.size; simp; omega) (x3.heap.size + 1) (by simp) ?_); intro g5 p5 x5 ho hg hat hl; have T4 : Hid _ := T3.out.push T3.out.size hg ho; clear ho hg hat hl q))
              refine ⟨⟨(V ++ [32]) ++ headL ⟨k0, k1, k2, k3, (l : Int), (r : Int)⟩, R', (l : Int) :: (r : Int) :: -1 :: S, by rw [← HV.out, HR.out, HBk.out]; simp, HTD.out, by simpa [intC] using T4.out⟩, ?_⟩
              have h1 := HM.out; have h2 := HR1.out; have h3 := own_len T4.out.own; rw [HBk.out] at h2; simp [slLen] at h1 h2 h3 ⊢; omega
  · have F : Hid (textA t = []) := textA_bad he
    obtain ⟨e1, e2⟩ := e_ne he
    clear he
    go_enter Tryd.func6, Tryd.ntmps6
    go_wp2_with (first | (go_at_call 14; refine (check_any _ b o c t _ HA.out).mono ?_; rintro e w1 ⟨rfl, hb1⟩; have HB1 : Hid _ := hb1; clear hb1))
    go_ret2
    exact ⟨by rw [F.out]; rfl, HB1.out⟩
end Go.Proofs.YtegajbfefhljmaaDoor
