
/- Layer 16: the reference's Check. -/

import Derived.Test.YtegajbfefhljmaaDoorTChk

import Derived.Test.YtegajbfefhljmaaDoorTNodeR

namespace Go.Proofs.YtegajbfefhljmaaDoor

open Go.RowKit

attribute [local go_sem ↓] Go.wp_at_zero Go.wp_at_succ

theorem natC_two' (S : List Nat) (l r : Nat) : natC (r :: l :: S).reverse = natC S.reverse ++ [.int .i64 (l : Int), .int .i64 (r : Int)] := by simp [natC]
theorem formE_whole {t : NL} {L : List Nat} (hb : t.length ≤ 100000) (hp : 0 < t.length) (hg : Good t) (hT : Tree t 0 L) : formE t = if L.length = t.length then 0 else 3 := by
  rw [formE_tree hb, treeB_of hp hg hT]
  by_cases e : L.length = t.length
  · rw [decide_eq_true e, if_pos rfl, if_pos e]
  · rw [decide_eq_false e, if_neg (by simp), if_neg e]

set_option maxRecDepth 100000 in
set_option maxHeartbeats 1000000 in
theorem rcheck_any (base : Option Addr) (b o c : Nat) (t : NL) (w : World) (h : NodesAt w base b o t) :
    Calls Tryd.prog 11 #[.slice base t.length c] w fun e w' => e = .returned (.int .i64 (formE t)) ∧ Below w.heap.size w w' := by
  have hm := h.len
  unfold maxLen at hm
  rcases Nat.lt_or_ge 100000 t.length with hbig | hbig
  · have F : Hid (formE t = 2) := formE_big hbig
    have hb' : (100000 : Int) < (t.length : Int) := by omega
    go_enter Tryd.func11, Tryd.ntmps11
    go_wp2_with fail
    go_ret
    exact ⟨by rw [F.out]; rfl, Below.refl _ _⟩
  have hb' : (t.length : Int) ≤ 100000 := by omega
  by_cases h0 : t.length = 0
  · have F : Hid (formE t = 3) := formE_not hbig (fun q => by have := q.pos; omega)
    rw [h0]
    clear h0 h hbig hb' hm
    go_enter Tryd.func11, Tryd.ntmps11
    go_wp2_with fail
    go_ret
    exact ⟨by rw [F.out]; rfl, Below.refl _ _⟩
  · obtain rfl : base = some ⟨b, o, none⟩ := h.base h0
    have hbl := h.lt h0
    have HA : Hid _ := h
    have hpos : 0 < t.length := by omega
    have hpz : (((t.length : Nat) : Int) == 0) = false := beq_eq_false_iff_ne.2 (by omega)
    clear h h0
    have hmi := run_make_known (P := Tryd.prog) 36 3 (.int .i64 0) 1 8 ins_under in_info t.length (by omega) (by omega)
    obtain ⟨i0, hi0, hz0, hz1, hz2⟩ := info_parts in_info
    go_enter Tryd.func11, Tryd.ntmps11
    go_wp2_with fail
    go_loopw [4] (fun i wr => ∃ j : Nat, j ≤ t.length ∧ i = .int .i64 j ∧ (∀ k, k < j → NodeOk (ndAt t k) t.length) ∧ Below w.heap.size w wr ∧ w.heap.size < wr.heap.size ∧ Ints wr w.heap.size t.length (fun x => ((cntN t x j : Nat) : Int))) (fun i _ => t.length - (intOf i).toNat)
    case atStart =>
      refine ⟨0, Nat.zero_le _, rfl, fun k hk => by omega, below_alloc _ _, by simp, ?_⟩
      have := zeros_ints w 3 t.length
      rw [made_zeros]
      exact this
    case round =>
      obtain ⟨j, hj, rfl, hok, hbw, hwz, hI⟩ := hrel
      by_cases hlt : j < t.length
      · have HC : Hid _ := (HA.out.below hbw).cells j hlt
        have j0 : (0 : Int) ≤ (j : Int) := Int.natCast_nonneg _
        have j1 : (j : Int) < (t.length : Int) := by omega
        have hbr : b < wr.heap.size := by omega
        have HB : Hid _ := hbw
        have HI : Hid (Ints _ _ _ _) := hI
        have HK : Hid (∀ k, k < j → NodeOk (ndAt t k) t.length) := hok
        clear hbw hI hok
        by_cases hn : NodeOk (ndAt t j) t.length
        · have HN : Hid _ := nodeB_yes hn
          have HK1 : Hid (∀ k, k < j + 1 → NodeOk (ndAt t k) t.length) := by
            intro k hk
            by_cases e : k = j
            · rw [e]; exact hn
            · exact HK.out k (by omega)
          rcases hn.cases with ⟨hl, hr⟩ | ⟨l, r, hl, hr, l1, l2, r1, r2, hne⟩
          · have HI1 : Hid (∀ x, cntN t x (j + 1) = cntN t x j) := cnt_leaf hl hr
            clear hn
            generalize ndAt t j = nd at HC HN hl hr
            obtain ⟨k0, k1, k2, k3, k4, k5⟩ := nd
            simp only at HC hl hr
            subst hl hr
            obtain ⟨c0, c1, c2, c3, c4, c5⟩ := HC.out
            go_wp2_with (first | (go_at_call 21; refine (rnode_any _ _ _ _ _ _ _ _).mono ?_; rintro e w2 ⟨rfl, hb2⟩; rw [HN.out]; have hz2' := hb2.size; have y4 : w2.cell? ⟨b, o + j * 6 + 4, none⟩ = some (.int .i64 (-1)) := (hb2.cell (p := ⟨b, o + j * 6 + 4, none⟩) hbr).trans c4; have HB2 : Hid _ := hb2; clear hb2))
            exact ⟨⟨j + 1, by omega, by go_num, HK1.out, HB.out.trans (HB2.out.mono HB.out.size), by have := HB2.out.size; omega, (HI.out.below hwz HB2.out).fn fun x _ => by rw [HI1.out x]⟩, by simp [intOf]; omega⟩
          · have HI1 : Hid _ := fun (W : World) (h : Ints W w.heap.size t.length (fun x => ((cntN t x j : Nat) : Int))) => ints_two h hl hr hne l2 r2
            have q1 := cnt_le t l j
            have q2 := cnt_le t r j
            have l0 : (0 : Int) ≤ (l : Int) := Int.natCast_nonneg _
            have r0 : (0 : Int) ≤ (r : Int) := Int.natCast_nonneg _
            have l3 : (l : Int) < (t.length : Int) := by omega
            have r3 : (r : Int) < (t.length : Int) := by omega
            have b1 : ((cntN t l j : Nat) : Int) ≤ 200000 := by omega
            have b2 : ((cntN t r j : Nat) : Int) ≤ 200000 := by omega
            have b3 : (0 : Int) ≤ ((cntN t l j : Nat) : Int) := Int.natCast_nonneg _
            have b4 : (0 : Int) ≤ ((cntN t r j : Nat) : Int) := Int.natCast_nonneg _
            have hne' : r ≠ l := fun q => hne q.symm
            have l5 : ((l : Int) != -1) = true := by simp
            have l6 : decide ((l : Int) ≠ -1) = true := by simp
            clear hn q1 q2 l1 r1
            generalize ndAt t j = nd at HC HN hl hr
            obtain ⟨k0, k1, k2, k3, k4, k5⟩ := nd
            simp only at HC hl hr
            subst hl hr
            obtain ⟨c0, c1, c2, c3, c4, c5⟩ := HC.out
            go_wp2_with (first | (go_at_call 21; refine (rnode_any _ _ _ _ _ _ _ _).mono ?_; rintro e w2 ⟨rfl, hb2⟩; rw [HN.out]; have hz2' := hb2.size; have y4 : w2.cell? ⟨b, o + j * 6 + 4, none⟩ = some (.int .i64 (l : Int)) := (hb2.cell (p := ⟨b, o + j * 6 + 4, none⟩) hbr).trans c4; have y5 : w2.cell? ⟨b, o + j * 6 + 5, none⟩ = some (.int .i64 (r : Int)) := (hb2.cell (p := ⟨b, o + j * 6 + 5, none⟩) hbr).trans c5; have HB2 : Hid _ := hb2; have HI3 : Hid (Ints w2 _ _ _) := HI.out.below hwz hb2; have v1 := (HI3.out l l2).1; have v2 := (HI3.out r r2).1; have f1 := (HI3.out l l2).2; have f2 := (HI3.out r r2).2; clear hb2 c0 c1 c2 c3 c4 c5))
            exact ⟨⟨j + 1, by omega, by go_num, HK1.out, ((HB.out.trans (HB2.out.mono HB.out.size)).setCell (Nat.le_refl _) _).setCell (Nat.le_refl _) _, by simp; omega, HI1.out _ HI3.out⟩, by simp [intOf]; omega⟩
        · have HN : Hid _ := nodeB_no hn
          have F : Hid (formE t = 3) := formE_not hbig (fun q => hn (q.good.node j hlt))
          clear hn
          generalize ndAt t j = nd at HC HN
          obtain ⟨k0, k1, k2, k3, k4, k5⟩ := nd
          simp only at HC
          obtain ⟨c0, c1, c2, c3, c4, c5⟩ := HC.out
          go_wp2_with (first | (go_at_call 21; refine (rnode_any _ _ _ _ _ _ _ _).mono ?_; rintro e w2 ⟨rfl, hb2⟩; rw [HN.out]; have HB2 : Hid _ := hb2; clear hb2))
          go_ret
          exact ⟨by rw [F.out]; rfl, HB.out.trans (HB2.out.mono HB.out.size)⟩
      · obtain rfl : j = t.length := by omega
        have HB : Hid _ := hbw
        have HI : Hid (Ints _ _ _ _) := hI
        have HK : Hid (∀ k, k < t.length → NodeOk (ndAt t k) t.length) := hok
        clear hbw hI hok
        have hbr : b < wr.heap.size := by omega
        go_wp2_with fail
        go_loopw [5] (fun i wx => ∃ j : Nat, 1 ≤ j ∧ j ≤ t.length ∧ i = .int .i64 j ∧ (∀ c, 1 ≤ c → c < j → cntN t c t.length = 1) ∧ Below wr.heap.size wr wx) (fun i _ => t.length - (intOf i).toNat)
        case atStart => exact ⟨1, Nat.le_refl _, by omega, rfl, fun c h1 h2 => by omega, Below.refl _ _⟩
        case round =>
          obtain ⟨j, hj1, hj, rfl, hone, hbx⟩ := hrel
          by_cases hlt : j < t.length
          · have v1 := ((HI.out.below hwz hbx) j hlt).1
            have HX : Hid _ := hbx
            have HO : Hid (∀ c, 1 ≤ c → c < j → cntN t c t.length = 1) := hone
            have j0 : (0 : Int) ≤ (j : Int) := Int.natCast_nonneg _
            have j1 : (j : Int) < (t.length : Int) := by omega
            clear hbx hone
            by_cases hc : cntN t j t.length = 1
            · have HO1 : Hid (∀ c, 1 ≤ c → c < j + 1 → cntN t c t.length = 1) := by
                intro c h1 h2
                by_cases e : c = j
                · rw [e]; exact hc
                · exact HO.out c h1 (by omega)
              have hd : (((cntN t j t.length : Nat) : Int) != 1) = false := by simp; omega
              have hd2 : decide (((cntN t j t.length : Nat) : Int) ≠ 1) = false := by simp; omega
              clear hc
              go_wp2_with fail
              exact ⟨⟨j + 1, by omega, by omega, by go_num, HO1.out, HX.out⟩, by simp [intOf]; omega⟩
            · have F : Hid (formE t = 3) := formE_not hbig (fun q => hc (q.good.one j (by omega) (by omega)))
              have hd : (((cntN t j t.length : Nat) : Int) != 1) = true := by simp; omega
              have hd2 : decide (((cntN t j t.length : Nat) : Int) ≠ 1) = true := by simp; omega
              clear hc
              go_wp2_with fail
              go_ret
              exact ⟨by rw [F.out]; rfl, HB.out.trans (HX.out.mono HB.out.size)⟩
          · have hg : Good t := ⟨HK.out, fun c h1 h2 => hone c h1 (by omega)⟩
            obtain ⟨L, hT, _, hLn⟩ := good_tree hg hpos
            have F : Hid _ := formE_whole hbig hpos hg hT
            have HT : Hid _ := hT
            have HN : Hid _ := (HA.out.below HB.out).below hbx
            have HX : Hid (Below w.heap.size w wr) := HB.out.trans (hbx.mono HB.out.size)
            have hx := HX.out.size
            have j2 : (t.length : Int) ≤ (j : Int) := by omega
            clear hbx hone hg hT
            generalize wr = W0 at *
            go_wp2_with fail
            go_loopw [6, 7] (fun vs va wr => ∃ (k : Nat) (S R : List Nat), vs = .int .i64 k ∧ k + R.length = L.length ∧ Todo t S R ∧ Below W0.heap.size W0 wr ∧ wr.ownsRow W0.heap.size 3 1 va S.length (natC S.reverse)) (fun vs _ _ => L.length - (intOf vs).toNat)
            case atStart =>
              refine ⟨0, [0], L, rfl, by omega, todo_one HT.out, below_alloc _ _, ?_⟩
              exact World.ownsRow_lit W0 #[.int .i64 0] 1 (Nat.le_refl _) (by unfold maxLen; omega) rfl
            case round =>
              obtain ⟨k, S, R, rfl, hk, hS, hbw, hoa⟩ := hrel
              cases S with
              | nil =>
                obtain rfl : R = [] := hS
                obtain rfl : k = L.length := by simpa using hk
                rcases Go.Joins.ownsRow_forms hoa with ⟨rfl, _⟩ | ⟨ga, ca, rfl⟩
                all_goals
                  have HB3 : Hid _ := hbw
                  clear hoa hbw
                  by_cases e : L.length = t.length
                  · have F1 : Hid (formE t = 0) := by show formE t = 0; rw [F.out, if_pos e]
                    have hd : (((L.length : Nat) : Int) != ((t.length : Nat) : Int)) = false := by rw [e]; simp
                    have hd2 : decide (((L.length : Nat) : Int) ≠ ((t.length : Nat) : Int)) = false := by rw [e]; simp
                    clear e
                    go_wp2_with fail
                    go_ret
                    exact ⟨by rw [F1.out]; rfl, HX.out.trans (HB3.out.mono HX.out.size)⟩
                  · have F1 : Hid (formE t = 3) := by show formE t = 3; rw [F.out, if_neg e]
                    have hd : (((L.length : Nat) : Int) != ((t.length : Nat) : Int)) = true := by simp; omega
                    have hd2 : decide (((L.length : Nat) : Int) ≠ ((t.length : Nat) : Int)) = true := by simp; omega
                    clear e
                    go_wp2_with fail
                    go_ret
                    exact ⟨by rw [F1.out]; rfl, HX.out.trans (HB3.out.mono HX.out.size)⟩
              | cons s S =>
                obtain ⟨hs, hstep⟩ := todo_step hS
                have hRl := todo_length hS
                obtain ⟨ga, ca, rfl, hga, hgl, hcap, hcm, hcell, hfr⟩ := owns_some hoa (by simp)
                have htop : wr.cell? ⟨ga, S.length, none⟩ = some (.int .i64 (s : Int)) := by
                  rw [hcell _ (by simp)]
                  simp [natC]
                have HC : Hid _ := (HN.out.below hbw).cells s hs
                have hbs := hbw.size
                have hbr' : b < wr.heap.size := by omega
                have hn1 : S.length + 1 ≤ 1000000 := by simp at hRl; omega
                have hi1 : ((S.length + 1 : Nat) : Int) - 1 = (S.length : Int) := by omega
                have HB3 : Hid _ := hbw
                have HOA : Hid (World.ownsRow _ _ _ _ _ _ _) := hoa
                have hk1 : (k : Int) ≤ 1000000 := by omega
                have hk0 : (0 : Int) ≤ (k : Int) := Int.natCast_nonneg _
                have HK1 : Hid _ := hk
                clear hbw hoa hS hcell hk
                have s0 : (0 : Int) ≤ (s : Int) := Int.natCast_nonneg _
                have s1 : (s : Int) < (t.length : Int) := by omega
                rcases hstep with ⟨R', hR, hl, hr, hTd⟩ | ⟨l, r, _, R', hR, hl, hr, hll, hrl, _, hTd, hlen⟩
                · have HTD : Hid (Todo t _ _) := hTd
                  have HR : Hid (R.length = R'.length + 1) := by show _ = _; rw [hR]; simp
                  clear hTd hR
                  simp only [List.length_cons] at *
                  generalize ndAt t s = nd at HC hl hr
                  obtain ⟨k0, k1, k2, k3, k4, k5⟩ := nd
                  simp only at HC hl hr
                  subst hl hr
                  obtain ⟨c0, c1, c2, c3, c4, c5⟩ := HC.out
                  go_wp2_with fail
                  refine ⟨⟨k + 1, S, R', by go_num, by have := HR.out; have := HK1.out; omega, HTD.out, HB3.out.alloc (by omega) _, ?_⟩, by have := HR.out; have := HK1.out; simp [intOf]; omega⟩
                  rw [← natC_cut]; exact (owns_cut HOA.out S.length (Nat.le_succ _)).alloc _
                · have HTD : Hid (Todo t _ _) := hTd
                  have hSR : (r :: l :: S).length ≤ R'.length := todo_length (t := t) HTD.out
                  have HR : Hid (R.length = R'.length + 1) := by show _ = _; rw [hR]; simp [hlen]
                  have hS2 : S.length + 2 ≤ 1000000 := by have := HR.out; have := HK1.out; simp at hSR; omega
                  have l6 : ((l : Int) != -1) = true := by simp
                  have l7 : decide ((l : Int) ≠ -1) = true := by simp
                  clear hTd hR hSR hlen
                  simp only [List.length_cons] at *
                  generalize ndAt t s = nd at HC hl hr
                  obtain ⟨k0, k1, k2, k3, k4, k5⟩ := nd
                  simp only at HC hl hr
                  subst hl hr
                  obtain ⟨c0, c1, c2, c3, c4, c5⟩ := HC.out
                  have HA4 : Hid (World.ownsRow _ _ _ _ _ _ _) := owns_cut HOA.out S.length (Nat.le_succ _)
                  go_wp2_with (first | (at_builtin; (refine wpList_append_lies _ (by rfl) _ _ _ (by rfl) W0.heap.size 3 i0 _ 1 8 ins_under hi0 hz0 hz1 hz2 rfl (by omega) _ S.length _ (by rfl) ((HA4.out.alloc _).alloc _) ⟨wr.heap.size + 1, 0, none⟩ 2 2 [.int .i64 (l : Int), .int .i64 (r : Int)] (by rfl) (by rfl) (World.news_of_block (cs := #[.int .i64 (l : Int), .int .i64 (r : Int)]) (t := 3) (fr := (0, 0)) (heap_alloc_at _ _ _ (by simp))) (by simp [Value.oneCell']) (by omega) (by unfold maxLen; omega) (by omega) (by simp; omega) (wr.heap.size + 2) (by simp) ?_); intro g5 c5' w5 hown5 hgrow5 hat5 hlt5; have HO5 : Hid (World.ownsRow _ _ _ _ _ _ _) := hown5; have HG5 : Hid _ := hgrow5; clear hown5 hgrow5 hat5))
                  refine ⟨⟨k + 1, r :: l :: S, R', by go_num, by have := HR.out; have := HK1.out; omega, HTD.out, ?_, ?_⟩, by have := HR.out; have := HK1.out; simp [intOf]; omega⟩
                  · exact Below.grown ((HB3.out.alloc (by omega) _).alloc (by rw [World.size_alloc]; omega) _) HG5.out (by simp; omega) (fun k hk => by simp [Value.ownBlock] at hk; omega)
                  · rw [natC_two', ← natC_cut (s := s)]; exact HO5.out
end Go.Proofs.YtegajbfefhljmaaDoor
