
/- Layer 16: order. -/

import Derived.Test.YthdfpddijocfkaaTMem

import Derived.Deep.DrawnRows

namespace Go.Proofs.Ythdfpddijocfkaa

open Go.RowKit

attribute [local go_sem ↓] Go.wp_at_zero Go.wp_at_succ

theorem nd_info : (Try.prog.info? 81).map (fun i => (i.zero, i.size, i.bytes)) = some (some (.agg #[.int .i64 0, .int .i64 0, .int .i64 0, .int .i64 0, .int .i64 0, .int .i64 0]), 6, 48) := by kernel_rfl
theorem nds_under : Try.prog.underlying 22 = some (.slice 81) := by kernel_rfl
theorem in_info : (Try.prog.info? 3).map (fun i => (i.zero, i.size, i.bytes)) = some (some (.int .i64 0), 1, 8) := by kernel_rfl
theorem ins_under : Try.prog.underlying 23 = some (.slice 3) := by kernel_rfl

def leafB (n : NdD) : Bool := decide (n.l = -1 ∧ n.r = -1)
set_option maxRecDepth 100000 in
theorem isLeaf_any (a0 a1 a2 a3 a4 a5 : Int) (w : World) :
    Calls Try.prog 70 #[.agg #[.int .i64 a0, .int .i64 a1, .int .i64 a2, .int .i64 a3, .int .i64 a4, .int .i64 a5]] w fun e w' => e = .returned (.bool (leafB ⟨a0, a1, a2, a3, a4, a5⟩)) ∧ Below w.heap.size w w' := by
  by_cases h1 : a4 = -1
  · by_cases h2 : a5 = -1
    · have F : Hid (leafB ⟨a0, a1, a2, a3, a4, a5⟩ = true) := by show leafB _ = _; simp [leafB, h1, h2]
      subst h1 h2
      go_enter Try.func70, Try.ntmps70
      go_wp2
      go_ret
      exact ⟨by rw [F.out]; rfl, below_alloc _ _⟩
    · have F : Hid (leafB ⟨a0, a1, a2, a3, a4, a5⟩ = false) := by show leafB _ = _; simp [leafB, h2]
      subst h1
      have hd : (a5 == -1) = false := by simp [h2]
      go_enter Try.func70, Try.ntmps70
      go_wp2
      go_ret
      exact ⟨by rw [F.out]; rfl, below_alloc _ _⟩
  · have F : Hid (leafB ⟨a0, a1, a2, a3, a4, a5⟩ = false) := by show leafB _ = _; simp [leafB, h1]
    have hd : (a4 == -1) = false := by simp [h1]
    go_enter Try.func70, Try.ntmps70
    go_wp2
    go_ret
    exact ⟨by rw [F.out]; rfl, below_alloc _ _⟩
theorem leafB_yes {n : NdD} (h1 : n.l = -1) (h2 : n.r = -1) : leafB n = true := by simp [leafB, h1, h2]
theorem leafB_no {n : NdD} (h1 : n.l ≠ -1) : leafB n = false := by simp [leafB, h1]

theorem natC_snoc (V : List Nat) (s : Nat) : natC (V ++ [s]) = natC V ++ [.int .i64 (s : Int)] := by simp [natC]
theorem natC_cut (S : List Nat) (s : Nat) : (natC (s :: S).reverse).take (S.length * 1) = natC S.reverse := by
  rw [List.reverse_cons, natC_append, Nat.mul_one, List.take_append_of_le_length (by simp [natC]), List.take_of_length_le (by simp [natC])]
theorem natC_two (S : List Nat) (l r : Nat) : natC (l :: r :: S).reverse = natC S.reverse ++ [.int .i64 (r : Int), .int .i64 (l : Int)] := by simp [natC]
theorem sep_mk {gp ga n c m d : Nat} (h : gp ≠ ga) : ∀ g, (Value.slice (some ⟨gp, 0, none⟩) n c).ownBlock = some g → (Value.slice (some ⟨ga, 0, none⟩) m d).ownBlock ≠ some g := by
  intro g hg q
  simp [Value.ownBlock] at hg q
  omega
theorem sep3 {vp : Value} {ga gp m cap H : Nat} (hs : ∀ g, vp.ownBlock = some g → (Value.slice (some ⟨ga, 0, none⟩) m cap).ownBlock ≠ some g) (hat : vp.ownBlock = some gp ∨ gp = H + 1) (hg : ga < H) : gp ≠ ga := by
  rcases hat with h | h
  · intro q; subst q; exact hs _ h rfl
  · omega
set_option maxRecDepth 100000 in
set_option maxHeartbeats 1000000 in
theorem order_any (base : Option Addr) (b o c : Nat) (t : NL) (p : Nat) (L : List Nat) (w : World) (h : NodesAt w base b o t) (hT : Tree t p L) (hL : L.length ≤ 1000000) :
    Calls Try.prog 71 #[.slice base t.length c, .int .i64 p] w fun e w' => ∃ v, e = .returned v ∧ w'.ownsRow w.heap.size 3 1 v L.length (natC L) ∧ Below w.heap.size w w' := by
  have HA : Hid _ := h
  have HT : Hid _ := hT
  have hlt := hT.lt
  obtain rfl : base = some ⟨b, o, none⟩ := h.base (by omega)
  have hbl := h.lt (by omega)
  clear h hT
  obtain ⟨i0, hi0, hz0, hz1, hz2⟩ := info_parts in_info
  go_enter Try.func71, Try.ntmps71
  go_wp2_with fail
  go_loopw [5, 6] (fun vp va wr => ∃ (V S R : List Nat), V ++ R = L ∧ Todo t S R ∧ Below w.heap.size w wr ∧ wr.ownsRow w.heap.size 3 1 vp V.length (natC V) ∧ wr.ownsRow w.heap.size 3 1 va S.length (natC S.reverse) ∧ (∀ g, vp.ownBlock = some g → va.ownBlock ≠ some g)) (fun vp _ _ => L.length - slLen vp)
  case atStart =>
    refine ⟨[], [p], L, rfl, todo_one HT.out, below_alloc _ _, World.ownsRow_nil _ _ _ _, ?_, fun g hg => by cases hg⟩
    exact World.ownsRow_lit w #[.int .i64 (p : Int)] 1 (Nat.le_refl _) (by unfold maxLen; omega) rfl
  case round =>
    obtain ⟨V, S, R, hV, hS, hbw, hop, hoa, hsep⟩ := hrel
    cases S with
    | nil =>
      obtain rfl : R = [] := hS
      obtain rfl : V = L := by simpa using hV
      rcases Go.Joins.ownsRow_forms hoa with ⟨rfl, _⟩ | ⟨ga, ca, rfl⟩
      all_goals
        have HO : Hid (World.ownsRow _ _ _ _ _ _ _) := hop
        have HB : Hid _ := hbw
        clear hop hoa hsep hbw
        go_wp2_with fail
        go_ret
        exact ⟨_, rfl, HO.out, HB.out⟩
    | cons s S =>
      obtain ⟨hs, hstep⟩ := todo_step hS
      have hRl := todo_length hS
      have hVR : V.length + R.length = L.length := by rw [← hV]; simp
      have HM : Hid (slLen u5 = V.length) := by
        rcases Go.Joins.ownsRow_forms hop with ⟨rfl, q⟩ | ⟨_, _, rfl⟩
        · show _ = _; rw [q]; rfl
        · rfl
      obtain ⟨ga, ca, rfl, hga, hgl, hcap, hcm, hcell, hfr⟩ := owns_some hoa (by simp)
      have ol := owns_lt hop
      have htop : wr.cell? ⟨ga, S.length, none⟩ = some (.int .i64 (s : Int)) := by
        rw [hcell _ (by simp)]
        simp [natC]
      have HC : Hid _ := (HA.out.below hbw).cells s hs
      have hbs := hbw.size
      have hbr : b < wr.heap.size := by omega
      have hn1 : S.length + 1 ≤ 1000000 := by simp at hRl; omega
      have hi1 : ((S.length + 1 : Nat) : Int) - 1 = (S.length : Int) := by omega
      have HB : Hid _ := hbw
      have HOA : Hid (World.ownsRow _ _ _ _ _ _ _) := hoa
      have HOP : Hid (World.ownsRow _ _ _ _ _ _ _) := hop
      have HSEP : Hid _ := hsep
      have HV : Hid _ := hV
      have hVl : V.length ≤ 1000000 := by simp at hRl; omega
      have hfst : True := trivial
      clear hbw hoa hop hsep hV hS hcell
      have s0 : (0 : Int) ≤ (s : Int) := Int.natCast_nonneg _
      have s1 : (s : Int) < (t.length : Int) := by omega
      rcases hstep with ⟨R', hR, hl, hr, hTd⟩ | ⟨l, r, R', R'', hR, hl, hr, hll, hrl, hTd, _, _⟩
      · have HLF : Hid _ := leafB_yes (n := ndAt t s) hl hr
        have HTD : Hid (Todo t _ _) := hTd
        have HR : Hid _ := hR
        clear hl hr hTd hR
        simp only [List.length_cons] at *
        generalize ndAt t s = nd at *
        obtain ⟨k0, k1, k2, k3, k4, k5⟩ := nd
        simp only at HC
        go_wp2_with (first | (at_builtin; have hq := hfst; (refine wpList_append_lies _ (by rfl) _ _ _ (by rfl) w.heap.size 3 i0 _ 1 8 ins_under hi0 hz0 hz1 hz2 rfl (by omega) _ V.length _ (by rfl) (HOP.out.alloc _) ⟨wr.heap.size, 0, none⟩ 1 1 [.int .i64 (s : Int)] (by rfl) (by rfl) (World.news_of_block (cs := #[.int .i64 (s : Int)]) (t := 3) (fr := (0, 0)) (heap_alloc_at _ _ _ (by simp))) (by simp [Value.oneCell']) (by omega) (by unfold maxLen; omega) (by omega) (by simp; omega) (wr.heap.size + 1) (by simp) ?_); clear hfst; intro gp cp w3 hown3 hgrow hat hlt3; have d0 := far_cell (p := ⟨b, o + s * 6, none⟩) hgrow hbr (fun g q => ne_of_lt' (Nat.lt_of_lt_of_le hbl (ol g q).1)) HC.out.1; have d1 := far_cell (p := ⟨b, o + s * 6 + 1, none⟩) hgrow hbr (fun g q => ne_of_lt' (Nat.lt_of_lt_of_le hbl (ol g q).1)) HC.out.2.1; have d2 := far_cell (p := ⟨b, o + s * 6 + 2, none⟩) hgrow hbr (fun g q => ne_of_lt' (Nat.lt_of_lt_of_le hbl (ol g q).1)) HC.out.2.2.1; have d3 := far_cell (p := ⟨b, o + s * 6 + 3, none⟩) hgrow hbr (fun g q => ne_of_lt' (Nat.lt_of_lt_of_le hbl (ol g q).1)) HC.out.2.2.2.1; have d4 := far_cell (p := ⟨b, o + s * 6 + 4, none⟩) hgrow hbr (fun g q => ne_of_lt' (Nat.lt_of_lt_of_le hbl (ol g q).1)) HC.out.2.2.2.2.1; have d5 := far_cell (p := ⟨b, o + s * 6 + 5, none⟩) hgrow hbr (fun g q => ne_of_lt' (Nat.lt_of_lt_of_le hbl (ol g q).1)) HC.out.2.2.2.2.2; have hz3 := hgrow.size; simp only [World.size_alloc] at hz3; have HO3 : Hid (World.ownsRow _ _ _ _ _ _ _) := hown3; have HA3 : Hid (World.ownsRow _ _ _ _ _ _ _) := (HOA.out.alloc _).kept hgrow (Or.inr (fun q => HSEP.out ga q.symm rfl)); have HB3 : Hid (Below w.heap.size w w3) := Below.grown (HB.out.alloc hbs _) hgrow (by rw [World.size_alloc]; omega) (fun k hk => (ol k hk).1); have HG3 : Hid (gp ≠ ga) := sep3 HSEP.out hat hgl; clear hgrow hat hown3) | (go_at_call 70; refine (isLeaf_any _ _ _ _ _ _ _).mono ?_; rintro e w4 ⟨rfl, hb4⟩; rw [HLF.out]; have hz4 := hb4.size; simp only [World.size_alloc] at hz4; have HB4 : Hid _ := hb4; clear hb4))
        have HBB : Hid (Below w3.heap.size w3 w4) := (below_alloc w3 _).trans (HB4.out.mono (by simp))
        refine ⟨⟨V ++ [s], S, R', by rw [← HV.out, HR.out]; simp, HTD.out, HB3.out.trans (HBB.out.mono HB3.out.size), ?_, ?_, ?_⟩, ?_⟩
        · rw [natC_snoc, List.length_append]; exact owns_below HO3.out HBB.out
        · rw [← natC_cut]; exact owns_below (owns_cut HA3.out S.length (Nat.le_succ _)) HBB.out
        · exact sep_mk HG3.out
        · have := HM.out; simp only [slLen] at *; omega
      · have HLF : Hid _ := leafB_no (n := ndAt t s) (by omega)
        have hl' : (ndAt t s).l = (l : Int) := hl
        have hr' : (ndAt t s).r = (r : Int) := hr
        have HTD : Hid (Todo t _ _) := hTd
        have HR : Hid _ := hR
        clear hl hr hTd hR
        have hnn : 2 * R'.length ≤ 2 * R'.length := Nat.le_refl _
        have hSR : (l :: r :: S).length ≤ R'.length := todo_length (t := t) HTD.out
        have HRl : Hid (R.length = R'.length + 1) := by show _ = _; rw [HR.out]; simp
        have hS2 : S.length + 2 ≤ 1000000 := by have := HRl.out; simp at hSR; omega
        clear hSR hnn
        simp only [List.length_cons] at *
        generalize ndAt t s = nd at *
        obtain ⟨k0, k1, k2, k3, k4, k5⟩ := nd
        simp only at HC hl' hr'
        subst hl' hr'
        go_wp2_with (first | (at_builtin; have hq := hfst; (refine wpList_append_lies _ (by rfl) _ _ _ (by rfl) w.heap.size 3 i0 _ 1 8 ins_under hi0 hz0 hz1 hz2 rfl (by omega) _ V.length _ (by rfl) (HOP.out.alloc _) ⟨wr.heap.size, 0, none⟩ 1 1 [.int .i64 (s : Int)] (by rfl) (by rfl) (World.news_of_block (cs := #[.int .i64 (s : Int)]) (t := 3) (fr := (0, 0)) (heap_alloc_at _ _ _ (by simp))) (by simp [Value.oneCell']) (by omega) (by unfold maxLen; omega) (by omega) (by simp; omega) (wr.heap.size + 1) (by simp) ?_); clear hfst; intro gp cp w3 hown3 hgrow hat hlt3; have d0 := far_cell (p := ⟨b, o + s * 6, none⟩) hgrow hbr (fun g q => ne_of_lt' (Nat.lt_of_lt_of_le hbl (ol g q).1)) HC.out.1; have d1 := far_cell (p := ⟨b, o + s * 6 + 1, none⟩) hgrow hbr (fun g q => ne_of_lt' (Nat.lt_of_lt_of_le hbl (ol g q).1)) HC.out.2.1; have d2 := far_cell (p := ⟨b, o + s * 6 + 2, none⟩) hgrow hbr (fun g q => ne_of_lt' (Nat.lt_of_lt_of_le hbl (ol g q).1)) HC.out.2.2.1; have d3 := far_cell (p := ⟨b, o + s * 6 + 3, none⟩) hgrow hbr (fun g q => ne_of_lt' (Nat.lt_of_lt_of_le hbl (ol g q).1)) HC.out.2.2.2.1; have d4 := far_cell (p := ⟨b, o + s * 6 + 4, none⟩) hgrow hbr (fun g q => ne_of_lt' (Nat.lt_of_lt_of_le hbl (ol g q).1)) HC.out.2.2.2.2.1; have d5 := far_cell (p := ⟨b, o + s * 6 + 5, none⟩) hgrow hbr (fun g q => ne_of_lt' (Nat.lt_of_lt_of_le hbl (ol g q).1)) HC.out.2.2.2.2.2; have hz3 := hgrow.size; simp only [World.size_alloc] at hz3; have HO3 : Hid (World.ownsRow _ _ _ _ _ _ _) := hown3; have HA3 : Hid (World.ownsRow _ _ _ _ _ _ _) := (HOA.out.alloc _).kept hgrow (Or.inr (fun q => HSEP.out ga q.symm rfl)); have HB3 : Hid (Below w.heap.size w w3) := Below.grown (HB.out.alloc hbs _) hgrow (by rw [World.size_alloc]; omega) (fun k hk => (ol k hk).1); have HG3 : Hid (gp ≠ ga) := sep3 HSEP.out hat hgl; clear hgrow hat hown3) | (go_at_call 70; refine (isLeaf_any _ _ _ _ _ _ _).mono ?_; rintro e w4 ⟨rfl, hb4⟩; rw [HLF.out]; have hz4 := hb4.size; simp only [World.size_alloc] at hz4; have x4 : w4.cell? ⟨w3.heap.size, 4, none⟩ = some (.int .i64 (l : Int)) := (hb4.cell (p := ⟨w3.heap.size, 4, none⟩) (by simp)).trans (cell_new w3 _ _ 4); have x5 : w4.cell? ⟨w3.heap.size, 5, none⟩ = some (.int .i64 (r : Int)) := (hb4.cell (p := ⟨w3.heap.size, 5, none⟩) (by simp)).trans (cell_new w3 _ _ 5); have HB4 : Hid _ := hb4; have HA4 : Hid (World.ownsRow _ _ _ _ _ _ _) := owns_below (owns_cut HA3.out S.length (Nat.le_succ _)) ((below_alloc w3 _).trans (hb4.mono (by simp))); clear hb4) | (at_builtin; have hq := HA4; (refine wpList_append_lies _ (by rfl) _ _ _ (by rfl) w.heap.size 3 i0 _ 1 8 ins_under hi0 hz0 hz1 hz2 rfl (by omega) _ S.length _ (by rfl) (HA4.out.alloc _) ⟨w4.heap.size, 0, none⟩ 2 2 [.int .i64 (r : Int), .int .i64 (l : Int)] (by rfl) (by rfl) (World.news_of_block (cs := #[.int .i64 (r : Int), .int .i64 (l : Int)]) (t := 3) (fr := (0, 0)) (heap_alloc_at _ _ _ (by simp))) (by simp [Value.oneCell']) (by omega) (by unfold maxLen; omega) (by omega) (by simp; omega) (w4.heap.size + 1) (by simp) ?_); intro g5 c5 w5 hown5 hgrow5 hat5 hlt5; have HO5 : Hid (World.ownsRow _ _ _ _ _ _ _) := hown5; have HG5 : Hid _ := hgrow5; have HAT5 : Hid _ := hat5; clear hown5 hgrow5 hat5 hq))
        have HBB : Hid (Below w3.heap.size w3 w4) := (below_alloc w3 _).trans (HB4.out.mono (by simp))
        refine ⟨⟨V ++ [s], l :: r :: S, R', by rw [← HV.out, HR.out]; simp, HTD.out, ?_, ?_, ?_, ?_⟩, ?_⟩
        · exact Below.grown ((HB3.out.trans (HBB.out.mono HB3.out.size)).alloc (by have := HB3.out.size; have := HBB.out.size; omega) _) HG5.out (by rw [World.size_alloc]; have := HB3.out.size; have := HBB.out.size; omega) (fun k hk => by simp [Value.ownBlock] at hk; omega)
        · rw [natC_snoc, List.length_append]
          exact ((owns_below HO3.out HBB.out).alloc _).kept HG5.out (Or.inr (fun q => HG3.out (by simpa [Value.ownBlock] using q)))
        · rw [natC_two, ← natC_cut (s := s)]; exact HO5.out
        · refine sep_mk (fun q => ?_)
          rcases HAT5.out with h | h
          · simp [Value.ownBlock] at h; have := HG3.out; omega
          · have := hlt3; have := HBB.out.size; omega
        · have := HM.out; simp only [slLen] at *; omega
end Go.Proofs.Ythdfpddijocfkaa
