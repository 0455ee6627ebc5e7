
/- Layer 17: the reference's reds (a row of bools), Reds and Overs. Layer 17: the reference's Reds, Overs and Violations. -/

import Derived.Test.YtiencggnijfjoaaWRf4

namespace Go.Proofs.Ytiencggnijfjoaa

open Go.RowKit

attribute [local go_sem ↓] Go.wp_at_zero Go.wp_at_succ

theorem bo_under : Try.prog.underlying 65 = some (.slice 4) := Try.underlying65
theorem bo_info : (Try.prog.info? 4).map (fun i => (i.zero, i.size, i.bytes)) = some (some (.bool false), 1, 1) := by kernel_rfl
def Bls (w : World) (g n : Nat) (f : Nat → Bool) : Prop := ∀ j, j < n → w.cell? ⟨g, j, none⟩ = some (.bool (f j)) ∧ w.frozen? ⟨g, j, none⟩ = false
theorem Bls.below {w w' : World} {g n : Nat} {f : Nat → Bool} (h : Bls w g n f) (hg : g < w.heap.size) (hb : Below w.heap.size w w') : Bls w' g n f :=
  fun j hj => ⟨(hb.cell (p := ⟨g, j, none⟩) hg).trans (h j hj).1, (hb.frozen (p := ⟨g, j, none⟩) hg).trans (h j hj).2⟩
theorem Bls.set {w : World} {g n : Nat} {f : Nat → Bool} (h : Bls w g n f) (k : Nat) (v : Bool) (hk : k < n) : Bls (w.setCell ⟨g, k, none⟩ (.bool v)) g n (fun x => if x = k then v else f x) := by
  intro j hj
  obtain ⟨a, b⟩ := h j hj
  refine ⟨?_, by simpa using b⟩
  by_cases e : j = k
  · subst e
    show _ = some (Value.bool (if j = j then v else f j))
    rw [if_pos rfl]
    exact World.cell?_setCell_same _ _ _ (by rw [a])
  · show _ = some (Value.bool (if j = k then v else f j))
    rw [if_neg e, World.cell?_setCell_other _ _ _ _ (fun q => e (congrArg Addr.off q).symm), a]
theorem falses (w : World) (T : TypeId) (n : Nat) : Bls (w.alloc (.cells (Array.replicate n (.bool false)) T)) w.heap.size n (fun _ => false) := by
  intro j hj
  have hh := heap_alloc_at w (.cells (Array.replicate n (.bool false)) T) w.heap.size rfl
  simp only [World.cell?, World.frozen?, hh]
  simp [hj]
theorem made_falses (n : Nat) : madeCells #[Value.bool false] n = Array.replicate n (Value.bool false) := by
  apply Array.ext
  · simp [madeCells]
  · intro i h1 h2
    simp [madeCells, Nat.mod_one]
structure ArB (w0 x : World) (n : Nat) (A : Nat → Bool) : Prop where
  ab : Bls x w0.heap.size n A
  lt : w0.heap.size < x.heap.size
  below : Below w0.heap.size w0 x
theorem ArB.quiet {w0 x y : World} {n : Nat} {A : Nat → Bool} (h : ArB w0 x n A) (hb : Below x.heap.size x y) : ArB w0 y n A := ⟨h.ab.below h.lt hb, Nat.lt_of_lt_of_le h.lt hb.size, h.below.trans (hb.mono h.below.size)⟩
theorem ArB.drew {w0 x : World} {n : Nat} {A : Nat → Bool} (h : ArB w0 x n A) : ArB w0 x.drew n A := ⟨h.ab, h.lt, h.below.drew⟩
theorem ArB.set {w0 x : World} {n : Nat} {A : Nat → Bool} (h : ArB w0 x n A) {l : Nat} (a : Bool) (hl : l < n) : ArB w0 (x.setCell ⟨w0.heap.size, l, none⟩ (.bool a)) n (fun z => if z = l then a else A z) :=
  ⟨h.ab.set l a hl, by simpa using h.lt, h.below.setCell (Nat.le_refl _) _⟩
theorem ArB.fn {w0 x : World} {n : Nat} {A A' : Nat → Bool} (h : ArB w0 x n A) (e : ∀ j, j < n → A j = A' j) : ArB w0 x n A' := ⟨fun j hj => by rw [← e j hj]; exact h.ab j hj, h.lt, h.below⟩
/-- The array of reds behind m rounds. -/
def rA (t : NL) (M : List Nat) (m : Nat) : Nat → Bool := dn (rF t) t (fun _ => false) (M.take m)
theorem rA_leaf {t : NL} {M : List Nat} {m : Nat} (h : m < M.length) (hl : (ndAt t (M.getD m 0)).l = -1) : rA t M (m + 1) = rA t M m := by
  unfold rA
  rw [take_snoc h, dn_snoc]
  unfold dn1
  rw [if_pos hl]
theorem rA_inner {t : NL} {M : List Nat} {m l r : Nat} (h : m < M.length) (hl : (ndAt t (M.getD m 0)).l = (l : Int)) (hr : (ndAt t (M.getD m 0)).r = (r : Int)) : rA t M (m + 1) = two (rA t M m) l r (redQ (ndAt t (M.getD m 0)).wt (ndAt t l).wt) (redQ (ndAt t (M.getD m 0)).wt (ndAt t r).wt) := by
  unfold rA
  rw [take_snoc h, dn_snoc]
  unfold dn1
  rw [if_neg (by omega)]
  unfold lN rN
  rw [hl, hr, Int.toNat_natCast, Int.toNat_natCast]
  rfl
/-- What is nobody's child is not written. -/
theorem dn_far {α : Type} (f : Nat → α → Nat → α) (t : NL) (c : Nat) : ∀ (M : List Nat) (A : Nat → α), (∀ y ∈ M, (ndAt t y).l ≠ -1 → lN t y ≠ c ∧ rN t y ≠ c) → dn f t A M c = A c
  | [], _, _ => rfl
  | y :: M, A, h => by
    show dn f t (dn1 f t A y) M c = A c
    rw [dn_far f t c M _ (fun z hz => h z (List.mem_cons_of_mem _ hz))]
    unfold dn1
    by_cases q : (ndAt t y).l = -1
    · rw [if_pos q]
    · obtain ⟨h1, h2⟩ := h y (by simp) q
      rw [if_neg q]
      unfold two
      rw [if_neg (Ne.symm h2), if_neg (Ne.symm h1)]
/-- A round's children are not yet written. -/
theorem rA_new {t : NL} (hf : InForm t) {M : List Nat} (hM : TreeOk t M) (hN : M.Nodup) {m c : Nat} (h : m < M.length) (hc : Child t (M.getD m 0) c) : rA t M m c = false := by
  have hml := (hM _ (getD_mem h)).1
  unfold rA
  rw [dn_far]
  intro y hy hl
  obtain ⟨i, hi, e⟩ := List.getElem_of_mem hy
  have hi2 : i < m ∧ i < M.length := by rw [List.length_take] at hi; omega
  have e2 : M.getD i 0 = y := by
    rw [List.getD_eq_getElem?_getD, List.getElem?_eq_getElem hi2.2]
    rw [List.getElem_take] at e
    simpa using e
  have hne : y ≠ M.getD m 0 := by rw [← e2]; exact getD_ne hN hi2.2 h (by omega)
  have hyM : y ∈ M := List.mem_of_mem_take hy
  obtain ⟨hyl, hyc⟩ := hM y hyM
  obtain ⟨c1, c2⟩ := child_pos hf.good hml hc
  rcases hyc with ⟨q, -⟩ | ⟨l, r, q1, q2, -⟩
  · exact absurd q hl
  · unfold lN rN
    rw [q1, q2, Int.toNat_natCast, Int.toNat_natCast]
    refine ⟨fun q => ?_, fun q => ?_⟩
    · exact hne (cnt_uniq (hf.good.one c c1 c2) hyl hml (Or.inl (by rw [q1, q])) hc)
    · exact hne (cnt_uniq (hf.good.one c c1 c2) hyl hml (Or.inr (by rw [q2, q])) hc)
set_option maxRecDepth 100000 in
set_option maxHeartbeats 4000000 in
theorem vreds_any (base : Option Addr) (b o c : Nat) (t : NL) (a1 : Option Addr) (g1 c1 : Nat) (M : List Nat) (w : World) (h : NodesAt w base b o t) (hp : PlsAt w a1 g1 M) (hf : InForm t) (hbig : t.length ≤ 100000) (hMl : M.length ≤ 100000) (hM : TreeOk t M) (hN : M.Nodup) :
    Calls Try.prog 56 #[.slice base t.length c, .slice a1 M.length c1] w fun e w' => ∃ g, e = .returned (.slice (some ⟨g, 0, none⟩) t.length t.length) ∧ Bls w' g t.length (rA t M M.length) ∧ w.heap.size ≤ g ∧ g < w'.heap.size ∧ Below w.heap.size w w' := by
  have hpos := hf.pos
  obtain rfl : base = some ⟨b, o, none⟩ := h.base (by omega)
  have hbl := h.lt (by omega)
  have HA : Hid (NodesAt _ _ _ _ _) := h
  have HP : Hid (PlsAt w a1 g1 M) := hp
  have HM : Hid (TreeOk t M) := hM
  have HNW : Hid (∀ m c, m < M.length → Child t (M.getD m 0) c → rA t M m c = false) := fun m c h1 h2 => rA_new hf hM hN h1 h2
  have hp0 : (0 : Int) < (t.length : Int) := by omega
  clear h hp hM hf hN
  have hmi := run_make_known (P := Try.prog) 65 4 (.bool false) 1 1 bo_under bo_info t.length (by omega) (by omega)
  have Z0 : Hid (Bls (w.alloc (.cells (Array.replicate t.length (.bool false)) 4)) w.heap.size t.length (fun _ => false)) := falses w 4 t.length
  go_enter Try.func56, Try.ntmps56
  go_wp2_with fail
  go_loopw [6] (fun i wr => ∃ j : Nat, j ≤ M.length ∧ i = .int .i64 j ∧ ArB w wr t.length (rA t M j)) (fun i _ => M.length - (intOf i).toNat)
  case atStart =>
    refine ⟨0, Nat.zero_le _, rfl, ?_, ?_, ?_⟩
    · rw [made_falses]; exact Z0.out
    · simp
    · exact below_alloc _ _
  case round =>
    obtain ⟨j, hj, rfl, hI⟩ := hrel
    have S0 : Hid (ArB w wr t.length (rA t M j)) := hI
    have hlt0 := hI.lt
    have hbw := hI.below
    by_cases hlt : j < M.length
    · obtain rfl : a1 = some ⟨g1, 0, none⟩ := HP.out.base (by omega)
      have hg1 := HP.out.lt (by omega)
      have r1 := (HP.out.below hbw).cells j hlt
      have hbr : b < wr.heap.size := by omega
      have hgr : g1 < wr.heap.size := by omega
      have bne : b ≠ w.heap.size := by omega
      have bne' : w.heap.size ≠ b := by omega
      have hym : M.getD j 0 ∈ M := getD_mem hlt
      obtain ⟨hyl, hcase⟩ := HM.out _ hym
      have HC : Hid _ := (HA.out.below hbw).cells _ hyl
      have NC : Hid (∀ p, p < t.length → wr.cell? ⟨b, o + p * 6 + 2, none⟩ = some (.int .i64 (ndAt t p).wt)) := fun p hp => ((HA.out.below hbw).cells p hp).2.2.1
      have j0 : (0 : Int) ≤ (j : Int) := Int.natCast_nonneg _
      have j1 : (j : Int) < (M.length : Int) := by omega
      have y0 : (0 : Int) ≤ ((M.getD j 0 : Nat) : Int) := Int.natCast_nonneg _
      have y1 : ((M.getD j 0 : Nat) : Int) < (t.length : Int) := by omega
      clear hI hbw
      generalize hy : M.getD j 0 = y at *
      generalize hnd : ndAt t y = nd at *
      obtain ⟨k0, k1, k2, k3, k4, k5⟩ := nd
      simp only at HC hcase
      obtain ⟨z0, z1, z2, z3, z4, z5⟩ := HC.out
      go_wp2_with fail
      generalize hW2 : wr.alloc (.cells #[.int .i64 k0, .int .i64 k1, .int .i64 k2, .int .i64 k3, .int .i64 k4, .int .i64 k5] 54) = W2
      have b1 : Below wr.heap.size wr W2 := by rw [← hW2]; exact below_alloc _ _
      have B1 : Hid (Below wr.heap.size wr W2) := b1
      have S2 : Hid (ArB w W2 t.length (rA t M j)) := S0.out.quiet b1
      have X2 : Hid (Bx W2 wr.heap.size k0 k1 k2 k3 k4 k5) := bx_new (hW2 ▸ heap_alloc_at wr _ wr.heap.size rfl)
      obtain ⟨x0, x1, x2, x3, x4, x5⟩ := X2.out.c
      have xl := X2.out.lt
      clear hW2 z0 z1 z2 z3 z4 z5 S0 b1 r1
      rcases hcase with ⟨hl, hr⟩ | ⟨l, r, hl, hr, l2, r2, ly, ry, lr⟩
      · have HLF : Hid (leafB ⟨k0, k1, k2, k3, k4, k5⟩ = true) := leafB_yes hl hr
        have HE : Hid (rA t M (j + 1) = rA t M j) := rA_leaf hlt (by rw [hy, hnd]; exact hl)
        clear hl hr
        go_wp2_with (first | (go_at_call 48; refine (vLeaf_any _ _ _ _ _ _ _).mono ?_; rintro e w3 ⟨rfl, hb3⟩; rw [HLF.out]; have S3 : Hid (ArB w w3 t.length (rA t M j)) := S2.out.quiet hb3; clear hb3))
        exact ⟨⟨j + 1, by omega, by go_num, by rw [HE.out]; exact S3.out⟩, by simp [intOf]; omega⟩
      · have HLF : Hid (leafB ⟨k0, k1, k2, k3, k4, k5⟩ = false) := leafB_no (by show k4 ≠ -1; omega)
        have HE : Hid (rA t M (j + 1) = two (rA t M j) l r (redQ k2 (ndAt t l).wt) (redQ k2 (ndAt t r).wt)) := by
          have q := rA_inner (t := t) (M := M) (m := j) (l := l) (r := r) hlt (by rw [hy, hnd]; exact hl) (by rw [hy, hnd]; exact hr)
          rw [hy, hnd] at q
          exact q
        by_cases hk2 : k2 = 0
        · have d2 : (k2 == 0) = true := by simp [hk2]
          have l0 : (0 : Int) ≤ (l : Int) := Int.natCast_nonneg _
          have r0' : (0 : Int) ≤ (r : Int) := Int.natCast_nonneg _
          have l3 : (l : Int) < (t.length : Int) := by omega
          have r3 : (r : Int) < (t.length : Int) := by omega
          have nl := NC.out l l2
          have nr := NC.out r r2
          have HSN : Hid (∀ W, ArB w W t.length (rA t M j) → ArB w ((W.setCell ⟨w.heap.size, l, none⟩ (.bool ((ndAt t l).wt == 0))).setCell ⟨w.heap.size, r, none⟩ (.bool ((ndAt t r).wt == 0))) t.length (rA t M (j + 1))) := fun W hW => by
            have e : ∀ q : Int, redQ k2 q = (q == 0) := fun q => by unfold redQ; rw [d2]; rfl
            rw [HE.out, e, e]
            exact ((hW.set _ l2).set _ r2).fn fun z _ => rfl
          subst hl hr
          clear hk2
          generalize (ndAt t l).wt = ql at *
          generalize (ndAt t r).wt = qr at *
          generalize hAj : rA t M j = A at *
          go_wp2_with (first | (go_at_call 48; refine (vLeaf_any _ _ _ _ _ _ _).mono ?_; rintro e w3 ⟨rfl, hb3⟩; rw [HLF.out]; have S3 : Hid (ArB w w3 t.length A) := S2.out.quiet hb3; have lt3 := S3.out.lt; have X3 : Hid (Bx w3 wr.heap.size k0 k1 k2 k3 (l : Int) (r : Int)) := X2.out.below hb3; have xl3 := X3.out.lt; obtain ⟨x0', x1', x2', x3', x4', x5'⟩ := X3.out.c; have fl := (S3.out.ab l l2).2; have fr := (S3.out.ab r r2).2; have vl := (S3.out.ab l l2).1; have vr := (S3.out.ab r r2).1; have nl3 := ((hb3.cell (p := ⟨b, o + l * 6 + 2, none⟩) (show b < W2.heap.size by omega)).trans (B1.out.cell (p := ⟨b, o + l * 6 + 2, none⟩) hbr)).trans nl; have nr3 := ((hb3.cell (p := ⟨b, o + r * 6 + 2, none⟩) (show b < W2.heap.size by omega)).trans (B1.out.cell (p := ⟨b, o + r * 6 + 2, none⟩) hbr)).trans nr; clear hb3))
          go_region
          go_wp2_with fail
          go_region
          go_wp2_with fail
          exact ⟨⟨j + 1, by omega, by go_num, by first | exact (HSN.out _ S3.out).drew.drew | exact (HSN.out _ S3.out).drew | exact HSN.out _ S3.out⟩, by simp [intOf]; omega⟩
        · have d2 : (k2 == 0) = false := by simp [hk2]
          have n1 := HNW.out j l hlt (Or.inl (by rw [hy, hnd]; exact hl))
          have n2 := HNW.out j r hlt (Or.inr (by rw [hy, hnd]; exact hr))
          have HE2 : Hid (rA t M (j + 1) = rA t M j) := by
            have e : ∀ q : Int, redQ k2 q = false := fun q => by unfold redQ; rw [d2]; rfl
            show _ = _
            rw [HE.out, e, e]
            funext z
            unfold two
            split
            · rename_i q; rw [q, n2]
            · split
              · rename_i q; rw [q, n1]
              · rfl
          clear hk2 n1 n2
          subst hl hr
          go_wp2_with (first | (go_at_call 48; refine (vLeaf_any _ _ _ _ _ _ _).mono ?_; rintro e w3 ⟨rfl, hb3⟩; rw [HLF.out]; have S3 : Hid (ArB w w3 t.length (rA t M j)) := S2.out.quiet hb3; have X3 : Hid (Bx w3 wr.heap.size k0 k1 k2 k3 (l : Int) (r : Int)) := X2.out.below hb3; have xl3 := X3.out.lt; obtain ⟨x0', x1', x2', x3', x4', x5'⟩ := X3.out.c; clear hb3))
          exact ⟨⟨j + 1, by omega, by go_num, by rw [HE2.out]; exact S3.out⟩, by simp [intOf]; omega⟩
    · obtain rfl : j = M.length := by omega
      clear hI
      go_wp2_with fail
      go_ret
      exact ⟨_, rfl, S0.out.ab, Nat.le_refl _, hlt0, S0.out.below⟩
end Go.Proofs.Ytiencggnijfjoaa

namespace Go.Proofs.Ytiencggnijfjoaa

open Go.RowKit

attribute [local go_sem ↓] Go.wp_at_zero Go.wp_at_succ

def castL (L : List Nat) : List Int := L.map (fun x : Nat => (x : Int))
theorem castL_length (L : List Nat) : (castL L).length = L.length := by simp [castL]
theorem isC_cast (L : List Nat) : isC (castL L) = natC L := by simp [isC, castL, natC]
theorem flt_snoc (P : Nat → Bool) {M : List Nat} {j : Nat} (h : j < M.length) : castL ((M.take (j + 1)).filter P) = if P (M.getD j 0) then castL ((M.take j).filter P) ++ [((M.getD j 0 : Nat) : Int)] else castL ((M.take j).filter P) := by
  rw [take_snoc h, List.filter_append]
  generalize M.getD j 0 = y
  cases q : P y <;> simp [castL, q]
theorem flt_len (P : Nat → Bool) (M : List Nat) (j : Nat) : (castL ((M.take j).filter P)).length ≤ M.length := by
  rw [castL_length]
  have : ((M.take j).filter P).length ≤ (M.take j).length := List.length_filter_le _ _
  have : (M.take j).length ≤ M.length := by rw [List.length_take]; omega
  omega
theorem reds_eq {t : NL} {k : Option BT} (he : keyE t = 0) (hk : Keyed t k) : castL ((kpL t).filter (rA t (kpL t) (kpL t).length)) = redsO k := by
  rcases keyE_cases he with h | h
  · obtain ⟨x, l, r, s, B, hC, rfl, hB, -⟩ := keys_tree h hk
    have e : rA t (kpL t) (kpL t).length = dn (rF t) t (fun _ => false) (kpL t) := by unfold rA; rw [List.take_length]
    rw [e]
    exact reds_inh hC.tree B (fun _ => false) 1 (kp_nodup h) hC.keys hB rfl
  · obtain ⟨rfl, -⟩ := keys_none h hk
    rw [kp_bare (by omega)]
    rfl
theorem kp_nd {t : NL} (he : keyE t = 0) : (kpL t).Nodup := by
  rcases keyE_cases he with h | h
  · exact kp_nodup h
  · rw [kp_bare (by omega)]; exact List.nodup_nil
def ovP (t : NL) (y : Nat) : Bool := overQ (ndAt t y).wt
theorem ovs_eq {t : NL} (he : keyE t = 0) : ∀ m, m ≤ (kpL t).length → ovsL (keysA t) m = castL (((kpL t).take m).filter (ovP t))
  | 0, _ => by simp [ovsL, castL]
  | m + 1, h => by
    obtain ⟨k1, -, k3⟩ := key_at he (i := m) (by omega)
    rw [flt_snoc _ (by omega)]
    show ovsL (keysA t) m ++ _ = _
    rw [ovs_eq he m (by omega), k1, k3]
    unfold ovP
    split <;> simp
set_option maxRecDepth 100000 in
set_option maxHeartbeats 2000000 in
theorem vReds_any (base : Option Addr) (b o c : Nat) (t : NL) (k : Option BT) (w : World) (h : NodesAt w base b o t) (hk : Keyed t k) :
    Calls Try.prog 26 #[.slice base t.length c] w fun e w' => ∃ v, e = .returned (.tuple #[v, .int .i64 (keyE t)]) ∧ w'.ownsRow w.heap.size 3 1 v (redsO k).length (isC (redsO k)) ∧ Below w.heap.size w w' := by
  have HA : Hid (NodesAt _ _ _ _ _) := h
  clear h
  by_cases he : keyE t = 0
  · have HE : Hid (keyE t = 0) := he
    have hfe := keyE_form he
    obtain ⟨hbig, hf⟩ := formE_ok hfe
    have hpos := hf.pos
    obtain rfl : base = some ⟨b, o, none⟩ := HA.out.base (by omega)
    have hbl := HA.out.lt (by omega)
    obtain ⟨ok1, ok2, ok3⟩ := kp_ok he
    have HOK : Hid (TreeOk t (kpL t)) := ok1
    have HF : Hid (InForm t) := hf
    have HND : Hid ((kpL t).Nodup) := kp_nd he
    have HSE : Hid (castL ((kpL t).filter (rA t (kpL t) (kpL t).length)) = redsO k) := reds_eq he hk
    obtain ⟨i0, hi0, hz0, hz1, hz2⟩ := info_parts in_info
    clear he hfe hf hk ok1 ok3
    go_enter Try.func26, Try.ntmps26
    go_wp2_with fail
    refine (vkeys_any _ b o c t _ HA.out).mono ?_
    rintro e w1 ⟨v1, rfl, ho1, hb1⟩
    rw [HE.out]
    obtain ⟨a1, c1, g1, rfl, -, -, hp1⟩ := pls_of_owns ho1
    have P1 : Hid (PlsAt w1 a1 g1 (kpL t)) := hp1
    have B1 : Hid (Below w.heap.size w w1) := hb1
    have hw1 := hb1.size
    clear ho1 hp1 hb1
    generalize kpL t = M at *
    go_wp2_with fail
    refine (vreds_any _ b o c t a1 g1 c1 M _ (HA.out.below B1.out) P1.out HF.out hbig ok2 HOK.out HND.out).mono ?_
    rintro e w2 ⟨g2, rfl, hi2, hg2, hl2, hb2⟩
    have I2 : Hid (Bls w2 g2 t.length (rA t M M.length)) := hi2
    have B2 : Hid (Below w.heap.size w w2) := B1.out.trans (hb2.mono B1.out.size)
    have P2 : Hid (PlsAt w2 a1 g1 M) := P1.out.below hb2
    have hw2 := hb2.size
    clear hi2 hb2
    generalize rA t M M.length = SS at *
    go_wp2_with fail
    go_loopw [7, 8] (fun v i wr => ∃ j : Nat, j ≤ M.length ∧ i = .int .i64 j ∧ JRow w2 wr v (castL ((M.take j).filter SS))) (fun _ i _ => M.length - (intOf i).toNat)
    case atStart => exact ⟨0, Nat.zero_le _, rfl, World.ownsRow_nil _ _ _ _, Below.refl _ _⟩
    case round =>
      obtain ⟨j, hj, rfl, hJ⟩ := hrel
      have HZ : Hid (Below w.heap.size w wr) := B2.out.trans (hJ.below.mono B2.out.size)
      have zz := hJ.below.size
      have T0 : Hid (JRow _ _ _ _) := hJ
      by_cases hlt : j < M.length
      · obtain rfl : a1 = some ⟨g1, 0, none⟩ := P2.out.base (by omega)
        have hg1 := P2.out.lt (by omega)
        have r1 := (P2.out.below hJ.below).cells j hlt
        have hyl := (HOK.out _ (getD_mem hlt)).1
        have v1 := ((I2.out.below hl2 hJ.below) _ hyl).1
        have HN : Hid _ := flt_snoc SS hlt
        have hvl := flt_len SS M j
        have hgr : g1 < wr.heap.size := by omega
        have hg2r : g2 < wr.heap.size := by omega
        have j0 : (0 : Int) ≤ (j : Int) := Int.natCast_nonneg _
        have j1 : (j : Int) < (M.length : Int) := by omega
        clear hJ
        generalize M.getD j 0 = y at *
        have y0 : (0 : Int) ≤ (y : Int) := Int.natCast_nonneg _
        have y1 : (y : Int) < (t.length : Int) := by omega
        generalize hVV : castL ((M.take j).filter SS) = V at *
        clear hVV
        cases hq : SS y
        · rw [hq] at v1
          have HN' : Hid (castL ((M.take (j + 1)).filter SS) = V) := by show _ = _; rw [HN.out, hq]; rfl
          go_wp2_with fail
          exact ⟨⟨j + 1, by omega, by go_num, by rw [HN'.out]; exact T0.out⟩, by simp [intOf]; omega⟩
        · rw [hq] at v1
          have HN' : Hid (castL ((M.take (j + 1)).filter SS) = V ++ [(y : Int)]) := by show _ = _; rw [HN.out, hq]; rfl
          go_wp2_with (first | (at_builtin; have hq := T0; (refine wpList_append_lies _ (by rfl) _ _ _ (by rfl) w2.heap.size 3 i0 _ 1 8 ins_under hi0 hz0 hz1 hz2 rfl (by omega) _ V.length _ (by rfl) (T0.out.own.alloc _) ⟨wr.heap.size, 0, none⟩ 1 1 [.int .i64 (y : Int)] (by rfl) (by rfl) (World.news_of_block (cs := #[.int .i64 (y : Int)]) (t := 3) (fr := (0, 0)) (heap_alloc_at _ _ _ (by simp))) (by simp [Value.oneCell']) (by omega) (by unfold maxLen; omega) (by omega) (by have := T0.out.below.size; simp; omega) (wr.heap.size + 1) (by simp) ?_); intro g6 c6 w6 ho hg hat hl; have T6 : Hid (JRow _ _ _ _) := T0.out.grown (q := (y : Int)) hg ho; clear ho hg hat hl hq))
          exact ⟨⟨j + 1, by omega, by go_num, by rw [HN'.out]; exact T6.out⟩, by simp [intOf]; omega⟩
      · obtain rfl : j = M.length := by omega
        rw [List.take_length] at hJ
        have HI : Hid (JRow _ _ _ _) := hJ
        clear hJ T0
        go_wp2_with fail
        go_ret2
        exact ⟨_, by rw [HE.out]; rfl, by rw [← HSE.out]; exact owns_down HI.out.own (by omega), HZ.out⟩
  · have d : (keyE t != 0) = true := by simp [he]
    obtain rfl := keyed_bad hk he
    clear hk
    clear he
    go_enter Try.func26, Try.ntmps26
    go_wp2_with (first | (go_at_call 46; refine (vkeys_any _ b o c t _ HA.out).mono ?_; rintro e w1 ⟨v1, rfl, -, hb1⟩; have B1 : Hid (Below w.heap.size w w1) := hb1; clear hb1))
    go_ret2
    exact ⟨_, rfl, World.ownsRow_nil _ _ _ _, B1.out⟩
set_option maxRecDepth 100000 in
set_option maxHeartbeats 2000000 in
theorem vOvers_any (base : Option Addr) (b o c : Nat) (t : NL) (w : World) (h : NodesAt w base b o t) :
    Calls Try.prog 28 #[.slice base t.length c] w fun e w' => ∃ v, e = .returned (.tuple #[v, .int .i64 (keyE t)]) ∧ w'.ownsRow w.heap.size 3 1 v (ovsL (keysA t) (keysA t).length).length (isC (ovsL (keysA t) (keysA t).length)) ∧ Below w.heap.size w w' := by
  have HA : Hid (NodesAt _ _ _ _ _) := h
  clear h
  by_cases he : keyE t = 0
  · have HE : Hid (keyE t = 0) := he
    have hfe := keyE_form he
    obtain ⟨hbig, hf⟩ := formE_ok hfe
    have hpos := hf.pos
    obtain rfl : base = some ⟨b, o, none⟩ := HA.out.base (by omega)
    have hbl := HA.out.lt (by omega)
    obtain ⟨ok1, ok2, ok3⟩ := kp_ok he
    have HOK : Hid (TreeOk t (kpL t)) := ok1
    have HSE : Hid (castL ((kpL t).filter (ovP t)) = ovsL (keysA t) (keysA t).length) := by
      show _ = _
      rw [← ok3, ovs_eq he _ (Nat.le_refl _), List.take_length]
    obtain ⟨i0, hi0, hz0, hz1, hz2⟩ := info_parts in_info
    clear he hfe hf ok1 ok3
    go_enter Try.func28, Try.ntmps28
    go_wp2_with fail
    refine (vkeys_any _ b o c t _ HA.out).mono ?_
    rintro e w1 ⟨v1, rfl, ho1, hb1⟩
    rw [HE.out]
    obtain ⟨a1, c1, g1, rfl, -, -, hp1⟩ := pls_of_owns ho1
    have P1 : Hid (PlsAt w1 a1 g1 (kpL t)) := hp1
    have B1 : Hid (Below w.heap.size w w1) := hb1
    have hw1 := hb1.size
    clear ho1 hp1 hb1
    generalize kpL t = M at *
    go_wp2_with fail
    go_loopw [6, 7] (fun v i wr => ∃ j : Nat, j ≤ M.length ∧ i = .int .i64 j ∧ JRow w1 wr v (castL ((M.take j).filter (ovP t)))) (fun _ i _ => M.length - (intOf i).toNat)
    case atStart => exact ⟨0, Nat.zero_le _, rfl, World.ownsRow_nil _ _ _ _, Below.refl _ _⟩
    case round =>
      obtain ⟨j, hj, rfl, hJ⟩ := hrel
      have HZ : Hid (Below w.heap.size w wr) := B1.out.trans (hJ.below.mono B1.out.size)
      have zz := hJ.below.size
      have T0 : Hid (JRow _ _ _ _) := hJ
      by_cases hlt : j < M.length
      · obtain rfl : a1 = some ⟨g1, 0, none⟩ := P1.out.base (by omega)
        have hg1 := P1.out.lt (by omega)
        have r1 := (P1.out.below hJ.below).cells j hlt
        have hyl := (HOK.out _ (getD_mem hlt)).1
        have r2 := ((HA.out.below HZ.out).cells _ hyl).2.2.1
        have HN : Hid _ := flt_snoc (ovP t) hlt
        have hvl := flt_len (ovP t) M j
        have HOV : Hid (ovP t (M.getD j 0) = decide (1 < (ndAt t (M.getD j 0)).wt)) := rfl
        have hgr : g1 < wr.heap.size := by omega
        have hbr : b < wr.heap.size := by omega
        have j0 : (0 : Int) ≤ (j : Int) := Int.natCast_nonneg _
        have j1 : (j : Int) < (M.length : Int) := by omega
        clear hJ
        generalize M.getD j 0 = y at *
        have y0 : (0 : Int) ≤ (y : Int) := Int.natCast_nonneg _
        have y1 : (y : Int) < (t.length : Int) := by omega
        generalize hVV : castL ((M.take j).filter (ovP t)) = V at *
        clear hVV
        generalize (ndAt t y).wt = k2 at *
        cases hq : decide (1 < k2)
        · have HN' : Hid (castL ((M.take (j + 1)).filter (ovP t)) = V) := by show _ = _; rw [HN.out, HOV.out, hq]; rfl
          go_wp2_with fail
          exact ⟨⟨j + 1, by omega, by go_num, by rw [HN'.out]; exact T0.out⟩, by simp [intOf]; omega⟩
        · have HN' : Hid (castL ((M.take (j + 1)).filter (ovP t)) = V ++ [(y : Int)]) := by show _ = _; rw [HN.out, HOV.out, hq]; rfl
          go_wp2_with (first | (at_builtin; have hq := T0; (refine wpList_append_lies _ (by rfl) _ _ _ (by rfl) w1.heap.size 3 i0 _ 1 8 ins_under hi0 hz0 hz1 hz2 rfl (by omega) _ V.length _ (by rfl) (T0.out.own.alloc _) ⟨wr.heap.size, 0, none⟩ 1 1 [.int .i64 (y : Int)] (by rfl) (by rfl) (World.news_of_block (cs := #[.int .i64 (y : Int)]) (t := 3) (fr := (0, 0)) (heap_alloc_at _ _ _ (by simp))) (by simp [Value.oneCell']) (by omega) (by unfold maxLen; omega) (by omega) (by have := T0.out.below.size; simp; omega) (wr.heap.size + 1) (by simp) ?_); intro g6 c6 w6 ho hg hat hl; have T6 : Hid (JRow _ _ _ _) := T0.out.grown (q := (y : Int)) hg ho; clear ho hg hat hl hq))
          exact ⟨⟨j + 1, by omega, by go_num, by rw [HN'.out]; exact T6.out⟩, by simp [intOf]; omega⟩
      · obtain rfl : j = M.length := by omega
        rw [List.take_length] at hJ
        have HI : Hid (JRow _ _ _ _) := hJ
        clear hJ T0
        go_wp2_with fail
        go_ret2
        exact ⟨_, by rw [HE.out]; rfl, by rw [← HSE.out]; exact owns_down HI.out.own (by omega), HZ.out⟩
  · have d : (keyE t != 0) = true := by simp [he]
    have HSE : Hid (ovsL (keysA t) (keysA t).length = []) := by show _ = _; rw [keys_bad he]; rfl
    clear he
    go_enter Try.func28, Try.ntmps28
    go_wp2_with (first | (go_at_call 46; refine (vkeys_any _ b o c t _ HA.out).mono ?_; rintro e w1 ⟨v1, rfl, -, hb1⟩; have B1 : Hid (Below w.heap.size w w1) := hb1; clear hb1))
    go_ret2
    exact ⟨_, rfl, by rw [HSE.out]; exact World.ownsRow_nil _ _ _ _, B1.out⟩
/-- What places weigh above 1, together. -/
def vS (t : NL) : List Nat → Int
  | [] => 0
  | y :: L => ((ndAt t y).wt - 1) + vS t L
theorem vS_append (t : NL) : ∀ a b : List Nat, vS t (a ++ b) = vS t a + vS t b
  | [], b => by simp [vS]
  | y :: a, b => by simp only [List.cons_append, vS]; rw [vS_append t a b]; omega
theorem vS_ov {t : NL} (he : keyE t = 0) : ∀ m, m ≤ (kpL t).length → ovN (keysA t) m = vS t (((kpL t).take m).filter (ovP t))
  | 0, _ => by simp [ovN, vS]
  | m + 1, h => by
    obtain ⟨k1, -, -⟩ := key_at he (i := m) (by omega)
    rw [take_snoc (by omega), List.filter_append, vS_append]
    show ovN (keysA t) m + max _ _ = _
    rw [vS_ov he m (by omega), k1]
    have e : ovP t ((kpL t).getD m 0) = decide (1 < (ndAt t ((kpL t).getD m 0)).wt) := rfl
    by_cases q : 1 < (ndAt t ((kpL t).getD m 0)).wt
    · rw [List.filter_cons_of_pos (by rw [e]; exact decide_eq_true q)]
      simp only [List.filter_nil, vS]
      omega
    · rw [List.filter_cons_of_neg (by rw [e, decide_eq_false q]; simp)]
      simp only [List.filter_nil, vS]
      omega
theorem vS_bound {t : NL} (hw : ∀ c, 0 ≤ (ndAt t c).wt ∧ (ndAt t c).wt ≤ 1000000) : ∀ L : List Nat, -(L.length : Int) ≤ vS t L ∧ vS t L ≤ 1000000 * (L.length : Int)
  | [] => by simp [vS]
  | y :: L => by
    have := vS_bound hw L
    have := hw y
    simp only [vS, List.length_cons]
    omega
set_option maxRecDepth 100000 in
set_option maxHeartbeats 2000000 in
theorem vViolations_any (base : Option Addr) (b o c : Nat) (t : NL) (k : Option BT) (w : World) (h : NodesAt w base b o t) (hk : Keyed t k) :
    Calls Try.prog 30 #[.slice base t.length c] w fun e w' => e = .returned (.tuple #[.int .i64 (vioO k), .int .i64 (keyE t)]) ∧ Below w.heap.size w w' := by
  have HA : Hid (NodesAt _ _ _ _ _) := h
  have HK : Hid (Keyed t k) := hk
  clear h
  by_cases he : keyE t = 0
  · have HE : Hid (keyE t = 0) := he
    have hfe := keyE_form he
    obtain ⟨hbig, hf⟩ := formE_ok hfe
    have hpos := hf.pos
    obtain rfl : base = some ⟨b, o, none⟩ := HA.out.base (by omega)
    have hbl := HA.out.lt (by omega)
    obtain ⟨ok1, ok2, ok3⟩ := kp_ok he
    have HOK : Hid (∀ y ∈ (kpL t).filter (ovP t), y < t.length) := fun y hy => (ok1 y (List.mem_filter.1 hy).1).1
    have HWT : Hid (∀ c, 0 ≤ (ndAt t c).wt ∧ (ndAt t c).wt ≤ 1000000) := form_wt hf
    have HSE : Hid (ovsL (keysA t) (keysA t).length = castL ((kpL t).filter (ovP t))) := by
      show _ = _
      rw [← ok3, ovs_eq he _ (Nat.le_refl _), List.take_length]
    obtain ⟨-, -, hR, hV⟩ := keys_ok hk
    have HVE : Hid (vioO k = ((redsO k).length : Int) + vS t ((kpL t).filter (ovP t))) := by
      show _ = _
      rw [hV, ← ok3, vS_ov he _ (Nat.le_refl _), List.take_length]
    have hOl : ((kpL t).filter (ovP t)).length ≤ 100000 := Nat.le_trans (List.length_filter_le _ _) ok2
    clear he hfe hf ok1 ok3 hk hV
    go_enter Try.func30, Try.ntmps30
    go_wp2_with fail
    refine (vReds_any _ b o c t k _ HA.out HK.out).mono ?_
    rintro e w1 ⟨v1, rfl, ho1, hb1⟩
    rw [HE.out]
    obtain ⟨a1, c1, rfl⟩ := own_slice ho1
    have B1 : Hid (Below w.heap.size w w1) := hb1
    clear ho1 hb1
    generalize redsO k = R at *
    go_wp2_with fail
    refine (vOvers_any _ b o c t _ (HA.out.below B1.out)).mono ?_
    rintro e w2 ⟨v2, rfl, ho2, hb2⟩
    rw [HSE.out, isC_cast, castL_length] at ho2
    rw [HE.out]
    obtain ⟨a2, c2, g2, rfl, -, -, hp2⟩ := pls_of_owns ho2
    have P2 : Hid (PlsAt w2 a2 g2 ((kpL t).filter (ovP t))) := hp2
    have B2 : Hid (Below w.heap.size w w2) := B1.out.trans (hb2.mono B1.out.size)
    have hw2 := B2.out.size
    clear ho2 hp2 hb2
    generalize (kpL t).filter (ovP t) = O at *
    go_wp2_with fail
    go_loopw [8, 9] (fun n i wr => ∃ j : Nat, j ≤ O.length ∧ i = .int .i64 j ∧ n = .int .i64 ((R.length : Int) + vS t (O.take j)) ∧ Below w2.heap.size w2 wr) (fun _ i _ => O.length - (intOf i).toNat)
    case atStart => exact ⟨0, Nat.zero_le _, rfl, by simp [vS], Below.refl _ _⟩
    case round =>
      obtain ⟨j, hj, rfl, rfl, hJ⟩ := hrel
      have HZ : Hid (Below w.heap.size w wr) := B2.out.trans (hJ.mono B2.out.size)
      have HJ : Hid (Below w2.heap.size w2 wr) := hJ
      have zz := hJ.size
      by_cases hlt : j < O.length
      · obtain rfl : a2 = some ⟨g2, 0, none⟩ := P2.out.base (by omega)
        have hg2 := P2.out.lt (by omega)
        have r1 := (P2.out.below hJ).cells j hlt
        have hyl := HOK.out _ (getD_mem hlt)
        have r2 := ((HA.out.below HZ.out).cells _ hyl).2.2.1
        have hbr : b < wr.heap.size := by omega
        have hgr : g2 < wr.heap.size := by omega
        have j0 : (0 : Int) ≤ (j : Int) := Int.natCast_nonneg _
        have j1 : (j : Int) < (O.length : Int) := by omega
        have tl := vS_bound HWT.out (O.take j)
        have tk : (O.take j).length ≤ 100000 := by rw [List.length_take]; omega
        have wl := HWT.out (O.getD j 0)
        have HS : Hid (vS t (O.take (j + 1)) = vS t (O.take j) + ((ndAt t (O.getD j 0)).wt - 1)) := by show _ = _; rw [take_snoc hlt, vS_append]; simp [vS]
        clear hJ
        generalize O.getD j 0 = y at *
        have y0 : (0 : Int) ≤ (y : Int) := Int.natCast_nonneg _
        have y1 : (y : Int) < (t.length : Int) := by omega
        generalize (ndAt t y).wt = q at *
        generalize vS t (O.take j) = s at *
        have e1 : IntKind.i64.wrap (q - 1) = q - 1 := wrap_ok _ (by omega) (by omega)
        have e2 : IntKind.i64.wrap ((R.length : Int) + s + (q - 1)) = (R.length : Int) + s + (q - 1) := wrap_ok _ (by omega) (by omega)
        go_wp2_with fail
        exact ⟨⟨j + 1, by omega, by go_num, by rw [HS.out, ← Int.add_assoc], HJ.out⟩, by simp [intOf]; omega⟩
      · obtain rfl : j = O.length := by omega
        clear hJ
        go_wp2_with fail
        go_ret2
        exact ⟨by rw [HE.out, HVE.out, List.take_length]; rfl, HZ.out⟩
  · have d : (keyE t != 0) = true := by simp [he]
    obtain rfl := keyed_bad hk he
    clear he hk
    go_enter Try.func30, Try.ntmps30
    go_wp2_with (first | (go_at_call 26; refine (vReds_any _ b o c t none _ HA.out HK.out).mono ?_; rintro e w1 ⟨v1, rfl, -, hb1⟩; have B1 : Hid (Below w.heap.size w w1) := hb1; clear hb1))
    go_ret2
    exact ⟨rfl, B1.out⟩
end Go.Proofs.Ytiencggnijfjoaa
