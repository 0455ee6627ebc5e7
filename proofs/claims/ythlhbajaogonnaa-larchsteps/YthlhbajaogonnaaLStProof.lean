/- Proved: whatever the table, LarchSteps returns true, and its argument reads as before: each of the 21 steps, wherever Spots says that it can be done, keeps the pairs, the order and the even sums of the landed table, and adds no violation Layer 16, pure: searches, parents, leaves, heights of a table in form. Layer 16, pure: what searches, parents, leaves, heights and pairs of a table in form say of one another. Layer 16: what Norm, Sub, Mirror, Pairs and Graft answer, as trees. Layer 18: all that StepsLeaves rests on. Stage 9, through the layers, pure: sums and violations of the keys' trees ahead of a step and behind it. Stage 9, through the layers: the law LarchSteps. Made by mk_lsl.py. -/
import Derived.Test.YthlhbajaogonnaaTHgt
import Derived.Test.YthlhbajaogonnaaTUpC
import Derived.Test.YthlhbajaogonnaaTLeav
import Derived.Test.YthlhbajaogonnaaTOrdd
import Derived.Test.YthlhbajaogonnaaTGrB
import Derived.Test.YthlhbajaogonnaaTBt2
import Derived.Test.YthlhbajaogonnaaSMir
import Derived.Test.YthlhbajaogonnaaSQ12
import Derived.Test.YthlhbajaogonnaaWSn2
import Derived.Test.YthlhbajaogonnaaSSpots
import Derived.Deep.RegionHeld3
import Derived.Test.YthlhbajaogonnaaSOpen
import Derived.Test.YthlhbajaogonnaaRows



namespace Go.Proofs.Ythlhbajaogonnaa

theorem way_chain {t : NL} {key : Int} {p : Nat} {P : List Nat} (h : Way t key p P) : ∀ i, i < P.length → P.getD i 0 < t.length ∧ (i + 1 < P.length → Child t (P.getD i 0) (P.getD (i + 1) 0) ∧ (ndAt t (P.getD i 0)).l ≠ -1) ∧ (i + 1 = P.length → (ndAt t (P.getD i 0)).l = -1) := by
  induction h with
  | leaf hp hl hr => intro i hi; simp at hi; subst hi; simp [hp, hl]
  | @inner p l r q P hp hl hr hq h ih =>
    obtain ⟨P', rfl⟩ := h.head
    intro i hi
    cases i with
    | zero =>
      refine ⟨by simpa using hp, fun _ => ⟨?_, by simp only [List.getD_cons_zero]; omega⟩, fun h => by simp at h⟩
      show Child t p q
      subst hq
      by_cases g : goesL (ndAt t p) key
      · rw [if_pos g]; exact Or.inl hl
      · rw [if_neg g]; exact Or.inr hr
    | succ i =>
      have := ih i (by simpa using hi)
      simpa using this
theorem uN_child {t : NL} (hg : Good t) {p c : Nat} (hp : p < t.length) (h : Child t p c) : uN t c = p := by
  unfold uN
  rw [up_child hg hp h t.length hp (Nat.le_refl _)]
  simp

theorem lv_append (t : NL) (a b : List Nat) : lvL t (a ++ b) = lvL t a ++ lvL t b := by simp [lvL]
theorem tree_leaves {t : NL} {p : Nat} {L : List Nat} (h : Tree t p L) : L.length + 1 = 2 * (lvL t L).length := by
  induction h with
  | leaf hp hl hr => simp [lvL, lfB, hl]
  | @inner p l r L R hp hl hr _ _ ih1 ih2 =>
    have e : lvL t (p :: (L ++ R)) = lvL t L ++ lvL t R := by
      rw [← lv_append]
      unfold lvL
      rw [List.filter_cons_of_neg (by simp [lfB]; omega)]
    rw [e]
    simp only [List.length_cons, List.length_append]
    omega
/-- In a tree's order a parent stands ahead of its child. -/
theorem tree_before {t : NL} {p : Nat} {L : List Nat} (h : Tree t p L) : ∀ c ∈ L, c ≠ p → ∃ A B x, L = A ++ c :: B ∧ x ∈ A ∧ Child t x c := by
  induction h with
  | leaf hp hl hr => intro c hc hn; simp at hc; exact absurd hc hn
  | @inner p l r L R hp hl hr h1 h2 ih1 ih2 =>
    intro c hc hn
    simp only [List.mem_cons, List.mem_append] at hc
    rcases hc with hc | hc | hc
    · exact absurd hc hn
    · by_cases e : c = l
      · subst e
        obtain ⟨L', rfl⟩ : ∃ L', L = c :: L' := by cases h1 <;> exact ⟨_, rfl⟩
        exact ⟨[p], L' ++ R, p, by simp, by simp, Or.inl hl⟩
      · obtain ⟨A, B, x, q1, q2, q3⟩ := ih1 c hc e
        exact ⟨p :: A, B ++ R, x, by rw [q1]; simp, List.mem_cons_of_mem _ q2, q3⟩
    · by_cases e : c = r
      · subst e
        obtain ⟨R', rfl⟩ : ∃ R', R = c :: R' := by cases h2 <;> exact ⟨_, rfl⟩
        exact ⟨p :: L, R', p, by simp, by simp, Or.inr hr⟩
      · obtain ⟨A, B, x, q1, q2, q3⟩ := ih2 c hc e
        exact ⟨p :: (L ++ A), B, x, by rw [q1]; simp, by simp [q2], q3⟩
theorem dp_stable (u : Nat → Nat) (T : List Nat) (x : Nat) : ∀ (k j : Nat), j ≤ k → (∀ i, j ≤ i → i < k → T.getD i 0 ≠ x) → dpN u T k x = dpN u T j x
  | 0, j, h, _ => by obtain rfl : j = 0 := by omega
                     rfl
  | k + 1, j, h, hx => by
    by_cases e : j = k + 1
    · rw [e]
    · rw [show dpN u T (k + 1) x = dpN u T k x by
        show (if x = T.getD k 0 then _ else _) = _
        rw [if_neg (fun q => hx k (by omega) (by omega) q.symm)]]
      exact dp_stable u T x k j (by omega) (fun i h1 h2 => hx i h1 (by omega))
theorem mx_mono (u : Nat → Nat) (T : List Nat) : ∀ (k j : Nat), j ≤ k → mxN u T j ≤ mxN u T k
  | 0, j, h => by obtain rfl : j = 0 := by omega
                  exact Int.le_refl _
  | k + 1, j, h => by
    by_cases e : j = k + 1
    · rw [e]; exact Int.le_refl _
    · have := mx_mono u T k j (by omega)
      show _ ≤ max _ _
      omega
theorem mx_bound (u : Nat → Nat) (T : List Nat) : ∀ j : Nat, 0 ≤ mxN u T j ∧ mxN u T j ≤ j
  | 0 => by simp [mxN]
  | j + 1 => by
    have h1 := mx_bound u T j
    have h2 := dp_bound u T j (u (T.getD j 0))
    show 0 ≤ max _ _ ∧ max _ _ ≤ _
    omega
theorem getD_right (A B : List Nat) (i : Nat) (h : A.length ≤ i) : (A ++ B).getD i 0 = B.getD (i - A.length) 0 := by
  simp only [List.getD_eq_getElem?_getD, List.getElem?_append_right h]
theorem getD_append_mid (A B : List Nat) (c : Nat) : (A ++ c :: B).getD A.length 0 = c := by simp
theorem getD_in {L : List Nat} {i : Nat} (h : i < L.length) : L.getD i 0 ∈ L := by
  rw [List.getD_eq_getElem?_getD, List.getElem?_eq_getElem h]; exact List.getElem_mem h
/-- A child lies one deeper, and no deeper than the height. -/
theorem dp_child {t : NL} (hg : Good t) {T : List Nat} (hT : Tree t 0 (0 :: T)) (hN : (0 :: T).Nodup) {p c : Nat} (hp : p < t.length) (h : Child t p c) (hc : c ∈ 0 :: T) :
    dpN (uN t) T T.length c = dpN (uN t) T T.length p + 1 ∧ dpN (uN t) T T.length c ≤ mxN (uN t) T T.length := by
  obtain ⟨c1, c2⟩ := child_pos hg hp h
  obtain ⟨A, B, x, q1, q2, q3⟩ := tree_before hT c hc (by omega)
  have hx : x = p := by
    have h1 : x < t.length := hT.all x (by rw [q1]; simp [q2])
    exact cnt_uniq (hg.one c c1 c2) h1 hp q3 h
  subst hx
  cases A with
  | nil => cases q2
  | cons a A =>
    rw [List.cons_append] at q1
    injection q1 with e1 e2
    subst e1
    have hN' := hN
    rw [e2, List.nodup_cons] at hN'
    obtain ⟨n1, n2⟩ := hN'
    have hl : T.length = A.length + (B.length + 1) := by rw [e2]; simp
    have gc : T.getD A.length 0 = c := by rw [e2]; exact getD_append_mid _ _ _
    have far : ∀ y, y ∈ 0 :: A → ∀ i, A.length ≤ i → i < T.length → T.getD i 0 ≠ y := by
      intro y hy i h1 h2 q
      have hm : T.getD i 0 ∈ c :: B := by
        rw [e2, getD_right _ _ _ h1]
        exact getD_in (by simp; omega)
      rw [q] at hm
      simp only [List.mem_cons] at hy
      rcases hy with rfl | hy
      · exact n1 (List.mem_append_right _ hm)
      · exact (List.nodup_append.1 n2).2.2 y hy y hm rfl
    have farc : ∀ i, A.length + 1 ≤ i → i < T.length → T.getD i 0 ≠ c := by
      intro i h1 h2 q
      have hm : T.getD i 0 ∈ B := by
        rw [e2, getD_right _ _ _ (by omega), show i - A.length = (i - A.length - 1) + 1 by omega, List.getD_cons_succ]
        exact getD_in (by omega)
      rw [q] at hm
      exact (List.nodup_cons.1 (List.nodup_append.1 n2).2.1).1 hm
    have s1 := dp_stable (uN t) T x T.length A.length (by omega) (far x q2)
    have s2 := dp_stable (uN t) T c T.length (A.length + 1) (by omega) farc
    have hu := uN_child hg hp h
    have s3 : dpN (uN t) T (A.length + 1) c = dpN (uN t) T A.length x + 1 := by
      show (if c = T.getD A.length 0 then _ else _) = _
      rw [if_pos gc.symm, gc, hu]
    refine ⟨by omega, ?_⟩
    have m1 := mx_mono (uN t) T T.length (A.length + 1) (by omega)
    have m2 : dpN (uN t) T A.length x + 1 ≤ mxN (uN t) T (A.length + 1) := by
      show _ ≤ max _ _
      rw [gc, hu]
      omega
    omega
theorem way_deep {t : NL} (hg : Good t) {T : List Nat} (hT : Tree t 0 (0 :: T)) (hN : (0 :: T).Nodup) (hall : ∀ c, c < t.length → c ∈ 0 :: T) {key : Int} {P : List Nat} (hP : Way t key 0 P) :
    ∀ i, i < P.length → dpN (uN t) T T.length (P.getD i 0) = (i : Int) ∧ (i : Int) ≤ mxN (uN t) T T.length
  | 0, h => by
    obtain ⟨P', rfl⟩ := hP.head
    have h0 := dp_stable (uN t) T 0 T.length 0 (by omega) (fun i _ h2 q => (List.nodup_cons.1 hN).1 (q ▸ getD_in h2))
    exact ⟨h0, (mx_bound _ _ _).1⟩
  | i + 1, h => by
    have ih := way_deep hg hT hN hall hP i (by omega)
    obtain ⟨a1, a2, -⟩ := way_chain hP i (by omega)
    have b1 := (way_chain hP (i + 1) h).1
    have := dp_child hg hT hN a1 (a2 h).1 (hall _ b1)
    omega
/-- A search is no longer than the height, which is less than the nodes. -/
theorem way_height {t : NL} (hf : InForm t) (he : formE t = 0) (key : Int) : 0 < (wayL t key).length ∧ ((wayL t key).length : Int) - 1 ≤ hgtA t ∧ hgtA t < t.length := by
  obtain ⟨T, hT, hX, hl, -⟩ := tail_facts hf
  obtain ⟨hT', hN, hlen⟩ := theL_form hf
  rw [hX] at hT' hN hlen
  obtain ⟨P, hP, -⟩ := way_of key hT
  have F : hgtA t = mxN (uN t) T T.length := by unfold hgtA; rw [if_pos he, hX]; rfl
  rw [wayL_of he hP, F]
  have hpos : 0 < P.length := by obtain ⟨P', rfl⟩ := hP.head; simp
  have := (way_deep hf.good hT hN (all_in hN hT.all hlen) hP (P.length - 1) (by omega)).2
  have := mx_bound (uN t) T T.length
  omega

end Go.Proofs.Ythlhbajaogonnaa


namespace Go.Proofs.Ythlhbajaogonnaa

theorem leaves_count {t : NL} (hf : InForm t) (he : formE t = 0) : (leafL t).length = cntB (lfB t) t.length ∧ t.length + 1 = 2 * (leafL t).length := by
  obtain ⟨hT, hN, hl⟩ := theL_form hf
  have F : leafL t = lvL t (theL t 0) := by unfold leafL; rw [if_pos he]
  rw [F]
  have := tree_leaves hT
  exact ⟨nodup_count _ hN hT.all hl, by omega⟩

theorem pr_append (t : NL) : ∀ a b, prL t (a ++ b) = prL t a ++ prL t b
  | [], b => rfl
  | x :: a, b => by
    have ih := pr_append t a b
    by_cases h : (ndAt t x).inf = 0 <;> simp [prL, h, ih]
/-- Where a tree is ordered its pairs rise, and a search for each ends at it. -/
theorem ord_pairs {t : NL} {p : Nat} {S : Int → Prop} (h : OrdAt t p S) : ∀ {L : List Nat}, Tree t p L → (prL t (lvL t L)).Pairwise (fun a b => a.1 < b.1) ∧
    ∀ x ∈ prL t (lvL t L), S x.1 ∧ ∃ (q : Nat) (P : List Nat), Way t x.1 p (P ++ [q]) ∧ q < t.length ∧ (ndAt t q).inf = 0 ∧ (ndAt t q).key = x.1 ∧ (ndAt t q).val = x.2 := by
  induction h with
  | @leaf p S hp hl hr h =>
    intro L hT
    cases hT with
    | inner _ hl' => omega
    | leaf =>
      have e : lvL t [p] = [p] := by simp [lvL, lfB, hl]
      rw [e]
      by_cases hi : (ndAt t p).inf = 0
      · simp only [prL, if_pos hi]
        refine ⟨by simp, fun x hx => ?_⟩
        simp at hx
        subst hx
        exact ⟨h hi, p, [], Way.leaf hp hl hr, hp, hi, rfl, rfl⟩
      · simp only [prL, if_neg hi]
        exact ⟨by simp, fun x hx => by cases hx⟩
  | @inner p l r S hp hl hr h1 h2 ih1 ih2 =>
    intro L hT
    cases hT with
    | leaf _ hl' => omega
    | @inner _ l' r' L1 L2 _ hl' hr' t1 t2 =>
      obtain rfl := Int.ofNat.inj (hl.symm.trans hl')
      obtain rfl := Int.ofNat.inj (hr.symm.trans hr')
      have e : lvL t (p :: (L1 ++ L2)) = lvL t L1 ++ lvL t L2 := by
        rw [← lv_append]
        unfold lvL
        rw [List.filter_cons_of_neg (by simp [lfB]; omega)]
      obtain ⟨a1, a2⟩ := ih1 t1
      obtain ⟨b1, b2⟩ := ih2 t2
      rw [e, pr_append]
      refine ⟨List.pairwise_append.2 ⟨a1, b1, fun x hx y hy => ?_⟩, fun x hx => ?_⟩
      · have g1 := (a2 x hx).1.2
        have g2 := (b2 y hy).1.2
        unfold goesL at g1 g2
        omega
      · rcases List.mem_append.1 hx with hx | hx
        · obtain ⟨⟨s1, s2⟩, q, P, hW, c⟩ := a2 x hx
          exact ⟨s1, q, p :: P, Way.inner hp hl hr (if_pos s2).symm hW, c⟩
        · obtain ⟨⟨s1, s2⟩, q, P, hW, c⟩ := b2 x hx
          exact ⟨s1, q, p :: P, Way.inner hp hl hr (if_neg s2).symm hW, c⟩
theorem pairs_rise {t : NL} (hf : InForm t) (he : formE t = 0) (ho : ordP t) : ∀ i, i < (pairL t).length → (0 < i → keyAt (pairL t) (i - 1) < keyAt (pairL t) i) ∧
    ∃ (q : Nat) (P : List Nat), wayL t (keyAt (pairL t) i) = P ++ [q] ∧ q < t.length ∧ (ndAt t q).inf = 0 ∧ (ndAt t q).key = keyAt (pairL t) i ∧ (ndAt t q).val = valAt (pairL t) i := by
  obtain ⟨hT, -, -⟩ := theL_form hf
  have F : pairL t = prL t (lvL t (theL t 0)) := by unfold pairL leafL; rw [if_pos he, if_pos he]
  obtain ⟨a, b⟩ := ord_pairs ho hT
  rw [← F] at a b
  generalize pairL t = X at a b
  intro i hi
  have hk : ∀ j, (h : j < X.length) → keyAt X j = X[j].1 ∧ valAt X j = X[j].2 := fun j h => by simp [keyAt, valAt, List.getD_eq_getElem?_getD, List.getElem?_eq_getElem h]
  refine ⟨fun h0 => ?_, ?_⟩
  · rw [(hk i hi).1, (hk (i - 1) (by omega)).1]
    exact List.pairwise_iff_getElem.1 a (i - 1) i (by omega) hi (by omega)
  · obtain ⟨-, q, P, hW, c1, c2, c3, c4⟩ := b X[i] (List.getElem_mem hi)
    rw [(hk i hi).1, (hk i hi).2]
    exact ⟨q, P, wayL_of he hW, c1, c2, c3, c4⟩
end Go.Proofs.Ythlhbajaogonnaa




namespace Go.Proofs.Ythlhbajaogonnaa

theorem normL_abs {t : NL} (he : formE t = 0) {b : BT} (hb : Abs t 0 b) : normL t = b.lay 0 := by
  obtain ⟨-, hf⟩ := formE_ok he
  obtain ⟨hT, hN, -⟩ := theL_form hf
  rw [normL_ok he]
  exact part_lay hT hN hb
theorem subL_abs {t : NL} (he : formE t = 0) {x : Nat} (hx : x < t.length) {b : BT} (hb : Abs t x b) : subL t (x : Int) = b.lay 0 ∧ subE t (x : Int) = 0 := by
  obtain ⟨-, hf⟩ := formE_ok he
  obtain ⟨M, h1, h2, -, -⟩ := form_at hf x hx
  unfold subL subE
  rw [if_pos ⟨he, by omega, by omega⟩, if_neg (by simp [he]), if_pos ⟨by omega, by omega⟩, Int.toNat_natCast, theL_of h1]
  exact ⟨part_lay h1 h2 hb, rfl⟩
theorem mirA_abs {t : NL} (he : formE t = 0) {b : BT} (hb : Abs t 0 b) : mirA t = b.mir.lay 0 := by
  obtain ⟨-, hf⟩ := formE_ok he
  obtain ⟨M, h1, h2, -⟩ := mir_form hf
  unfold mirA
  rw [if_pos he, theL_of h1]
  exact part_lay h1 h2 (mir_abs hb)
theorem prs_abs {t : NL} {p : Nat} {L : List Nat} (h : Tree t p L) : ∀ {b : BT}, Abs t p b → prL t (lvL t L) = b.prs := by
  induction h with
  | @leaf p hp hl hr =>
    intro b hb
    cases hb with
    | node _ hl' => omega
    | leaf => by_cases q : (ndAt t p).inf = 0 <;> simp [lvL, lfB, hl, prL, BT.prs, ndP, q]
  | @inner p l r L R hp hl hr _ _ ih1 ih2 =>
    intro b hb
    cases hb with
    | leaf _ hl' => omega
    | node _ hl' hr' a1 a2 =>
      obtain rfl := Int.ofNat.inj (hl.symm.trans hl')
      obtain rfl := Int.ofNat.inj (hr.symm.trans hr')
      have e : lvL t (p :: (L ++ R)) = lvL t L ++ lvL t R := by
        rw [← lv_append]
        unfold lvL
        rw [List.filter_cons_of_neg (by simp [lfB]; omega)]
      rw [e, pr_append, ih1 a1, ih2 a2]
      rfl
theorem pairL_abs {t : NL} (he : formE t = 0) {b : BT} (hb : Abs t 0 b) : pairL t = b.prs := by
  obtain ⟨-, hf⟩ := formE_ok he
  obtain ⟨hT, -, -⟩ := theL_form hf
  unfold pairL leafL
  rw [if_pos he, if_pos he]
  exact prs_abs hT hb
theorem graft_ex {t u : NL} {q : Nat} (hf : InForm t) (hu : InForm u) (hq : q < t.length) : ∃ b bu, Abs u 0 bu ∧ GraftR t q bu 0 b := by
  obtain ⟨L, b, bu, Mq, h1, h2, h3, h4, -⟩ := graft_lay hf hu hq (repl_all (q := q) hu.pos) (f := fun x => if x = 0 then q else t.length - 1 + x) rfl (ren_all hq hu) (fun x y hx hy e => by
    have e' : (if x = 0 then q else t.length - 1 + x) = (if y = 0 then q else t.length - 1 + y) := e
    have := hf.pos
    split at e' <;> split at e' <;> omega) (fun x hx => by
    show (if x = 0 then q else t.length - 1 + x) = q ∨ t.length ≤ (if x = 0 then q else t.length - 1 + x)
    have := hf.pos
    split
    · exact Or.inl rfl
    · exact Or.inr (by omega)) (fun e => e)
  exact ⟨b, bu, h3, h4⟩
theorem graE_abs {t u : NL} (h1 : formE t = 0) (h2 : formE u = 0) {q : Nat} (hq : q < t.length) {b bu : BT} (hu : Abs u 0 bu) (hg : GraftR t q bu 0 b) : graE t (q : Int) u = (if 100000 < b.size then 2 else 0) := by
  unfold graE
  rw [if_neg (by simp [sameE_ok h1 h2]), if_pos ⟨by omega, by omega⟩, Int.toNat_natCast, graB_of hu hg]
theorem graA_abs {t u : NL} (h1 : formE t = 0) (h2 : formE u = 0) {q : Nat} (hq : q < t.length) {b bu : BT} (hu : Abs u 0 bu) (hg : GraftR t q bu 0 b) (hs : b.size ≤ 100000) : graA t (q : Int) u = b.lay 0 := by
  unfold graA
  rw [if_pos (by rw [graE_abs h1 h2 hq hu hg, if_neg (by omega)]), Int.toNat_natCast, graB_of hu hg]
/-- In a table that is numbered from the root on. -/
theorem lay_up {b : BT} (hb : b.ok) (hs : b.size ≤ 100000) : ∀ i, 1 ≤ i → i < (b.lay 0).length → ∃ y : Nat, (parL (b.lay 0)).getD i 0 = (y : Int) ∧ y < i ∧ (ndAt (b.lay 0) y).l = ((y + 1 : Nat) : Int) := by
  intro i h1 h2
  have he := lay_formE hb hs
  have hf := lay_form hb
  obtain ⟨L, t1, t2, t3⟩ := hf.tree
  obtain ⟨-, -, x, -, hx, hc⟩ := tree_up t1 i (all_in t2 t1.all t3 i h2) (by omega)
  have hxl := t1.all x hx
  have e := laid_each b hb (laid_self b) x (by rwa [BT.lay_length] at hxl)
  rw [Nat.zero_add] at e
  have hp : (parL (b.lay 0)).getD i 0 = (x : Int) := by
    unfold parL
    rw [if_pos he]
    simp only [upL, List.getD_eq_getElem?_getD, List.getElem?_map, List.getElem?_range h2]
    exact up_child hf.good hxl hc _ hxl (Nat.le_refl _)
  refine ⟨x, hp, ?_, ?_⟩
  · rcases e.2 with q | q <;> rcases hc with hc | hc <;> omega
  · rcases e.2 with q | q
    · rcases hc with hc | hc <;> omega
    · exact q.1
/-- All that TableGrafts rests on. -/
structure GF (t u : NL) (x : Nat) (N X M V G : NL) (P : PL) : Prop where
  n1 : normL t = N
  n2 : formE N = 0
  n3 : N.length = t.length
  s1 : subL t (x : Int) = X
  s2 : subE t (x : Int) = 0
  g1 : graA t (x : Int) X = N
  g2 : graE t (x : Int) X = 0
  b1 : sameB t N = true
  b2 : sameE t N = 0
  up : ∀ i, 1 ≤ i → i < N.length → ∃ y : Nat, (parL N).getD i 0 = (y : Int) ∧ y < i ∧ (ndAt N y).l = ((y + 1 : Nat) : Int)
  m1 : mirA t = M
  m2 : formE M = 0
  m3 : mirA M = N
  p1 : pairL t = P
  p2 : pairL M = P.reverse
  e1 : graE N (x : Int) u = 2 ∨ graE N (x : Int) u = 0 ∧ graA N (x : Int) u = G ∧ formE G = 0 ∧ subL G (x : Int) = V ∧ subE G (x : Int) = 0
  w1 : normL u = V
theorem gf_of {t u : NL} (h1 : formE t = 0) (h2 : formE u = 0) {x : Nat} (hx : x < t.length) : ∃ N X M V G P, GF t u x N X M V G P := by
  obtain ⟨hb1, hf⟩ := formE_ok h1
  obtain ⟨hb2, hu⟩ := formE_ok h2
  obtain ⟨B, a1, a2, a3⟩ := form_abs hf
  obtain ⟨W, w1, w2, w3⟩ := form_abs hu
  obtain ⟨D, d1, d2, d3⟩ := form_abs_at hf hx
  have n2 := lay_formE a3 (by omega)
  have nN := normL_abs h1 a1
  have x2 := lay_formE d3 (by omega)
  obtain ⟨b, bu, g1, g2⟩ := graft_ex hf (lay_form d3) hx
  obtain rfl := g1.det (lay_abs0 D)
  have g3 := graft_self d1 g2
  obtain rfl := g3.det a1
  have m2 := lay_formE (BT.mir_ok a3) (by rw [BT.mir_size]; omega)
  have hl : (b.lay 0).length = t.length := by rw [BT.lay_length]; exact a2
  have gp := graft_put (u := W) b (o := 0) (i := x) (by omega) (laid_self b)
  rw [Nat.zero_add] at gp
  have go := graft_ok (lay_form a3) w3 gp
  have ge := graE_abs n2 h2 (by omega) w1 gp
  refine ⟨b.lay 0, bu.lay 0, b.mir.lay 0, W.lay 0, (b.put x W).lay 0, b.prs, nN, n2, hl, (subL_abs h1 hx d1).1, (subL_abs h1 hx d1).2, graA_abs h1 x2 hx (lay_abs0 bu) g2 (by omega), by rw [graE_abs h1 x2 hx (lay_abs0 bu) g2, if_neg (by omega)], ?_, sameE_ok h1 n2, lay_up a3 (by omega), mirA_abs h1 a1, m2, by rw [mirA_abs m2 (lay_abs0 _), BT.mir_mir], pairL_abs h1 a1, by rw [pairL_abs m2 (lay_abs0 _), BT.mir_prs], ?_, normL_abs h2 w1⟩
  · unfold sameB
    rw [if_pos ⟨h1, n2⟩, nN, normL_abs n2 (lay_abs0 b)]
    unfold nlEq
    simp
  · by_cases hs : 100000 < (b.put x W).size
    · rw [if_pos hs] at ge
      exact Or.inl ge
    · rw [if_neg hs] at ge
      have f := lay_formE go (by omega)
      have hxx := put_abs (u := W) b (o := 0) (i := x) (by omega) (laid_self (b.put x W))
      rw [Nat.zero_add] at hxx
      exact Or.inr ⟨ge, graA_abs n2 h2 (by omega) w1 gp (by omega), f, subL_abs f hxx.lt hxx⟩
end Go.Proofs.Ythlhbajaogonnaa


namespace Go.Proofs.Ythlhbajaogonnaa

theorem ord_abs {t : NL} {p : Nat} {b : BT} (h : Abs t p b) : ∀ {S : Int → Prop}, OrdAt t p S ↔ b.ord false S := by
  induction h with
  | leaf hp hl hr => intro S; exact ord_leaf hp hl hr
  | node hp hl hr _ _ ih1 ih2 =>
    intro S
    rw [ord_inner hp hl hr, ih1, ih2]
    exact Iff.rfl
structure LvF (t u : NL) (x : Nat) (X : NL) (P : PL) (oa ob : Bool) : Prop where
  f1 : formE t = 0
  f2 : formE u = 0
  n1 : normL u = u
  p1 : pairL t = P
  p2 : pairL u = P
  o1 : ordB t = oa
  o2 : ordB u = ob
  oo : oa = true → ob = true
  r1 : rootR t = ((x : Int), 0)
  r2 : rootR u = ((2 : Int), 0)
  s1 : subL u (2 : Int) = X
  s2 : subE u (2 : Int) = 0
  g1 : graA t (x : Int) X = u
  g2 : graE t (x : Int) X = 0
  len : u.length = t.length
  big : P.length ≤ 100000
  inU : NodesIn u
theorem lvf_of {t : NL} {p k : Int} {mi : Bool} {x l r s : Nat} {K : BT} {n : Nat} {b c C K' : BT} {u : NL} (h : DoF t p k mi x l r s K n b c C K' u) (hin : NodesIn t) : ∃ X P oa ob, LvF t u x X P oa ob := by
  obtain ⟨hbig, hf⟩ := formE_ok h.crn.form
  have ab : Abs u 0 (crnB t l r s K') := by rw [h.ans]; exact lay_abs0 _
  have okK' : K'.ok := h.bok.2.2.1.2.2.1
  have szK' : K'.size ≤ 100000 := by
    have e := h.size
    have e2 : (crnB t l r s K').size = K'.size + 4 := by simp only [crnB, BT.size]; omega
    omega
  have fX := lay_formE okK' szK'
  have g := h.crn.graft K'
  have gE := graE_abs h.crn.form fX h.crn.lt.1 (lay_abs0 K') g
  rw [h.size, if_neg (by omega)] at gE
  have inU : NodesIn u := fun y hy => h.all (P := fun d => In64 d.key ∧ In64 d.val) (fun _ _ => Iff.rfl) (fun y hy => hin y hy) y hy
  refine ⟨K'.lay 0, pairL t, ordB t, ordB u, h.crn.form, h.form, ?_, rfl, ?_, rfl, rfl, ?_, h.crn.root, h.crnU.root, (subL_abs h.form h.crnU.lt.1 h.crnU.keys).1, (subL_abs h.form h.crnU.lt.1 h.crnU.keys).2, ?_, gE, h.len, ?_, inU⟩
  · rw [normL_abs h.form ab]; exact h.ans.symm
  · rw [pairL_abs h.form ab, pairL_abs h.crn.form h.crn.abs]; exact h.prs
  · intro q
    have q2 : ordP t := Classical.byContradiction fun hn => by rw [ordB_no hn] at q; cases q
    refine ordB_yes h.form ?_
    exact (ord_abs ab).2 (h.ord ((ord_abs h.crn.abs).1 q2))
  · rw [graA_abs h.crn.form fX h.crn.lt.1 (lay_abs0 K') g (by rw [h.size]; omega)]; exact h.ans.symm
  · have e := pairL_abs h.crn.form h.crn.abs
    have hl := leafL_len h.crn.form hf
    have := pr_len t (leafL t)
    unfold pairL
    rw [if_pos h.crn.form]
    omega
end Go.Proofs.Ythlhbajaogonnaa



namespace Go.Proofs.Ythlhbajaogonnaa

/-- Two trees of one form with the same weights. -/
inductive SameW : BT → BT → Prop
  | leaf {d e : PD} : d.wt = e.wt → SameW (.leaf d) (.leaf e)
  | node {d e : PD} {l l' r r' : BT} : d.wt = e.wt → SameW l l' → SameW r r' → SameW (.node d l r) (.node e l' r')
theorem SameW.wt {a b : BT} (h : SameW a b) : a.wt = b.wt := by cases h <;> assumption
theorem SameW.sms {a b : BT} (h : SameW a b) : ∀ c, b.sms c = a.sms c := by
  induction h with
  | leaf h => intro c; simp [BT.sms, h]
  | node h _ _ i1 i2 => intro c; simp only [BT.sms, ← h, i1, i2]
theorem SameW.bad {a b : BT} (h : SameW a b) : b.bad = a.bad := by
  induction h with
  | leaf h => simp only [BT.bad, h]
  | node h h1 h2 i1 i2 => simp only [BT.bad, ← h, i1, i2, h1.wt, h2.wt]
theorem sums_sms : ∀ (b : BT) (a : Int), inh sumF sumO b a = b.sms a
  | .leaf d, a => by simp [inh, sumO, BT.sms]
  | .node d l r, a => by simp only [inh, sumO, sumF, BT.sms, sums_sms l, sums_sms r]; simp
def BT.ov : BT → Int
  | .leaf d => max (d.wt - 1) 0
  | .node d l r => max (d.wt - 1) 0 + (l.ov + r.ov)
theorem ovN_append (A C : NL) : ∀ m, m ≤ C.length → ovN (A ++ C) (A.length + m) = ovN (A ++ C) A.length + ovN C m
  | 0, _ => by simp [ovN]
  | m + 1, h => by
    rw [show A.length + (m + 1) = (A.length + m) + 1 by omega]
    have e : ndAt (A ++ C) (A.length + m) = ndAt C m := by
      unfold ndAt
      rw [List.getD_eq_getElem?_getD, List.getD_eq_getElem?_getD, List.getElem?_append_right (by omega), show A.length + m - A.length = m by omega]
    simp only [ovN]
    rw [ovN_append A C m (by omega), e]
    omega
theorem ovN_left (A C : NL) : ∀ m, m ≤ A.length → ovN (A ++ C) m = ovN A m
  | 0, _ => rfl
  | m + 1, h => by
    have e : ndAt (A ++ C) m = ndAt A m := by
      unfold ndAt
      rw [List.getD_eq_getElem?_getD, List.getD_eq_getElem?_getD, List.getElem?_append_left (by omega)]
    simp only [ovN]
    rw [ovN_left A C m (by omega), e]
theorem ovN_app (A C : NL) : ovN (A ++ C) (A ++ C).length = ovN A A.length + ovN C C.length := by
  rw [List.length_append, ovN_append A C C.length (Nat.le_refl _), ovN_left A C _ (Nat.le_refl _)]
theorem ov_lay : ∀ (b : BT) (o : Nat), ovN (b.lay o) (b.lay o).length = b.ov
  | .leaf d, _ => by simp [BT.lay, ovN, BT.ov, ndAt]
  | .node d l r, o => by
    have h1 := ov_lay l (o + 1)
    have h2 := ov_lay r (o + 1 + l.size)
    have e : (BT.node d l r).lay o = [(⟨d.key, d.inf, d.wt, d.val, ((o + 1 : Nat) : Int), ((o + 1 + l.size : Nat) : Int)⟩ : NdD)] ++ (l.lay (o + 1) ++ r.lay (o + 1 + l.size)) := rfl
    rw [e, ovN_app, ovN_app, h1, h2]
    simp [ovN, BT.ov, ndAt]
theorem redO_l (f : Bool) (d : PD) (a : Int) : ((redO f d a).length : Int) = if d.wt = 0 ∧ a = 0 then 1 else 0 := by
  unfold redO redQ
  by_cases h1 : a = 0 <;> by_cases h2 : d.wt = 0 <;> simp [h1, h2]
theorem reds_bad : ∀ (b : BT) (a : Int), ((inh redF redO b a).length : Int) + b.ov = b.bad + (if b.wt = 0 ∧ a = 0 then 1 else 0)
  | .leaf d, a => by
    have h := redO_l true d a
    show ((redO true d a).length : Int) + max (d.wt - 1) 0 = max (d.wt - 1) 0 + (if d.wt = 0 ∧ a = 0 then 1 else 0)
    rw [h]; omega
  | .node d l r, a => by
    have i1 := reds_bad l d.wt
    have i2 := reds_bad r d.wt
    have h := redO_l false d a
    show ((redO false d a ++ (inh redF redO l d.wt ++ inh redF redO r d.wt)).length : Int) + (max (d.wt - 1) 0 + (l.ov + r.ov)) = (max (d.wt - 1) 0 + ((if l.wt = 0 ∧ d.wt = 0 then 1 else 0) + (if r.wt = 0 ∧ d.wt = 0 then 1 else 0) + l.bad + r.bad)) + (if d.wt = 0 ∧ a = 0 then 1 else 0)
    rw [List.length_append, List.length_append, Int.natCast_add, Int.natCast_add, h]
    omega
theorem vio_bad (b : BT) : vioO (some b) = b.bad := by
  have h := reds_bad b 1
  simp only [vioO, redsB, ov_lay]
  simp at h
  omega
theorem min_shift (L : List Int) (d : Int) : ∀ m, m < L.length → minN (L.map (· + d)) m = minN L m + d ∧ maxN (L.map (· + d)) m = maxN L m + d
  | 0, h => by simp [minN, maxN, List.getD_eq_getElem?_getD, List.getElem?_eq_getElem h]
  | m + 1, h => by
    obtain ⟨h1, h2⟩ := min_shift L d m (by omega)
    have e : (L.map (· + d)).getD (m + 1) 0 = L.getD (m + 1) 0 + d := by simp [List.getD_eq_getElem?_getD, List.getElem?_eq_getElem h]
    simp only [minN, maxN, h1, h2, e]
    omega
theorem ev_shift (L : List Int) (d : Int) : evB (L.map (· + d)) = evB L := by
  unfold evB
  rw [List.length_map]
  by_cases h : L.length = 0
  · rw [if_pos h, if_pos h]
  · obtain ⟨h1, h2⟩ := min_shift L d (L.length - 1) (by omega)
    rw [if_neg h, if_neg h, h1, h2]
    congr 1
    exact propext ⟨fun q => by omega, fun q => by omega⟩
theorem namD_same (i : Nat) (n : NdD) : (namD i n).wt = n.wt ∧ (namD i n).l = n.l ∧ (namD i n).r = n.r := by
  unfold namD
  split <;> exact ⟨rfl, rfl, rfl⟩
theorem abs_nam {t : NL} {x : Nat} {K : BT} (h : Abs t x K) : ∀ {b : BT}, Abs (namL t) x b → SameW K b := by
  induction h with
  | @leaf p hp h1 h2 =>
    intro b hb
    have e := namD_same p (ndAt t p)
    rw [← namL_at t p hp] at e
    cases hb with
    | leaf => exact .leaf e.1.symm
    | node _ q1 => rw [e.2.1, h1] at q1; omega
  | @node p l r a c hp h1 h2 _ _ i1 i2 =>
    intro b hb
    have e := namD_same p (ndAt t p)
    rw [← namL_at t p hp] at e
    cases hb with
    | leaf _ q1 => rw [e.2.1, h1] at q1; omega
    | node _ q1 q2 b1 b2 =>
      rw [e.2.1, h1] at q1
      rw [e.2.2, h2] at q2
      have q1 := Int.ofNat.inj q1
      have q2 := Int.ofNat.inj q2
      subst q1 q2
      exact .node e.1.symm (i1 b1) (i2 b2)
/-- The keys' tree of a table with a crown, as weigh names it. -/
theorem keyed_crn {t : NL} {x l r s : Nat} {K : BT} (h : Crn t x l r s K) : ∃ b, Keyed t (some b) ∧ keyE t = 0 ∧ sumsO (some b) = K.sms 0 ∧ vioO (some b) = K.bad := by
  have h0 : (rootR t).2 = 0 := by rw [h.root]
  obtain ⟨x', b, hx, -, hA, hk, hok, hs⟩ := keys_lay h0
  have e : x' = x := by rw [h.root] at hx; have := (Prod.mk.inj hx).1; omega
  subst e
  have w := abs_nam h.keys hA
  have hE : keyE t = 0 := by unfold keyE; rw [if_neg (by omega), h0]
  exact ⟨b, ⟨hE, hk, hok, hs⟩, hE, by show sumsB b = _; unfold sumsB; rw [sums_sms, w.sms], by rw [vio_bad, w.bad]⟩
/-- All that the law asks of a step that was done. -/
structure LsF (t u : NL) (p : Int) (x : Nat) (P : PL) (oa ob ev sd : Bool) (b1 b2 : Option BT) (s1 s2 v1 v2 : Int) : Prop where
  f1 : formE t = 0
  f2 : formE u = 0
  p1 : pairL t = P
  p2 : pairL u = P
  o1 : ordB t = oa
  o2 : ordB u = ob
  oo : oa = true → ob = true
  r1 : rootR t = ((x : Int), 0)
  k1 : Keyed t b1
  k2 : Keyed u b2
  e1 : keyE t = 0
  e2 : keyE u = 0
  a1 : evB (sumsO b1) = ev
  a2 : evB (sumsO b2) = ev
  c1 : evS (sumsO b1) = s1
  c2 : evS (sumsO b2) = s2
  cc : p ≠ (x : Int) → s1 = s2
  d1 : vioO b1 = v1
  d2 : vioO b2 = v2
  dd : v2 ≤ v1
  sn : sndB t b1 = sd
  len : u.length ≤ 100000
  big : P.length ≤ 100000
  inU : NodesIn u
theorem lsf_of {t : NL} {p k : Int} {mi : Bool} (h : doE t p k mi = 0) (hin : NodesIn t) : ∃ x P oa ob ev sd b1 b2 s1 s2 v1 v2, LsF t (doL t p k mi) p x P oa ob ev sd b1 b2 s1 s2 v1 v2 := by
  obtain ⟨x, l, r, s, K, n, b, c, C, K', u, D⟩ := dof_of h
  obtain ⟨X, P, oa, ob, V⟩ := lvf_of D hin
  obtain ⟨b1, g1, g2, g3, g4⟩ := keyed_crn D.crn
  obtain ⟨b2, q1, q2, q3, q4⟩ := keyed_crn D.crnU
  obtain ⟨m1, -, d, m2⟩ := D.sms
  have hE : evB (sumsO (some b2)) = evB (sumsO (some b1)) := by
    rw [q3, g3, m2, show d = 0 + d by omega, BT.sms_add]
    exact ev_shift _ _
  have hb := (formE_ok D.crn.form).1
  rw [D.dol]
  refine ⟨x, P, oa, ob, _, _, some b1, some b2, _, _, _, _, V.f1, V.f2, V.p1, V.p2, V.o1, V.o2, V.oo, V.r1, g1, q1, g2, q2, rfl, hE, rfl, rfl, fun hp => ?_, rfl, rfl, ?_, rfl, by rw [V.len]; exact hb, V.big, V.inU⟩
  · rw [g3, q3, m1 (fun e => hp (by rw [D.pl, e]))]
  · rw [q4, g4]; exact D.bad.1
/-- What Spots tells can be done there. -/
theorem spots_ok {t : NL} (h0 : (rootR t).2 = 0) : ∀ j, (spP t j).length = (spV t j).length ∧ ∀ i, i < (spP t j).length → todoE t (((spP t j).getD i 0 : Nat) : Int) ((spV t j).getD i mv0).1 ((spV t j).getD i mv0).2 = 0
  | 0 => ⟨rfl, fun i hi => by simp [spP] at hi⟩
  | j + 1 => by
    obtain ⟨h1, h2⟩ := spots_ok h0 j
    cases hk : ofK t (j : Int)
    · have e1 : spP t (j + 1) = spP t j := by simp [spP, hk]
      have e2 : spV t (j + 1) = spV t j := by simp [spV, hk]
      rw [e1, e2]; exact ⟨h1, h2⟩
    · have e1 : spP t (j + 1) = spP t j ++ List.replicate (mvsA t (j : Int)).length j := by simp [spP, hk]
      have e2 : spV t (j + 1) = spV t j ++ mvsA t (j : Int) := by simp [spV, hk]
      rw [e1, e2]
      refine ⟨by simp [h1], fun i hi => ?_⟩
      by_cases hl : i < (spP t j).length
      · rw [List.getD_eq_getElem?_getD, List.getElem?_append_left hl, List.getD_eq_getElem?_getD, List.getElem?_append_left (by omega), ← List.getD_eq_getElem?_getD, ← List.getD_eq_getElem?_getD]
        exact h2 i hl
      · have hi' : i - (spP t j).length < (mvsA t (j : Int)).length := by simp at hi; omega
        rw [List.getD_eq_getElem?_getD, List.getElem?_append_right (by omega), List.getElem?_replicate, if_pos hi', List.getD_eq_getElem?_getD, List.getElem?_append_right (by omega), ← h1, List.getElem?_eq_getElem hi']
        simp only [Option.getD_some]
        have hm : (mvsA t (j : Int))[i - (spP t j).length] ∈ mvsA t (j : Int) := List.getElem_mem _
        generalize (mvsA t (j : Int))[i - (spP t j).length] = m at hm ⊢
        unfold mvsA mvsB at hm
        obtain ⟨ha, hc⟩ := List.mem_filter.1 hm
        have hcan : canA t (j : Int) m.1 m.2 = true := hc
        have hmv : mvB m.1 m.2 = true := (by decide : ∀ m ∈ allK 12, mvB m.1 m.2 = true) m ha
        have hl0 : lookE t (j : Int) m.1 m.2 = 0 := by unfold lookE; rw [if_neg (by simp [h0]), if_neg (by simp [hmv]), if_neg (by simp [hk])]
        unfold todoE
        rw [if_neg (by simp [hl0]), if_neg (by simp [hcan])]
end Go.Proofs.Ythlhbajaogonnaa


namespace Go.Proofs.Ythlhbajaogonnaa

open Go.RowKit

attribute [local go_sem ↓] Go.wp_at_zero Go.wp_at_succ

set_option maxRecDepth 100000 in
theorem lsCopy_any (ba : Option Addr) (ga oa ca : Nat) (t : NL) (w : World) (h : NodesAt w ba ga oa t) (hnil : ba = none → t.length = 0 ∧ ca = 0) (hbig : t.length ≤ 1000000) :
    Calls Try.prog 24 #[.slice ba t.length ca] w fun e w' => ∃ (a : Option Addr) (c g : Nat), e = .returned (.slice a t.length c) ∧ NodesAt w' a g 0 t ∧ Below w.heap.size w w' := by
  have HA : Hid (NodesAt _ _ _ _ _) := h
  have HN : Hid (ba = none → t.length = 0 ∧ ca = 0) := hnil
  clear h hnil
  obtain ⟨i0, hi0, hz0, hz1, hz2⟩ := info_parts nd_info
  go_enter Try.func24, Try.ntmps24
  go_wp2_with (first | (at_builtin; (refine wpList_append_all (by rfl) _ _ _ (by rfl) w.heap.size 55 i0 _ 6 48 nds_under hi0 hz0 hz1 hz2 rfl (by omega) _ 0 [] (by rfl) ⟨rfl, Or.inr ⟨w.heap.size, 0, #[], rfl, Nat.le_refl _, heap_alloc_at _ _ _ rfl, Nat.le_refl _, (by unfold maxLen; omega), rfl, rfl⟩⟩ ba t.length ca (ndCells t) (by rfl) HN.out (ndCells_length _) (nodes_news (HA.out.below (below_alloc _ _))) (ndCells_all _) (by unfold maxLen; omega) (by omega) (by simp) ?_); intro v2 w2 ho2 hgrow hnl; rw [Nat.zero_add, List.nil_append] at ho2; obtain ⟨a2, c2, g2, rfl, -, -, hn2⟩ := nodes_of_owns ho2; have O2 : Hid (NodesAt w2 a2 g2 0 t) := hn2; have B2 : Hid (Below w.heap.size w w2) := Below.grown (below_alloc _ _) hgrow (by simp) (by intro k hk; simp [Value.ownBlock] at hk; omega); clear hgrow hnl ho2 hn2))
  go_ret
  exact ⟨_, _, _, rfl, O2.out, B2.out⟩
set_option maxRecDepth 100000 in
set_option maxHeartbeats 1000000 in
theorem lsPairs_same (ba bb : Option Addr) (ga oa ca gb ob cb : Nat) (a : PL) (w : World) (ha : PairsAt w ba ga oa a) (hb : PairsAt w bb gb ob a) :
    Calls Try.prog 53 #[.slice ba a.length ca, .slice bb a.length cb] w fun e w' => e = .returned (.bool true) ∧ Below w.heap.size w w' := by
  have la := ha.len
  unfold maxLen at la
  have HA : Hid _ := ha
  have HB : Hid _ := hb
  clear ha hb
  have hpn := pr_neq
  go_enter Try.func53, Try.ntmps53
  go_wp2_with fail
  go_loopw [13] (fun i wr => ∃ j : Nat, j ≤ a.length ∧ i = .int .i64 j ∧ Below w.heap.size w wr) (fun i _ => a.length - (intOf i).toNat)
  case atStart => exact ⟨0, Nat.zero_le _, rfl, Below.refl _ _⟩
  case round =>
    obtain ⟨j, hj, rfl, hbw⟩ := hrel
    by_cases hlt : j < a.length
    · obtain rfl : ba = some ⟨ga, oa, none⟩ := HA.out.base (by omega)
      obtain rfl : bb = some ⟨gb, ob, none⟩ := HB.out.base (by omega)
      obtain ⟨c0, c1⟩ := (HA.out.below hbw).cells j hlt
      obtain ⟨c2, c3⟩ := (HB.out.below hbw).cells j hlt
      have j0 : (0 : Int) ≤ (j : Int) := Int.natCast_nonneg _
      have j1 : (j : Int) < (a.length : Int) := by omega
      have hx : (decide (keyAt a j = keyAt a j) && decide (valAt a j = valAt a j)) = true := by simp
      have HX : Hid (Below w.heap.size w wr) := hbw
      clear hbw
      generalize keyAt a j = ka at *
      generalize valAt a j = va at *
      go_wp2_with fail
      go_quiet (fail)
      go_wp2_with fail
      exact ⟨⟨j + 1, by omega, by go_num, below_drewN HX.out _⟩, by simp [intOf]; omega⟩
    · go_wp2_with fail
      go_ret
      exact ⟨rfl, hbw⟩
set_option maxRecDepth 100000 in
set_option maxHeartbeats 16000000 in
theorem oneStep_any (base : Option Addr) (b o c : Nat) (t : NL) (p k : Int) (mi : Bool) (w : World) (h : NodesAt w base b o t) (hnil : base = none → t.length = 0 ∧ c = 0) (hin : NodesIn t) (ht : todoE t p k mi = 0) :
    Calls Try.prog 25 #[.slice base t.length c, .int .i64 p, .agg #[.int .i64 k, .bool mi]] w fun e w' => e = .returned (.bool true) ∧ Below w.heap.size w w' := by
  have hform : formE t = 0 := by obtain ⟨_, _, _, _, _, _, _, hf, _⟩ := todo_is ht; exact hf
  have hlen := (formE_ok hform).1
  have HN : Hid (base = none → t.length = 0 ∧ c = 0) := hnil
  have B0 : Hid (Below w.heap.size w (w.alloc (.cells #[.int .i64 k, .bool mi] 39))) := below_alloc _ _
  have HA : Hid (∀ z, Below w.heap.size w z → NodesAt z base b o t) := fun z hz => h.below hz
  have CP : Hid (∀ z, Below w.heap.size w z → Calls Try.prog 24 #[.slice base t.length c] z fun e w' => ∃ (a : Option Addr) (c g : Nat), e = .returned (.slice a t.length c) ∧ NodesAt w' a g 0 t ∧ Below z.heap.size z w') := fun z hz => lsCopy_any base b o c t z (h.below hz) hnil (by omega)
  have hlk := todo_look ht
  have hcan := (todo_ok ht).2
  have PC : Hid (∀ (bs : Option Addr) (g o c : Nat) W, NodesAt W bs g o t → Calls Try.prog 11 #[.slice bs t.length c, .int .i64 p, .agg #[.int .i64 k, .bool mi]] W fun e w' => e = .returned (.tuple #[.bool true, .int .i64 0]) ∧ Below W.heap.size W w') := fun bs g o c W hW => by
    have q := Can_any bs g o c t p k mi W hW
    rw [if_pos hlk, hlk, hcan] at q
    exact q
  have PD : Hid (∀ (bs : Option Addr) (g o c : Nat) W, NodesAt W bs g o t → Calls Try.prog 14 #[.slice bs t.length c, .int .i64 p, .agg #[.int .i64 k, .bool mi]] W fun e w' => ∃ v, e = .returned (.tuple #[v, .int .i64 (doE t p k mi)]) ∧ w'.ownsRow W.heap.size 55 6 v (doL t p k mi).length (ndCells (doL t p k mi)) ∧ Below W.heap.size W w') := fun bs g o c W hW => Do_any bs g o c t p k mi W hW
  have hdo : doE t p k mi = 2 ∨ doE t p k mi = 0 := by
    unfold doE
    rw [if_neg (by simp [ht])]
    split
    · exact Or.inl rfl
    · exact Or.inr rfl
  clear h hlk hcan
  rcases hdo with hd | hd
  · rw [hd] at PD
    clear hd hin ht hform
    generalize doL t p k mi = U at *
    have CC : Hid (∀ z, Below (w.alloc (.cells #[.int .i64 k, .bool mi] 39)).heap.size (w.alloc (.cells #[.int .i64 k, .bool mi] 39)) z → z.cell? ⟨w.heap.size, 0, none⟩ = some (.int .i64 k) ∧ z.cell? ⟨w.heap.size, 1, none⟩ = some (.bool mi)) := fun z hz => by
      have q := (hz.block w.heap.size (by simp)).trans (heap_alloc_at _ _ _ rfl)
      exact ⟨(cell_of q 0 _ rfl).1, (cell_of q 1 _ rfl).1⟩
    have HB : Hid (∀ z, Below (w.alloc (.cells #[.int .i64 k, .bool mi] 39)).heap.size (w.alloc (.cells #[.int .i64 k, .bool mi] 39)) z → Below w.heap.size w z) := fun z hz => B0.out.trans (hz.mono B0.out.size)
    have LZ : Hid (∀ z, Below (w.alloc (.cells #[.int .i64 k, .bool mi] 39)).heap.size (w.alloc (.cells #[.int .i64 k, .bool mi] 39)) z → w.heap.size < z.heap.size) := fun z hz => Nat.lt_of_lt_of_le (by simp) hz.size
    have E0 : Hid (Below (w.alloc (.cells #[.int .i64 k, .bool mi] 39)).heap.size (w.alloc (.cells #[.int .i64 k, .bool mi] 39)) (w.alloc (.cells #[.int .i64 k, .bool mi] 39)).drew) := (Below.refl _ _).drew
    go_enter Try.func25, Try.ntmps25
    go_wp2_with fail
    go_cut [7, 8] from 26 to 33 (fun vc ve wx => vc = .bool true ∧ ve = .int .i64 0 ∧ Below (w.alloc (.cells #[.int .i64 k, .bool mi] 39)).heap.size (w.alloc (.cells #[.int .i64 k, .bool mi] 39)) wx)
    case first =>
      go_region_held3 (fun w' => w'.cell? ⟨w.heap.size, 0, none⟩ = some (.int .i64 k) ∧ w'.cell? ⟨w.heap.size, 1, none⟩ = some (.bool mi))
        (first | (with_reducible exact X2.out) | (with_reducible exact X1.out) | go_keep)
        (first | (go_at_call 24; refine (CP.out _ (HB.out _ E0.out)).mono ?_; rintro e w1 ⟨a1, c1, g1, rfl, hn, hb⟩; have N1 : Hid (NodesAt w1 a1 g1 0 t) := hn; have B1 : Hid (Below (w.alloc (.cells #[.int .i64 k, .bool mi] 39)).heap.size (w.alloc (.cells #[.int .i64 k, .bool mi] 39)) w1) := E0.out.trans (hb.mono E0.out.size); have X1 : Hid (w1.cell? ⟨w.heap.size, 0, none⟩ = some (.int .i64 k) ∧ w1.cell? ⟨w.heap.size, 1, none⟩ = some (.bool mi)) := CC.out _ B1.out; clear hb hn) | (go_at_call 11; refine (PC.out _ _ _ _ _ N1.out).mono ?_; rintro e w2 ⟨rfl, hb⟩; have B2 : Hid (Below (w.alloc (.cells #[.int .i64 k, .bool mi] 39)).heap.size (w.alloc (.cells #[.int .i64 k, .bool mi] 39)) w2) := B1.out.trans (hb.mono B1.out.size); have X2 : Hid (w2.cell? ⟨w.heap.size, 0, none⟩ = some (.int .i64 k) ∧ w2.cell? ⟨w.heap.size, 1, none⟩ = some (.bool mi)) := CC.out _ B2.out; clear hb))
      all_goals go_wp2_with fail
      all_goals go_meet
      all_goals exact ⟨rfl, rfl, B2.out⟩
    case rest =>
      obtain ⟨rfl, rfl, hc⟩ := hcut
      have E1 : Hid (Below (w.alloc (.cells #[.int .i64 k, .bool mi] 39)).heap.size (w.alloc (.cells #[.int .i64 k, .bool mi] 39)) wc) := hc
      have E1' : Hid (Below (w.alloc (.cells #[.int .i64 k, .bool mi] 39)).heap.size (w.alloc (.cells #[.int .i64 k, .bool mi] 39)) wc.drew) := hc.drew
      have l1 := LZ.out _ hc
      obtain ⟨m1, n1⟩ := CC.out _ hc
      clear hc
      generalize wc = wa at *
      go_wp2_with fail
      go_cut [9, 10] from 34 to 41 (fun vu ve wx => ∃ (a : Option Addr) (c g : Nat), vu = .slice a U.length c ∧ ve = .int .i64 2 ∧ NodesAt wx a g 0 U ∧ (a = none → U.length = 0 ∧ c = 0) ∧ Below (w.alloc (.cells #[.int .i64 k, .bool mi] 39)).heap.size (w.alloc (.cells #[.int .i64 k, .bool mi] 39)) wx)
      case first =>
        go_region_held3 (fun w' => w'.cell? ⟨w.heap.size, 0, none⟩ = some (.int .i64 k) ∧ w'.cell? ⟨w.heap.size, 1, none⟩ = some (.bool mi))
          (first | (with_reducible exact X2.out) | (with_reducible exact X1.out) | go_keep)
          (first | (go_at_call 24; refine (CP.out _ (HB.out _ E1'.out)).mono ?_; rintro e w1 ⟨a1, c1, g1, rfl, hn, hb⟩; have N1 : Hid (NodesAt w1 a1 g1 0 t) := hn; have B1 : Hid (Below (w.alloc (.cells #[.int .i64 k, .bool mi] 39)).heap.size (w.alloc (.cells #[.int .i64 k, .bool mi] 39)) w1) := E1'.out.trans (hb.mono E1'.out.size); have X1 : Hid (w1.cell? ⟨w.heap.size, 0, none⟩ = some (.int .i64 k) ∧ w1.cell? ⟨w.heap.size, 1, none⟩ = some (.bool mi)) := CC.out _ B1.out; clear hb hn) | (go_at_call 14; refine (PD.out _ _ _ _ _ N1.out).mono ?_; rintro e w2 ⟨v2, rfl, ho, hb⟩; obtain ⟨a2, c2, g2, rfl, -, hz2, hn2⟩ := nodes_of_owns ho; have N2 : Hid (NodesAt w2 a2 g2 0 U) := hn2; have Z2 : Hid (a2 = none → U.length = 0 ∧ c2 = 0) := hz2; have B2 : Hid (Below (w.alloc (.cells #[.int .i64 k, .bool mi] 39)).heap.size (w.alloc (.cells #[.int .i64 k, .bool mi] 39)) w2) := B1.out.trans (hb.mono B1.out.size); have X2 : Hid (w2.cell? ⟨w.heap.size, 0, none⟩ = some (.int .i64 k) ∧ w2.cell? ⟨w.heap.size, 1, none⟩ = some (.bool mi)) := CC.out _ B2.out; clear hb ho hz2 hn2))
        all_goals go_wp2_with fail
        all_goals go_meet
        all_goals exact ⟨_, _, _, rfl, rfl, N2.out, Z2.out, B2.out⟩
      case rest =>
        obtain ⟨aU, cU, gU, rfl, rfl, hn, hz, hc⟩ := hcut
        have E2 : Hid (Below (w.alloc (.cells #[.int .i64 k, .bool mi] 39)).heap.size (w.alloc (.cells #[.int .i64 k, .bool mi] 39)) wc) := hc
        have NU : Hid (NodesAt wc aU gU 0 U) := hn
        have ZU : Hid (aU = none → U.length = 0 ∧ cU = 0) := hz
        clear hc hn hz
        generalize wc = w0 at *
        go_wp2_with fail
        go_ret
        exact ⟨rfl, HB.out _ E2.out⟩
  · obtain ⟨x, P, oa, ob, ev, sd, b1, b2, s1, s2, v1, v2, F⟩ := lsf_of hd hin
    rw [hd] at PD
    generalize doL t p k mi = U at *
    clear hd ht hform
    have CU : Hid (∀ (bs : Option Addr) (g o c : Nat) z, NodesAt z bs g o U → (bs = none → U.length = 0 ∧ c = 0) → Calls Try.prog 24 #[.slice bs U.length c] z fun e w' => ∃ (a : Option Addr) (c g : Nat), e = .returned (.slice a U.length c) ∧ NodesAt w' a g 0 U ∧ Below z.heap.size z w') := fun bs g o c z hz hn => lsCopy_any bs g o c U z hz hn (by have := F.len; omega)
    have CH : Hid (∀ (bs : Option Addr) (g o c : Nat) W, NodesAt W bs g o U → Calls Try.prog 50 #[.slice bs U.length c] W fun e w' => e = .returned (.int .i64 0) ∧ Below W.heap.size W w') := fun bs g o c W hW => by have q := check_any bs g o c U W hW; rw [F.f2] at q; exact q
    have PT1 : Hid (∀ (bs : Option Addr) (g o c : Nat) W, NodesAt W bs g o t → Calls Try.prog 51 #[.slice bs t.length c] W fun e w' => ∃ (a : Option Addr) (c g : Nat), e = .returned (.tuple #[.slice a P.length c, .int .i64 0]) ∧ PairsAt w' a g 0 P ∧ Below W.heap.size W w') := fun bs g o c W hW => by
      have q := Pairs_any bs g o c t W hW
      rw [F.f1, F.p1] at q
      refine q.mono ?_
      rintro e w' ⟨v, rfl, ho, hb⟩
      obtain ⟨a, c, g, rfl, -, -, hp⟩ := pairs_of_owns ho (by unfold maxLen; have := F.big; omega)
      exact ⟨a, c, g, rfl, hp, hb⟩
    have PT2 : Hid (∀ (bs : Option Addr) (g o c : Nat) W, NodesAt W bs g o U → Calls Try.prog 51 #[.slice bs U.length c] W fun e w' => ∃ (a : Option Addr) (c g : Nat), e = .returned (.tuple #[.slice a P.length c, .int .i64 0]) ∧ PairsAt w' a g 0 P ∧ Below W.heap.size W w') := fun bs g o c W hW => by
      have q := Pairs_any bs g o c U W hW
      rw [F.f2, F.p2] at q
      refine q.mono ?_
      rintro e w' ⟨v, rfl, ho, hb⟩
      obtain ⟨a, c, g, rfl, -, -, hp⟩ := pairs_of_owns ho (by unfold maxLen; have := F.big; omega)
      exact ⟨a, c, g, rfl, hp, hb⟩
    have OR1 : Hid (∀ (bs : Option Addr) (g o c : Nat) W, NodesAt W bs g o t → Calls Try.prog 52 #[.slice bs t.length c] W fun e w' => e = .returned (.tuple #[.bool oa, .int .i64 0]) ∧ Below W.heap.size W w') := fun bs g o c W hW => by have q := Ordered_any bs g o c t W hW hin; rw [F.f1, F.o1] at q; exact q
    have OR2 : Hid (∀ (bs : Option Addr) (g o c : Nat) W, NodesAt W bs g o U → Calls Try.prog 52 #[.slice bs U.length c] W fun e w' => e = .returned (.tuple #[.bool ob, .int .i64 0]) ∧ Below W.heap.size W w') := fun bs g o c W hW => by have q := Ordered_any bs g o c U W hW F.inU; rw [F.f2, F.o2] at q; exact q
    have EV1 : Hid (∀ (bs : Option Addr) (g o c : Nat) W, NodesAt W bs g o t → Calls Try.prog 54 #[.slice bs t.length c] W fun e w' => e = .returned (.tuple #[.int .i64 s1, .bool ev, .int .i64 0]) ∧ Below W.heap.size W w') := fun bs g o c W hW => by have q := Even_any bs g o c t b1 W hW F.k1; rw [F.e1, if_pos rfl, if_pos rfl, F.c1, F.a1] at q; exact q
    have EV2 : Hid (∀ (bs : Option Addr) (g o c : Nat) W, NodesAt W bs g o U → Calls Try.prog 54 #[.slice bs U.length c] W fun e w' => e = .returned (.tuple #[.int .i64 s2, .bool ev, .int .i64 0]) ∧ Below W.heap.size W w') := fun bs g o c W hW => by have q := Even_any bs g o c U b2 W hW F.k2; rw [F.e2, if_pos rfl, if_pos rfl, F.c2, F.a2] at q; exact q
    have SN1 : Hid (∀ (bs : Option Addr) (g o c : Nat) W, NodesAt W bs g o t → Calls Try.prog 55 #[.slice bs t.length c] W fun e w' => e = .returned (.tuple #[.bool sd, .int .i64 0]) ∧ Below W.heap.size W w') := fun bs g o c W hW => by have q := Sound_any bs g o c t b1 W hW F.k1; rw [F.e1, F.sn] at q; exact q
    have VI1 : Hid (∀ (bs : Option Addr) (g o c : Nat) W, NodesAt W bs g o t → Calls Try.prog 56 #[.slice bs t.length c] W fun e w' => e = .returned (.tuple #[.int .i64 v1, .int .i64 0]) ∧ Below W.heap.size W w') := fun bs g o c W hW => by have q := Violations_any bs g o c t b1 W hW F.k1; rw [F.e1, F.d1] at q; exact q
    have VI2 : Hid (∀ (bs : Option Addr) (g o c : Nat) W, NodesAt W bs g o U → Calls Try.prog 56 #[.slice bs U.length c] W fun e w' => e = .returned (.tuple #[.int .i64 v2, .int .i64 0]) ∧ Below W.heap.size W w') := fun bs g o c W hW => by have q := Violations_any bs g o c U b2 W hW F.k2; rw [F.e2, F.d2] at q; exact q
    have RO1 : Hid (∀ (bs : Option Addr) (g o c : Nat) W, NodesAt W bs g o t → Calls Try.prog 44 #[.slice bs t.length c] W fun e w' => e = .returned (.tuple #[.int .i64 (x : Int), .int .i64 0]) ∧ Below W.heap.size W w') := fun bs g o c W hW => by have q := Root_any bs g o c t W hW; rw [F.r1] at q; exact q
    have OO : Hid (oa = true → ob = true) := F.oo
    have DD : Hid (v2 ≤ v1) := F.dd
    have SS : Hid (p ≠ (x : Int) → s1 = s2) := F.cc
    clear F hin
    have nv : decide (v2 > v1) = false := by have := DD.out; simp; omega
    cases oa
    · have CC : Hid (∀ z, Below (w.alloc (.cells #[.int .i64 k, .bool mi] 39)).heap.size (w.alloc (.cells #[.int .i64 k, .bool mi] 39)) z → z.cell? ⟨w.heap.size, 0, none⟩ = some (.int .i64 k) ∧ z.cell? ⟨w.heap.size, 1, none⟩ = some (.bool mi)) := fun z hz => by
        have q := (hz.block w.heap.size (by simp)).trans (heap_alloc_at _ _ _ rfl)
        exact ⟨(cell_of q 0 _ rfl).1, (cell_of q 1 _ rfl).1⟩
      have HB : Hid (∀ z, Below (w.alloc (.cells #[.int .i64 k, .bool mi] 39)).heap.size (w.alloc (.cells #[.int .i64 k, .bool mi] 39)) z → Below w.heap.size w z) := fun z hz => B0.out.trans (hz.mono B0.out.size)
      have LZ : Hid (∀ z, Below (w.alloc (.cells #[.int .i64 k, .bool mi] 39)).heap.size (w.alloc (.cells #[.int .i64 k, .bool mi] 39)) z → w.heap.size < z.heap.size) := fun z hz => Nat.lt_of_lt_of_le (by simp) hz.size
      have E0 : Hid (Below (w.alloc (.cells #[.int .i64 k, .bool mi] 39)).heap.size (w.alloc (.cells #[.int .i64 k, .bool mi] 39)) (w.alloc (.cells #[.int .i64 k, .bool mi] 39)).drew) := (Below.refl _ _).drew
      go_enter Try.func25, Try.ntmps25
      go_wp2_with fail
      go_cut [7, 8] from 26 to 33 (fun vc ve wx => vc = .bool true ∧ ve = .int .i64 0 ∧ Below (w.alloc (.cells #[.int .i64 k, .bool mi] 39)).heap.size (w.alloc (.cells #[.int .i64 k, .bool mi] 39)) wx)
      case first =>
        go_region_held3 (fun w' => w'.cell? ⟨w.heap.size, 0, none⟩ = some (.int .i64 k) ∧ w'.cell? ⟨w.heap.size, 1, none⟩ = some (.bool mi))
          (first | (with_reducible exact X2.out) | (with_reducible exact X1.out) | go_keep)
          (first | (go_at_call 24; refine (CP.out _ (HB.out _ E0.out)).mono ?_; rintro e w1 ⟨a1, c1, g1, rfl, hn, hb⟩; have N1 : Hid (NodesAt w1 a1 g1 0 t) := hn; have B1 : Hid (Below (w.alloc (.cells #[.int .i64 k, .bool mi] 39)).heap.size (w.alloc (.cells #[.int .i64 k, .bool mi] 39)) w1) := E0.out.trans (hb.mono E0.out.size); have X1 : Hid (w1.cell? ⟨w.heap.size, 0, none⟩ = some (.int .i64 k) ∧ w1.cell? ⟨w.heap.size, 1, none⟩ = some (.bool mi)) := CC.out _ B1.out; clear hb hn) | (go_at_call 11; refine (PC.out _ _ _ _ _ N1.out).mono ?_; rintro e w2 ⟨rfl, hb⟩; have B2 : Hid (Below (w.alloc (.cells #[.int .i64 k, .bool mi] 39)).heap.size (w.alloc (.cells #[.int .i64 k, .bool mi] 39)) w2) := B1.out.trans (hb.mono B1.out.size); have X2 : Hid (w2.cell? ⟨w.heap.size, 0, none⟩ = some (.int .i64 k) ∧ w2.cell? ⟨w.heap.size, 1, none⟩ = some (.bool mi)) := CC.out _ B2.out; clear hb))
        all_goals go_wp2_with fail
        all_goals go_meet
        all_goals exact ⟨rfl, rfl, B2.out⟩
      case rest =>
        obtain ⟨rfl, rfl, hc⟩ := hcut
        have E1 : Hid (Below (w.alloc (.cells #[.int .i64 k, .bool mi] 39)).heap.size (w.alloc (.cells #[.int .i64 k, .bool mi] 39)) wc) := hc
        have E1' : Hid (Below (w.alloc (.cells #[.int .i64 k, .bool mi] 39)).heap.size (w.alloc (.cells #[.int .i64 k, .bool mi] 39)) wc.drew) := hc.drew
        have l1 := LZ.out _ hc
        obtain ⟨m1, n1⟩ := CC.out _ hc
        clear hc
        generalize wc = wa at *
        go_wp2_with fail
        go_cut [9, 10] from 34 to 41 (fun vu ve wx => ∃ (a : Option Addr) (c g : Nat), vu = .slice a U.length c ∧ ve = .int .i64 0 ∧ NodesAt wx a g 0 U ∧ (a = none → U.length = 0 ∧ c = 0) ∧ Below (w.alloc (.cells #[.int .i64 k, .bool mi] 39)).heap.size (w.alloc (.cells #[.int .i64 k, .bool mi] 39)) wx)
        case first =>
          go_region_held3 (fun w' => w'.cell? ⟨w.heap.size, 0, none⟩ = some (.int .i64 k) ∧ w'.cell? ⟨w.heap.size, 1, none⟩ = some (.bool mi))
            (first | (with_reducible exact X2.out) | (with_reducible exact X1.out) | go_keep)
            (first | (go_at_call 24; refine (CP.out _ (HB.out _ E1'.out)).mono ?_; rintro e w1 ⟨a1, c1, g1, rfl, hn, hb⟩; have N1 : Hid (NodesAt w1 a1 g1 0 t) := hn; have B1 : Hid (Below (w.alloc (.cells #[.int .i64 k, .bool mi] 39)).heap.size (w.alloc (.cells #[.int .i64 k, .bool mi] 39)) w1) := E1'.out.trans (hb.mono E1'.out.size); have X1 : Hid (w1.cell? ⟨w.heap.size, 0, none⟩ = some (.int .i64 k) ∧ w1.cell? ⟨w.heap.size, 1, none⟩ = some (.bool mi)) := CC.out _ B1.out; clear hb hn) | (go_at_call 14; refine (PD.out _ _ _ _ _ N1.out).mono ?_; rintro e w2 ⟨v2, rfl, ho, hb⟩; obtain ⟨a2, c2, g2, rfl, -, hz2, hn2⟩ := nodes_of_owns ho; have N2 : Hid (NodesAt w2 a2 g2 0 U) := hn2; have Z2 : Hid (a2 = none → U.length = 0 ∧ c2 = 0) := hz2; have B2 : Hid (Below (w.alloc (.cells #[.int .i64 k, .bool mi] 39)).heap.size (w.alloc (.cells #[.int .i64 k, .bool mi] 39)) w2) := B1.out.trans (hb.mono B1.out.size); have X2 : Hid (w2.cell? ⟨w.heap.size, 0, none⟩ = some (.int .i64 k) ∧ w2.cell? ⟨w.heap.size, 1, none⟩ = some (.bool mi)) := CC.out _ B2.out; clear hb ho hz2 hn2))
          all_goals go_wp2_with fail
          all_goals go_meet
          all_goals exact ⟨_, _, _, rfl, rfl, N2.out, Z2.out, B2.out⟩
        case rest =>
          obtain ⟨aU, cU, gU, rfl, rfl, hn, hz, hc⟩ := hcut
          have E2 : Hid (Below (w.alloc (.cells #[.int .i64 k, .bool mi] 39)).heap.size (w.alloc (.cells #[.int .i64 k, .bool mi] 39)) wc) := hc
          have NU : Hid (NodesAt wc aU gU 0 U) := hn
          have ZU : Hid (aU = none → U.length = 0 ∧ cU = 0) := hz
          clear hc hn hz
          generalize wc = w0 at *
          have D0 : Hid (Below w0.heap.size w0 w0) := Below.refl _ _
          have NU_0 : Hid (NodesAt w0 aU gU 0 U) := NU.out
          have HW : Hid (∀ z, Below w0.heap.size w0 z → Below w.heap.size w z) := fun z hz => HB.out _ (E2.out.trans (hz.mono E2.out.size))
          go_wp2_with fail
          refine (CU.out _ gU 0 cU _ NU_0.out ZU.out).mono ?_
          rintro e w1 ⟨a1, c1, g1, rfl, hn, hb⟩
          have D1 : Hid (Below w0.heap.size w0 w1) := D0.out.trans (hb.mono D0.out.size)
          have NU_1 : Hid (NodesAt w1 aU gU 0 U) := NU_0.out.below hb
          have T_1 : Hid (NodesAt w1 a1 g1 0 U) := hn
          clear hb hn
          go_wp2_with fail
          refine (CH.out _ _ _ _ _ T_1.out).mono ?_
          rintro e w2 ⟨rfl, hb⟩
          have D2 : Hid (Below w0.heap.size w0 w2) := D1.out.trans (hb.mono D1.out.size)
          have NU_2 : Hid (NodesAt w2 aU gU 0 U) := NU_1.out.below hb
          have T_2 : Hid (NodesAt w2 a1 g1 0 U) := T_1.out.below hb
          clear hb
          go_wp2_with fail
          refine (CP.out _ (HW.out _ D2.out)).mono ?_
          rintro e w3 ⟨a1, c1, g1, rfl, hn, hb⟩
          have D3 : Hid (Below w0.heap.size w0 w3) := D2.out.trans (hb.mono D2.out.size)
          have NU_3 : Hid (NodesAt w3 aU gU 0 U) := NU_2.out.below hb
          have T_3 : Hid (NodesAt w3 a1 g1 0 t) := hn
          clear hb hn
          go_wp2_with fail
          refine (PT1.out _ _ _ _ _ T_3.out).mono ?_
          rintro e w4 ⟨aP, cP, gP, rfl, hp, hb⟩
          have D4 : Hid (Below w0.heap.size w0 w4) := D3.out.trans (hb.mono D3.out.size)
          have NU_4 : Hid (NodesAt w4 aU gU 0 U) := NU_3.out.below hb
          have T_4 : Hid (NodesAt w4 a1 g1 0 t) := T_3.out.below hb
          have PA_4 : Hid (PairsAt w4 aP gP 0 P) := hp
          clear hb hp
          go_wp2_with fail
          refine (CU.out _ gU 0 cU _ NU_4.out ZU.out).mono ?_
          rintro e w5 ⟨a1, c1, g1, rfl, hn, hb⟩
          have D5 : Hid (Below w0.heap.size w0 w5) := D4.out.trans (hb.mono D4.out.size)
          have NU_5 : Hid (NodesAt w5 aU gU 0 U) := NU_4.out.below hb
          have PA_5 : Hid (PairsAt w5 aP gP 0 P) := PA_4.out.below hb
          have T_5 : Hid (NodesAt w5 a1 g1 0 U) := hn
          clear hb hn
          go_wp2_with fail
          refine (PT2.out _ _ _ _ _ T_5.out).mono ?_
          rintro e w6 ⟨aQ, cQ, gQ, rfl, hp, hb⟩
          have D6 : Hid (Below w0.heap.size w0 w6) := D5.out.trans (hb.mono D5.out.size)
          have NU_6 : Hid (NodesAt w6 aU gU 0 U) := NU_5.out.below hb
          have PA_6 : Hid (PairsAt w6 aP gP 0 P) := PA_5.out.below hb
          have T_6 : Hid (NodesAt w6 a1 g1 0 U) := T_5.out.below hb
          have PB_6 : Hid (PairsAt w6 aQ gQ 0 P) := hp
          clear hb hp
          go_wp2_with fail
          refine (CP.out _ (HW.out _ D6.out)).mono ?_
          rintro e w7 ⟨a1, c1, g1, rfl, hn, hb⟩
          have D7 : Hid (Below w0.heap.size w0 w7) := D6.out.trans (hb.mono D6.out.size)
          have NU_7 : Hid (NodesAt w7 aU gU 0 U) := NU_6.out.below hb
          have PA_7 : Hid (PairsAt w7 aP gP 0 P) := PA_6.out.below hb
          have PB_7 : Hid (PairsAt w7 aQ gQ 0 P) := PB_6.out.below hb
          have T_7 : Hid (NodesAt w7 a1 g1 0 t) := hn
          clear hb hn
          go_wp2_with fail
          refine (OR1.out _ _ _ _ _ T_7.out).mono ?_
          rintro e w8 ⟨rfl, hb⟩
          have D8 : Hid (Below w0.heap.size w0 w8) := D7.out.trans (hb.mono D7.out.size)
          have NU_8 : Hid (NodesAt w8 aU gU 0 U) := NU_7.out.below hb
          have PA_8 : Hid (PairsAt w8 aP gP 0 P) := PA_7.out.below hb
          have PB_8 : Hid (PairsAt w8 aQ gQ 0 P) := PB_7.out.below hb
          have T_8 : Hid (NodesAt w8 a1 g1 0 t) := T_7.out.below hb
          clear hb
          go_wp2_with fail
          refine (CU.out _ gU 0 cU _ NU_8.out ZU.out).mono ?_
          rintro e w9 ⟨a1, c1, g1, rfl, hn, hb⟩
          have D9 : Hid (Below w0.heap.size w0 w9) := D8.out.trans (hb.mono D8.out.size)
          have NU_9 : Hid (NodesAt w9 aU gU 0 U) := NU_8.out.below hb
          have PA_9 : Hid (PairsAt w9 aP gP 0 P) := PA_8.out.below hb
          have PB_9 : Hid (PairsAt w9 aQ gQ 0 P) := PB_8.out.below hb
          have T_9 : Hid (NodesAt w9 a1 g1 0 U) := hn
          clear hb hn
          go_wp2_with fail
          refine (OR2.out _ _ _ _ _ T_9.out).mono ?_
          rintro e w10 ⟨rfl, hb⟩
          have D10 : Hid (Below w0.heap.size w0 w10) := D9.out.trans (hb.mono D9.out.size)
          have NU_10 : Hid (NodesAt w10 aU gU 0 U) := NU_9.out.below hb
          have PA_10 : Hid (PairsAt w10 aP gP 0 P) := PA_9.out.below hb
          have PB_10 : Hid (PairsAt w10 aQ gQ 0 P) := PB_9.out.below hb
          have T_10 : Hid (NodesAt w10 a1 g1 0 U) := T_9.out.below hb
          clear hb
          go_wp2_with fail
          refine (lsPairs_same _ _ _ _ _ _ _ _ P _ PA_10.out PB_10.out).mono ?_
          rintro e w11 ⟨rfl, hb⟩
          have D11 : Hid (Below w0.heap.size w0 w11) := D10.out.trans (hb.mono D10.out.size)
          have NU_11 : Hid (NodesAt w11 aU gU 0 U) := NU_10.out.below hb
          have PA_11 : Hid (PairsAt w11 aP gP 0 P) := PA_10.out.below hb
          have PB_11 : Hid (PairsAt w11 aQ gQ 0 P) := PB_10.out.below hb
          clear hb
          go_wp2_with fail
          refine (CP.out _ (HW.out _ D11.out)).mono ?_
          rintro e w12 ⟨a1, c1, g1, rfl, hn, hb⟩
          have D12 : Hid (Below w0.heap.size w0 w12) := D11.out.trans (hb.mono D11.out.size)
          have NU_12 : Hid (NodesAt w12 aU gU 0 U) := NU_11.out.below hb
          have T_12 : Hid (NodesAt w12 a1 g1 0 t) := hn
          clear hb hn
          go_wp2_with fail
          refine (EV1.out _ _ _ _ _ T_12.out).mono ?_
          rintro e w13 ⟨rfl, hb⟩
          have D13 : Hid (Below w0.heap.size w0 w13) := D12.out.trans (hb.mono D12.out.size)
          have NU_13 : Hid (NodesAt w13 aU gU 0 U) := NU_12.out.below hb
          have T_13 : Hid (NodesAt w13 a1 g1 0 t) := T_12.out.below hb
          clear hb
          go_wp2_with fail
          refine (CU.out _ gU 0 cU _ NU_13.out ZU.out).mono ?_
          rintro e w14 ⟨a1, c1, g1, rfl, hn, hb⟩
          have D14 : Hid (Below w0.heap.size w0 w14) := D13.out.trans (hb.mono D13.out.size)
          have NU_14 : Hid (NodesAt w14 aU gU 0 U) := NU_13.out.below hb
          have T_14 : Hid (NodesAt w14 a1 g1 0 U) := hn
          clear hb hn
          go_wp2_with fail
          refine (EV2.out _ _ _ _ _ T_14.out).mono ?_
          rintro e w15 ⟨rfl, hb⟩
          have D15 : Hid (Below w0.heap.size w0 w15) := D14.out.trans (hb.mono D14.out.size)
          have NU_15 : Hid (NodesAt w15 aU gU 0 U) := NU_14.out.below hb
          have T_15 : Hid (NodesAt w15 a1 g1 0 U) := T_14.out.below hb
          clear hb
          go_wp2_with fail
          refine (CP.out _ (HW.out _ D15.out)).mono ?_
          rintro e w16 ⟨a1, c1, g1, rfl, hn, hb⟩
          have D16 : Hid (Below w0.heap.size w0 w16) := D15.out.trans (hb.mono D15.out.size)
          have NU_16 : Hid (NodesAt w16 aU gU 0 U) := NU_15.out.below hb
          have T_16 : Hid (NodesAt w16 a1 g1 0 t) := hn
          clear hb hn
          go_wp2_with fail
          refine (SN1.out _ _ _ _ _ T_16.out).mono ?_
          rintro e w17 ⟨rfl, hb⟩
          have D17 : Hid (Below w0.heap.size w0 w17) := D16.out.trans (hb.mono D16.out.size)
          have NU_17 : Hid (NodesAt w17 aU gU 0 U) := NU_16.out.below hb
          have T_17 : Hid (NodesAt w17 a1 g1 0 t) := T_16.out.below hb
          clear hb
          go_wp2_with fail
          refine (CP.out _ (HW.out _ D17.out)).mono ?_
          rintro e w18 ⟨a1, c1, g1, rfl, hn, hb⟩
          have D18 : Hid (Below w0.heap.size w0 w18) := D17.out.trans (hb.mono D17.out.size)
          have NU_18 : Hid (NodesAt w18 aU gU 0 U) := NU_17.out.below hb
          have T_18 : Hid (NodesAt w18 a1 g1 0 t) := hn
          clear hb hn
          go_wp2_with fail
          refine (VI1.out _ _ _ _ _ T_18.out).mono ?_
          rintro e w19 ⟨rfl, hb⟩
          have D19 : Hid (Below w0.heap.size w0 w19) := D18.out.trans (hb.mono D18.out.size)
          have NU_19 : Hid (NodesAt w19 aU gU 0 U) := NU_18.out.below hb
          have T_19 : Hid (NodesAt w19 a1 g1 0 t) := T_18.out.below hb
          clear hb
          go_wp2_with fail
          refine (CU.out _ gU 0 cU _ NU_19.out ZU.out).mono ?_
          rintro e w20 ⟨a1, c1, g1, rfl, hn, hb⟩
          have D20 : Hid (Below w0.heap.size w0 w20) := D19.out.trans (hb.mono D19.out.size)
          have NU_20 : Hid (NodesAt w20 aU gU 0 U) := NU_19.out.below hb
          have T_20 : Hid (NodesAt w20 a1 g1 0 U) := hn
          clear hb hn
          go_wp2_with fail
          refine (VI2.out _ _ _ _ _ T_20.out).mono ?_
          rintro e w21 ⟨rfl, hb⟩
          have D21 : Hid (Below w0.heap.size w0 w21) := D20.out.trans (hb.mono D20.out.size)
          have NU_21 : Hid (NodesAt w21 aU gU 0 U) := NU_20.out.below hb
          have T_21 : Hid (NodesAt w21 a1 g1 0 U) := T_20.out.below hb
          clear hb
          cases ev
          · go_wp2_with fail
            go_ret
            exact ⟨rfl, HW.out _ D21.out⟩
          · cases sd
            · go_wp2_with fail
              refine (CP.out _ (HW.out _ D21.out)).mono ?_
              rintro e w22 ⟨a1, c1, g1, rfl, hn, hb⟩
              have D22 : Hid (Below w0.heap.size w0 w22) := D21.out.trans (hb.mono D21.out.size)
              have NU_22 : Hid (NodesAt w22 aU gU 0 U) := NU_21.out.below hb
              have T_22 : Hid (NodesAt w22 a1 g1 0 t) := hn
              clear hb hn
              go_wp2_with fail
              refine (RO1.out _ _ _ _ _ T_22.out).mono ?_
              rintro e w23 ⟨rfl, hb⟩
              have D23 : Hid (Below w0.heap.size w0 w23) := D22.out.trans (hb.mono D22.out.size)
              have NU_23 : Hid (NodesAt w23 aU gU 0 U) := NU_22.out.below hb
              have T_23 : Hid (NodesAt w23 a1 g1 0 t) := T_22.out.below hb
              clear hb
              by_cases hp : (x : Int) = p
              · have dx : ((x : Int) == p) = true := by simp [hp]
                go_wp2_with fail
                go_ret
                exact ⟨rfl, HW.out _ D23.out⟩
              · have dx : ((x : Int) == p) = false := by simp [hp]
                have es := SS.out (Ne.symm hp)
                subst es
                have d2 : (s1 == s1) = true := by simp
                go_wp2_with fail
                go_ret
                exact ⟨rfl, HW.out _ D23.out⟩
            · go_wp2_with fail
              refine (CP.out _ (HW.out _ D21.out)).mono ?_
              rintro e w22 ⟨a1, c1, g1, rfl, hn, hb⟩
              have D22 : Hid (Below w0.heap.size w0 w22) := D21.out.trans (hb.mono D21.out.size)
              have NU_22 : Hid (NodesAt w22 aU gU 0 U) := NU_21.out.below hb
              have T_22 : Hid (NodesAt w22 a1 g1 0 t) := hn
              clear hb hn
              go_wp2_with fail
              refine (RO1.out _ _ _ _ _ T_22.out).mono ?_
              rintro e w23 ⟨rfl, hb⟩
              have D23 : Hid (Below w0.heap.size w0 w23) := D22.out.trans (hb.mono D22.out.size)
              have NU_23 : Hid (NodesAt w23 aU gU 0 U) := NU_22.out.below hb
              have T_23 : Hid (NodesAt w23 a1 g1 0 t) := T_22.out.below hb
              clear hb
              by_cases hp : (x : Int) = p
              · have dx : ((x : Int) == p) = true := by simp [hp]
                go_wp2_with fail
                go_ret
                exact ⟨rfl, HW.out _ D23.out⟩
              · have dx : ((x : Int) == p) = false := by simp [hp]
                have es := SS.out (Ne.symm hp)
                subst es
                have d2 : (s1 == s1) = true := by simp
                go_wp2_with fail
                go_ret
                exact ⟨rfl, HW.out _ D23.out⟩
    · have eo := OO.out rfl
      subst eo
      have CC : Hid (∀ z, Below (w.alloc (.cells #[.int .i64 k, .bool mi] 39)).heap.size (w.alloc (.cells #[.int .i64 k, .bool mi] 39)) z → z.cell? ⟨w.heap.size, 0, none⟩ = some (.int .i64 k) ∧ z.cell? ⟨w.heap.size, 1, none⟩ = some (.bool mi)) := fun z hz => by
        have q := (hz.block w.heap.size (by simp)).trans (heap_alloc_at _ _ _ rfl)
        exact ⟨(cell_of q 0 _ rfl).1, (cell_of q 1 _ rfl).1⟩
      have HB : Hid (∀ z, Below (w.alloc (.cells #[.int .i64 k, .bool mi] 39)).heap.size (w.alloc (.cells #[.int .i64 k, .bool mi] 39)) z → Below w.heap.size w z) := fun z hz => B0.out.trans (hz.mono B0.out.size)
      have LZ : Hid (∀ z, Below (w.alloc (.cells #[.int .i64 k, .bool mi] 39)).heap.size (w.alloc (.cells #[.int .i64 k, .bool mi] 39)) z → w.heap.size < z.heap.size) := fun z hz => Nat.lt_of_lt_of_le (by simp) hz.size
      have E0 : Hid (Below (w.alloc (.cells #[.int .i64 k, .bool mi] 39)).heap.size (w.alloc (.cells #[.int .i64 k, .bool mi] 39)) (w.alloc (.cells #[.int .i64 k, .bool mi] 39)).drew) := (Below.refl _ _).drew
      go_enter Try.func25, Try.ntmps25
      go_wp2_with fail
      go_cut [7, 8] from 26 to 33 (fun vc ve wx => vc = .bool true ∧ ve = .int .i64 0 ∧ Below (w.alloc (.cells #[.int .i64 k, .bool mi] 39)).heap.size (w.alloc (.cells #[.int .i64 k, .bool mi] 39)) wx)
      case first =>
        go_region_held3 (fun w' => w'.cell? ⟨w.heap.size, 0, none⟩ = some (.int .i64 k) ∧ w'.cell? ⟨w.heap.size, 1, none⟩ = some (.bool mi))
          (first | (with_reducible exact X2.out) | (with_reducible exact X1.out) | go_keep)
          (first | (go_at_call 24; refine (CP.out _ (HB.out _ E0.out)).mono ?_; rintro e w1 ⟨a1, c1, g1, rfl, hn, hb⟩; have N1 : Hid (NodesAt w1 a1 g1 0 t) := hn; have B1 : Hid (Below (w.alloc (.cells #[.int .i64 k, .bool mi] 39)).heap.size (w.alloc (.cells #[.int .i64 k, .bool mi] 39)) w1) := E0.out.trans (hb.mono E0.out.size); have X1 : Hid (w1.cell? ⟨w.heap.size, 0, none⟩ = some (.int .i64 k) ∧ w1.cell? ⟨w.heap.size, 1, none⟩ = some (.bool mi)) := CC.out _ B1.out; clear hb hn) | (go_at_call 11; refine (PC.out _ _ _ _ _ N1.out).mono ?_; rintro e w2 ⟨rfl, hb⟩; have B2 : Hid (Below (w.alloc (.cells #[.int .i64 k, .bool mi] 39)).heap.size (w.alloc (.cells #[.int .i64 k, .bool mi] 39)) w2) := B1.out.trans (hb.mono B1.out.size); have X2 : Hid (w2.cell? ⟨w.heap.size, 0, none⟩ = some (.int .i64 k) ∧ w2.cell? ⟨w.heap.size, 1, none⟩ = some (.bool mi)) := CC.out _ B2.out; clear hb))
        all_goals go_wp2_with fail
        all_goals go_meet
        all_goals exact ⟨rfl, rfl, B2.out⟩
      case rest =>
        obtain ⟨rfl, rfl, hc⟩ := hcut
        have E1 : Hid (Below (w.alloc (.cells #[.int .i64 k, .bool mi] 39)).heap.size (w.alloc (.cells #[.int .i64 k, .bool mi] 39)) wc) := hc
        have E1' : Hid (Below (w.alloc (.cells #[.int .i64 k, .bool mi] 39)).heap.size (w.alloc (.cells #[.int .i64 k, .bool mi] 39)) wc.drew) := hc.drew
        have l1 := LZ.out _ hc
        obtain ⟨m1, n1⟩ := CC.out _ hc
        clear hc
        generalize wc = wa at *
        go_wp2_with fail
        go_cut [9, 10] from 34 to 41 (fun vu ve wx => ∃ (a : Option Addr) (c g : Nat), vu = .slice a U.length c ∧ ve = .int .i64 0 ∧ NodesAt wx a g 0 U ∧ (a = none → U.length = 0 ∧ c = 0) ∧ Below (w.alloc (.cells #[.int .i64 k, .bool mi] 39)).heap.size (w.alloc (.cells #[.int .i64 k, .bool mi] 39)) wx)
        case first =>
          go_region_held3 (fun w' => w'.cell? ⟨w.heap.size, 0, none⟩ = some (.int .i64 k) ∧ w'.cell? ⟨w.heap.size, 1, none⟩ = some (.bool mi))
            (first | (with_reducible exact X2.out) | (with_reducible exact X1.out) | go_keep)
            (first | (go_at_call 24; refine (CP.out _ (HB.out _ E1'.out)).mono ?_; rintro e w1 ⟨a1, c1, g1, rfl, hn, hb⟩; have N1 : Hid (NodesAt w1 a1 g1 0 t) := hn; have B1 : Hid (Below (w.alloc (.cells #[.int .i64 k, .bool mi] 39)).heap.size (w.alloc (.cells #[.int .i64 k, .bool mi] 39)) w1) := E1'.out.trans (hb.mono E1'.out.size); have X1 : Hid (w1.cell? ⟨w.heap.size, 0, none⟩ = some (.int .i64 k) ∧ w1.cell? ⟨w.heap.size, 1, none⟩ = some (.bool mi)) := CC.out _ B1.out; clear hb hn) | (go_at_call 14; refine (PD.out _ _ _ _ _ N1.out).mono ?_; rintro e w2 ⟨v2, rfl, ho, hb⟩; obtain ⟨a2, c2, g2, rfl, -, hz2, hn2⟩ := nodes_of_owns ho; have N2 : Hid (NodesAt w2 a2 g2 0 U) := hn2; have Z2 : Hid (a2 = none → U.length = 0 ∧ c2 = 0) := hz2; have B2 : Hid (Below (w.alloc (.cells #[.int .i64 k, .bool mi] 39)).heap.size (w.alloc (.cells #[.int .i64 k, .bool mi] 39)) w2) := B1.out.trans (hb.mono B1.out.size); have X2 : Hid (w2.cell? ⟨w.heap.size, 0, none⟩ = some (.int .i64 k) ∧ w2.cell? ⟨w.heap.size, 1, none⟩ = some (.bool mi)) := CC.out _ B2.out; clear hb ho hz2 hn2))
          all_goals go_wp2_with fail
          all_goals go_meet
          all_goals exact ⟨_, _, _, rfl, rfl, N2.out, Z2.out, B2.out⟩
        case rest =>
          obtain ⟨aU, cU, gU, rfl, rfl, hn, hz, hc⟩ := hcut
          have E2 : Hid (Below (w.alloc (.cells #[.int .i64 k, .bool mi] 39)).heap.size (w.alloc (.cells #[.int .i64 k, .bool mi] 39)) wc) := hc
          have NU : Hid (NodesAt wc aU gU 0 U) := hn
          have ZU : Hid (aU = none → U.length = 0 ∧ cU = 0) := hz
          clear hc hn hz
          generalize wc = w0 at *
          have D0 : Hid (Below w0.heap.size w0 w0) := Below.refl _ _
          have NU_0 : Hid (NodesAt w0 aU gU 0 U) := NU.out
          have HW : Hid (∀ z, Below w0.heap.size w0 z → Below w.heap.size w z) := fun z hz => HB.out _ (E2.out.trans (hz.mono E2.out.size))
          go_wp2_with fail
          refine (CU.out _ gU 0 cU _ NU_0.out ZU.out).mono ?_
          rintro e w1 ⟨a1, c1, g1, rfl, hn, hb⟩
          have D1 : Hid (Below w0.heap.size w0 w1) := D0.out.trans (hb.mono D0.out.size)
          have NU_1 : Hid (NodesAt w1 aU gU 0 U) := NU_0.out.below hb
          have T_1 : Hid (NodesAt w1 a1 g1 0 U) := hn
          clear hb hn
          go_wp2_with fail
          refine (CH.out _ _ _ _ _ T_1.out).mono ?_
          rintro e w2 ⟨rfl, hb⟩
          have D2 : Hid (Below w0.heap.size w0 w2) := D1.out.trans (hb.mono D1.out.size)
          have NU_2 : Hid (NodesAt w2 aU gU 0 U) := NU_1.out.below hb
          have T_2 : Hid (NodesAt w2 a1 g1 0 U) := T_1.out.below hb
          clear hb
          go_wp2_with fail
          refine (CP.out _ (HW.out _ D2.out)).mono ?_
          rintro e w3 ⟨a1, c1, g1, rfl, hn, hb⟩
          have D3 : Hid (Below w0.heap.size w0 w3) := D2.out.trans (hb.mono D2.out.size)
          have NU_3 : Hid (NodesAt w3 aU gU 0 U) := NU_2.out.below hb
          have T_3 : Hid (NodesAt w3 a1 g1 0 t) := hn
          clear hb hn
          go_wp2_with fail
          refine (PT1.out _ _ _ _ _ T_3.out).mono ?_
          rintro e w4 ⟨aP, cP, gP, rfl, hp, hb⟩
          have D4 : Hid (Below w0.heap.size w0 w4) := D3.out.trans (hb.mono D3.out.size)
          have NU_4 : Hid (NodesAt w4 aU gU 0 U) := NU_3.out.below hb
          have T_4 : Hid (NodesAt w4 a1 g1 0 t) := T_3.out.below hb
          have PA_4 : Hid (PairsAt w4 aP gP 0 P) := hp
          clear hb hp
          go_wp2_with fail
          refine (CU.out _ gU 0 cU _ NU_4.out ZU.out).mono ?_
          rintro e w5 ⟨a1, c1, g1, rfl, hn, hb⟩
          have D5 : Hid (Below w0.heap.size w0 w5) := D4.out.trans (hb.mono D4.out.size)
          have NU_5 : Hid (NodesAt w5 aU gU 0 U) := NU_4.out.below hb
          have PA_5 : Hid (PairsAt w5 aP gP 0 P) := PA_4.out.below hb
          have T_5 : Hid (NodesAt w5 a1 g1 0 U) := hn
          clear hb hn
          go_wp2_with fail
          refine (PT2.out _ _ _ _ _ T_5.out).mono ?_
          rintro e w6 ⟨aQ, cQ, gQ, rfl, hp, hb⟩
          have D6 : Hid (Below w0.heap.size w0 w6) := D5.out.trans (hb.mono D5.out.size)
          have NU_6 : Hid (NodesAt w6 aU gU 0 U) := NU_5.out.below hb
          have PA_6 : Hid (PairsAt w6 aP gP 0 P) := PA_5.out.below hb
          have T_6 : Hid (NodesAt w6 a1 g1 0 U) := T_5.out.below hb
          have PB_6 : Hid (PairsAt w6 aQ gQ 0 P) := hp
          clear hb hp
          go_wp2_with fail
          refine (CP.out _ (HW.out _ D6.out)).mono ?_
          rintro e w7 ⟨a1, c1, g1, rfl, hn, hb⟩
          have D7 : Hid (Below w0.heap.size w0 w7) := D6.out.trans (hb.mono D6.out.size)
          have NU_7 : Hid (NodesAt w7 aU gU 0 U) := NU_6.out.below hb
          have PA_7 : Hid (PairsAt w7 aP gP 0 P) := PA_6.out.below hb
          have PB_7 : Hid (PairsAt w7 aQ gQ 0 P) := PB_6.out.below hb
          have T_7 : Hid (NodesAt w7 a1 g1 0 t) := hn
          clear hb hn
          go_wp2_with fail
          refine (OR1.out _ _ _ _ _ T_7.out).mono ?_
          rintro e w8 ⟨rfl, hb⟩
          have D8 : Hid (Below w0.heap.size w0 w8) := D7.out.trans (hb.mono D7.out.size)
          have NU_8 : Hid (NodesAt w8 aU gU 0 U) := NU_7.out.below hb
          have PA_8 : Hid (PairsAt w8 aP gP 0 P) := PA_7.out.below hb
          have PB_8 : Hid (PairsAt w8 aQ gQ 0 P) := PB_7.out.below hb
          have T_8 : Hid (NodesAt w8 a1 g1 0 t) := T_7.out.below hb
          clear hb
          go_wp2_with fail
          refine (CU.out _ gU 0 cU _ NU_8.out ZU.out).mono ?_
          rintro e w9 ⟨a1, c1, g1, rfl, hn, hb⟩
          have D9 : Hid (Below w0.heap.size w0 w9) := D8.out.trans (hb.mono D8.out.size)
          have NU_9 : Hid (NodesAt w9 aU gU 0 U) := NU_8.out.below hb
          have PA_9 : Hid (PairsAt w9 aP gP 0 P) := PA_8.out.below hb
          have PB_9 : Hid (PairsAt w9 aQ gQ 0 P) := PB_8.out.below hb
          have T_9 : Hid (NodesAt w9 a1 g1 0 U) := hn
          clear hb hn
          go_wp2_with fail
          refine (OR2.out _ _ _ _ _ T_9.out).mono ?_
          rintro e w10 ⟨rfl, hb⟩
          have D10 : Hid (Below w0.heap.size w0 w10) := D9.out.trans (hb.mono D9.out.size)
          have NU_10 : Hid (NodesAt w10 aU gU 0 U) := NU_9.out.below hb
          have PA_10 : Hid (PairsAt w10 aP gP 0 P) := PA_9.out.below hb
          have PB_10 : Hid (PairsAt w10 aQ gQ 0 P) := PB_9.out.below hb
          have T_10 : Hid (NodesAt w10 a1 g1 0 U) := T_9.out.below hb
          clear hb
          go_wp2_with fail
          refine (lsPairs_same _ _ _ _ _ _ _ _ P _ PA_10.out PB_10.out).mono ?_
          rintro e w11 ⟨rfl, hb⟩
          have D11 : Hid (Below w0.heap.size w0 w11) := D10.out.trans (hb.mono D10.out.size)
          have NU_11 : Hid (NodesAt w11 aU gU 0 U) := NU_10.out.below hb
          have PA_11 : Hid (PairsAt w11 aP gP 0 P) := PA_10.out.below hb
          have PB_11 : Hid (PairsAt w11 aQ gQ 0 P) := PB_10.out.below hb
          clear hb
          go_wp2_with fail
          refine (CP.out _ (HW.out _ D11.out)).mono ?_
          rintro e w12 ⟨a1, c1, g1, rfl, hn, hb⟩
          have D12 : Hid (Below w0.heap.size w0 w12) := D11.out.trans (hb.mono D11.out.size)
          have NU_12 : Hid (NodesAt w12 aU gU 0 U) := NU_11.out.below hb
          have T_12 : Hid (NodesAt w12 a1 g1 0 t) := hn
          clear hb hn
          go_wp2_with fail
          refine (EV1.out _ _ _ _ _ T_12.out).mono ?_
          rintro e w13 ⟨rfl, hb⟩
          have D13 : Hid (Below w0.heap.size w0 w13) := D12.out.trans (hb.mono D12.out.size)
          have NU_13 : Hid (NodesAt w13 aU gU 0 U) := NU_12.out.below hb
          have T_13 : Hid (NodesAt w13 a1 g1 0 t) := T_12.out.below hb
          clear hb
          go_wp2_with fail
          refine (CU.out _ gU 0 cU _ NU_13.out ZU.out).mono ?_
          rintro e w14 ⟨a1, c1, g1, rfl, hn, hb⟩
          have D14 : Hid (Below w0.heap.size w0 w14) := D13.out.trans (hb.mono D13.out.size)
          have NU_14 : Hid (NodesAt w14 aU gU 0 U) := NU_13.out.below hb
          have T_14 : Hid (NodesAt w14 a1 g1 0 U) := hn
          clear hb hn
          go_wp2_with fail
          refine (EV2.out _ _ _ _ _ T_14.out).mono ?_
          rintro e w15 ⟨rfl, hb⟩
          have D15 : Hid (Below w0.heap.size w0 w15) := D14.out.trans (hb.mono D14.out.size)
          have NU_15 : Hid (NodesAt w15 aU gU 0 U) := NU_14.out.below hb
          have T_15 : Hid (NodesAt w15 a1 g1 0 U) := T_14.out.below hb
          clear hb
          go_wp2_with fail
          refine (CP.out _ (HW.out _ D15.out)).mono ?_
          rintro e w16 ⟨a1, c1, g1, rfl, hn, hb⟩
          have D16 : Hid (Below w0.heap.size w0 w16) := D15.out.trans (hb.mono D15.out.size)
          have NU_16 : Hid (NodesAt w16 aU gU 0 U) := NU_15.out.below hb
          have T_16 : Hid (NodesAt w16 a1 g1 0 t) := hn
          clear hb hn
          go_wp2_with fail
          refine (SN1.out _ _ _ _ _ T_16.out).mono ?_
          rintro e w17 ⟨rfl, hb⟩
          have D17 : Hid (Below w0.heap.size w0 w17) := D16.out.trans (hb.mono D16.out.size)
          have NU_17 : Hid (NodesAt w17 aU gU 0 U) := NU_16.out.below hb
          have T_17 : Hid (NodesAt w17 a1 g1 0 t) := T_16.out.below hb
          clear hb
          go_wp2_with fail
          refine (CP.out _ (HW.out _ D17.out)).mono ?_
          rintro e w18 ⟨a1, c1, g1, rfl, hn, hb⟩
          have D18 : Hid (Below w0.heap.size w0 w18) := D17.out.trans (hb.mono D17.out.size)
          have NU_18 : Hid (NodesAt w18 aU gU 0 U) := NU_17.out.below hb
          have T_18 : Hid (NodesAt w18 a1 g1 0 t) := hn
          clear hb hn
          go_wp2_with fail
          refine (VI1.out _ _ _ _ _ T_18.out).mono ?_
          rintro e w19 ⟨rfl, hb⟩
          have D19 : Hid (Below w0.heap.size w0 w19) := D18.out.trans (hb.mono D18.out.size)
          have NU_19 : Hid (NodesAt w19 aU gU 0 U) := NU_18.out.below hb
          have T_19 : Hid (NodesAt w19 a1 g1 0 t) := T_18.out.below hb
          clear hb
          go_wp2_with fail
          refine (CU.out _ gU 0 cU _ NU_19.out ZU.out).mono ?_
          rintro e w20 ⟨a1, c1, g1, rfl, hn, hb⟩
          have D20 : Hid (Below w0.heap.size w0 w20) := D19.out.trans (hb.mono D19.out.size)
          have NU_20 : Hid (NodesAt w20 aU gU 0 U) := NU_19.out.below hb
          have T_20 : Hid (NodesAt w20 a1 g1 0 U) := hn
          clear hb hn
          go_wp2_with fail
          refine (VI2.out _ _ _ _ _ T_20.out).mono ?_
          rintro e w21 ⟨rfl, hb⟩
          have D21 : Hid (Below w0.heap.size w0 w21) := D20.out.trans (hb.mono D20.out.size)
          have NU_21 : Hid (NodesAt w21 aU gU 0 U) := NU_20.out.below hb
          have T_21 : Hid (NodesAt w21 a1 g1 0 U) := T_20.out.below hb
          clear hb
          cases ev
          · go_wp2_with fail
            go_ret
            exact ⟨rfl, HW.out _ D21.out⟩
          · cases sd
            · go_wp2_with fail
              refine (CP.out _ (HW.out _ D21.out)).mono ?_
              rintro e w22 ⟨a1, c1, g1, rfl, hn, hb⟩
              have D22 : Hid (Below w0.heap.size w0 w22) := D21.out.trans (hb.mono D21.out.size)
              have NU_22 : Hid (NodesAt w22 aU gU 0 U) := NU_21.out.below hb
              have T_22 : Hid (NodesAt w22 a1 g1 0 t) := hn
              clear hb hn
              go_wp2_with fail
              refine (RO1.out _ _ _ _ _ T_22.out).mono ?_
              rintro e w23 ⟨rfl, hb⟩
              have D23 : Hid (Below w0.heap.size w0 w23) := D22.out.trans (hb.mono D22.out.size)
              have NU_23 : Hid (NodesAt w23 aU gU 0 U) := NU_22.out.below hb
              have T_23 : Hid (NodesAt w23 a1 g1 0 t) := T_22.out.below hb
              clear hb
              by_cases hp : (x : Int) = p
              · have dx : ((x : Int) == p) = true := by simp [hp]
                go_wp2_with fail
                go_ret
                exact ⟨rfl, HW.out _ D23.out⟩
              · have dx : ((x : Int) == p) = false := by simp [hp]
                have es := SS.out (Ne.symm hp)
                subst es
                have d2 : (s1 == s1) = true := by simp
                go_wp2_with fail
                go_ret
                exact ⟨rfl, HW.out _ D23.out⟩
            · go_wp2_with fail
              refine (CP.out _ (HW.out _ D21.out)).mono ?_
              rintro e w22 ⟨a1, c1, g1, rfl, hn, hb⟩
              have D22 : Hid (Below w0.heap.size w0 w22) := D21.out.trans (hb.mono D21.out.size)
              have NU_22 : Hid (NodesAt w22 aU gU 0 U) := NU_21.out.below hb
              have T_22 : Hid (NodesAt w22 a1 g1 0 t) := hn
              clear hb hn
              go_wp2_with fail
              refine (RO1.out _ _ _ _ _ T_22.out).mono ?_
              rintro e w23 ⟨rfl, hb⟩
              have D23 : Hid (Below w0.heap.size w0 w23) := D22.out.trans (hb.mono D22.out.size)
              have NU_23 : Hid (NodesAt w23 aU gU 0 U) := NU_22.out.below hb
              have T_23 : Hid (NodesAt w23 a1 g1 0 t) := T_22.out.below hb
              clear hb
              by_cases hp : (x : Int) = p
              · have dx : ((x : Int) == p) = true := by simp [hp]
                go_wp2_with fail
                go_ret
                exact ⟨rfl, HW.out _ D23.out⟩
              · have dx : ((x : Int) == p) = false := by simp [hp]
                have es := SS.out (Ne.symm hp)
                subst es
                have d2 : (s1 == s1) = true := by simp
                go_wp2_with fail
                go_ret
                exact ⟨rfl, HW.out _ D23.out⟩
/-- Many: a row of places and a row of moves, to be read. -/
structure SpRd (w : World) (a : Option Addr) (g : Nat) (c : Option Addr) (h : Nat) (P : List Nat) (V : List MvD) : Prop where
  p1 : 0 < P.length → a = some ⟨g, 0, none⟩ ∧ g < w.heap.size
  p2 : ∀ j, j < P.length → w.cell? ⟨g, j, none⟩ = some (.int .i64 ((P.getD j 0 : Nat) : Int))
  q1 : 0 < V.length → c = some ⟨h, 0, none⟩ ∧ h < w.heap.size
  q2 : ∀ j, j < V.length → w.cell? ⟨h, j * 2, none⟩ = some (.int .i64 (V.getD j mv0).1) ∧ w.cell? ⟨h, j * 2 + 1, none⟩ = some (.bool (V.getD j mv0).2)
theorem SpRd.below {w y : World} {a c : Option Addr} {g h : Nat} {P : List Nat} {V : List MvD} (k : SpRd w a g c h P V) (hb : Below w.heap.size w y) : SpRd y a g c h P V :=
  ⟨fun hn => ⟨(k.p1 hn).1, Nat.lt_of_lt_of_le (k.p1 hn).2 hb.size⟩, fun j hj => (hb.cell (p := ⟨g, j, none⟩) (k.p1 (by omega)).2).trans (k.p2 j hj), fun hn => ⟨(k.q1 hn).1, Nat.lt_of_lt_of_le (k.q1 hn).2 hb.size⟩, fun j hj => ⟨(hb.cell (p := ⟨h, j * 2, none⟩) (k.q1 (by omega)).2).trans (k.q2 j hj).1, (hb.cell (p := ⟨h, j * 2 + 1, none⟩) (k.q1 (by omega)).2).trans (k.q2 j hj).2⟩⟩
theorem mvC_at : ∀ (V : List MvD) (j : Nat), j < V.length → (mvC V)[j * 2]? = some (.int .i64 (V.getD j mv0).1) ∧ (mvC V)[j * 2 + 1]? = some (.bool (V.getD j mv0).2)
  | m :: V, 0, _ => ⟨rfl, rfl⟩
  | m :: V, j + 1, h => by
    have q := mvC_at V j (by simpa using h)
    rw [show (j + 1) * 2 = j * 2 + 2 by omega]
    exact q
theorem spR_of {w x : World} {u v : Value} {P : List Nat} {V : List MvD} (h : SpotR w x u v P V) : ∃ (a : Option Addr) (ca g : Nat) (c : Option Addr) (cc k : Nat), u = .slice a P.length ca ∧ v = .slice c V.length cc ∧ SpRd x a g c k P V := by
  have h1 : ∃ (a : Option Addr) (ca g : Nat), u = .slice a P.length ca ∧ (0 < P.length → a = some ⟨g, 0, none⟩ ∧ g < x.heap.size) ∧ ∀ j, j < P.length → x.cell? ⟨g, j, none⟩ = some (.int .i64 ((P.getD j 0 : Nat) : Int)) := by
    by_cases hn : 0 < P.length
    · obtain ⟨g, cap, rfl, -, hg, -, -, hc, -⟩ := owns_some h.own1 hn
      exact ⟨_, cap, g, rfl, fun _ => ⟨rfl, hg⟩, fun j hj => (hc _ (by omega)).trans (natC_get P j hj)⟩
    · rcases h.own1.2 with ⟨rfl, e0⟩ | ⟨g, cap, cur, rfl, _⟩
      · exact ⟨none, 0, 0, by rw [e0], fun q => absurd q hn, fun j hj => by omega⟩
      · exact ⟨_, cap, g, rfl, fun q => absurd q hn, fun j hj => by omega⟩
  have h2 : ∃ (c : Option Addr) (cc k : Nat), v = .slice c V.length cc ∧ (0 < V.length → c = some ⟨k, 0, none⟩ ∧ k < x.heap.size) ∧ ∀ j, j < V.length → x.cell? ⟨k, j * 2, none⟩ = some (.int .i64 (V.getD j mv0).1) ∧ x.cell? ⟨k, j * 2 + 1, none⟩ = some (.bool (V.getD j mv0).2) := by
    by_cases hn : 0 < V.length
    · obtain ⟨g, cap, rfl, -, hg, -, -, hc, -⟩ := owns_some h.own2 hn
      exact ⟨_, cap, g, rfl, fun _ => ⟨rfl, hg⟩, fun j hj => ⟨(hc _ (by omega)).trans (mvC_at V j hj).1, (hc _ (by omega)).trans (mvC_at V j hj).2⟩⟩
    · rcases h.own2.2 with ⟨rfl, e0⟩ | ⟨g, cap, cur, rfl, _⟩
      · exact ⟨none, 0, 0, by rw [e0], fun q => absurd q hn, fun j hj => by omega⟩
      · exact ⟨_, cap, g, rfl, fun q => absurd q hn, fun j hj => by omega⟩
  obtain ⟨a, ca, g, e1, p1, p2⟩ := h1
  obtain ⟨c, cc, k, e2, q1, q2⟩ := h2
  exact ⟨a, ca, g, c, cc, k, e1, e2, p1, p2, q1, q2⟩
theorem NodesAt.cut {w : World} {base : Option Addr} {b o : Nat} {t : NL} (h : NodesAt w base b o t) (n : Nat) : NodesAt w base b o (t.take n) := by
  have hl : (t.take n).length ≤ t.length := by rw [List.length_take]; omega
  refine ⟨fun q => h.base (by omega), fun q => h.lt (by omega), fun i hi => ?_, Nat.le_trans hl h.len⟩
  have e : ndAt (t.take n) i = ndAt t i := by
    unfold ndAt
    rw [List.getD_eq_getElem?_getD, List.getD_eq_getElem?_getD, List.getElem?_take, if_pos (by rw [List.length_take] at hi; omega)]
  rw [e]
  exact h.cells i (by omega)
theorem NodesIn.cut {t : NL} (h : NodesIn t) (n : Nat) : NodesIn (t.take n) := fun i hi => by
  have hl : (t.take n).length ≤ t.length := by rw [List.length_take]; omega
  have e : ndAt (t.take n) i = ndAt t i := by
    unfold ndAt
    rw [List.getD_eq_getElem?_getD, List.getD_eq_getElem?_getD, List.getElem?_take, if_pos (by rw [List.length_take] at hi; omega)]
  rw [e]
  exact h i (by omega)
/-- What the law asks of a table of 120 nodes at most. -/
structure LsT (w : World) (base : Option Addr) (c : Nat) (T : NL) (P : List Nat) (V : List MvD) (re : Int) : Prop where
  cp : ∀ z, Below w.heap.size w z → Calls Try.prog 24 #[.slice base T.length c] z fun e w' => ∃ (a : Option Addr) (c g : Nat), e = .returned (.slice a T.length c) ∧ NodesAt w' a g 0 T ∧ Below z.heap.size z w'
  sp : ∀ (bs : Option Addr) (g o c : Nat) W, NodesAt W bs g o T → Calls Try.prog 22 #[.slice bs T.length c] W fun e w' => ∃ u v, e = .returned (.tuple #[u, v, .int .i64 re]) ∧ SpotR W w' u v P V
  ok : re = 0 → P.length = V.length ∧ ∀ z, Below w.heap.size w z → ∀ j, j < P.length → Calls Try.prog 25 #[.slice base T.length c, .int .i64 ((P.getD j 0 : Nat) : Int), .agg #[.int .i64 (V.getD j mv0).1, .bool (V.getD j mv0).2]] z fun e w' => e = .returned (.bool true) ∧ Below z.heap.size z w'
  no : re ≠ 0 → P.length = 0 ∧ V.length = 0
  lp : P.length ≤ 3000000
theorem lst_of {w : World} {base : Option Addr} {b o c : Nat} {T : NL} (h : NodesAt w base b o T) (hnil : base = none → T.length = 0 ∧ c = 0) (hin : NodesIn T) (hl : T.length ≤ 120) : ∃ P V re, LsT w base c T P V re := by
  obtain ⟨q1, q2⟩ := spP_len T T.length
  refine ⟨if (rootR T).2 = 0 then spP T T.length else [], if (rootR T).2 = 0 then spV T T.length else [], (rootR T).2, fun z hz => lsCopy_any base b o c T z (h.below hz) hnil (by omega), fun bs g o c W hW => Spots_any bs g o c T W hW, fun he => ?_, fun he => ?_, ?_⟩
  · rw [if_pos he, if_pos he]
    obtain ⟨k1, k2⟩ := spots_ok he T.length
    exact ⟨k1, fun z hz j hj => oneStep_any base b o c T _ _ _ z (h.below hz) hnil hin (k2 j hj)⟩
  · rw [if_neg he, if_neg he]; exact ⟨rfl, rfl⟩
  · split
    · omega
    · simp
set_option maxRecDepth 100000 in
set_option maxHeartbeats 16000000 in
theorem larchSteps_any (base : Option Addr) (b o c : Nat) (t : NL) (w : World) (h : NodesAt w base b o t) (hnil : base = none → t.length = 0 ∧ c = 0) (hcap : t.length ≤ c) (hin : NodesIn t) :
    Calls Try.prog 5 #[.slice base t.length c] w fun e w' => e = .returned (.bool true) ∧ Below w.heap.size w w' := by
  have PA : Hid (∀ W, Calls Try.prog 21 #[] W fun e w' => ∃ (a : Option Addr) (c : Nat), e = .returned (.slice a 21 c) ∧ Below W.heap.size W w') := fun W => by
    refine (All_any W).mono ?_
    rintro e w' ⟨v, rfl, hr⟩
    have e21 : (allK 12).length = 21 := by decide
    rcases hr.own.2 with ⟨rfl, e0⟩ | ⟨g, cap, cur, rfl, _⟩
    · rw [e21] at e0; omega
    · exact ⟨_, _, by rw [e21], hr.below⟩
  by_cases hl : t.length ≤ 120
  · have hl' : ¬ ((t.length : Int) > 120) := by omega
    obtain ⟨P, V, re, hT⟩ := lst_of h hnil hin hl
    have CP : Hid (∀ z, Below w.heap.size w z → Calls Try.prog 24 #[.slice base t.length c] z fun e w' => ∃ (a : Option Addr) (c g : Nat), e = .returned (.slice a t.length c) ∧ NodesAt w' a g 0 t ∧ Below z.heap.size z w') := hT.cp
    have SP : Hid (∀ (bs : Option Addr) (g o c : Nat) W, NodesAt W bs g o t → Calls Try.prog 22 #[.slice bs t.length c] W fun e w' => ∃ u v, e = .returned (.tuple #[u, v, .int .i64 re]) ∧ SpotR W w' u v P V) := hT.sp
    have OK : Hid (re = 0 → P.length = V.length ∧ ∀ z, Below w.heap.size w z → ∀ j, j < P.length → Calls Try.prog 25 #[.slice base t.length c, .int .i64 ((P.getD j 0 : Nat) : Int), .agg #[.int .i64 (V.getD j mv0).1, .bool (V.getD j mv0).2]] z fun e w' => e = .returned (.bool true) ∧ Below z.heap.size z w') := hT.ok
    have NO : Hid (re ≠ 0 → P.length = 0 ∧ V.length = 0) := hT.no
    have LP : Hid (P.length ≤ 3000000) := hT.lp
    clear hT h hnil hin hcap hl
    go_enter Try.func5, Try.ntmps5
    go_wp2_with fail
    refine (PA.out _).mono ?_
    rintro e w1 ⟨aA, cA, rfl, hb⟩
    have BX : Hid (Below w.heap.size w w1) := hb
    clear hb
    go_wp2_with fail
    refine (CP.out _ BX.out).mono ?_
    rintro e w2 ⟨a2, c2, g2, rfl, hn, hb⟩
    have N2 : Hid (NodesAt w2 a2 g2 0 t) := hn
    have B2 : Hid (Below w.heap.size w w2) := BX.out.trans (hb.mono BX.out.size)
    clear hb hn
    go_wp2_with fail
    refine (SP.out _ _ _ _ _ N2.out).mono ?_
    rintro e w3 ⟨u3, v3, rfl, hs⟩
    obtain ⟨a3, ca3, g3, b3, cb3, h3, rfl, rfl, hS⟩ := spR_of hs
    have S3 : Hid (SpRd w3 a3 g3 b3 h3 P V) := hS
    have B3 : Hid (Below w.heap.size w w3) := B2.out.trans (hs.below.mono B2.out.size)
    clear hs hS
    by_cases he : re = 0
    · have de : (re != 0) = false := by simp [he]
      have LE : Hid (P.length = V.length) := (OK.out he).1
      have le : ((P.length : Int) != (V.length : Int)) = false := by have := LE.out; simp; omega
      have OS : Hid (∀ z, Below w.heap.size w z → ∀ j, j < P.length → Calls Try.prog 25 #[.slice base t.length c, .int .i64 ((P.getD j 0 : Nat) : Int), .agg #[.int .i64 (V.getD j mv0).1, .bool (V.getD j mv0).2]] z fun e w' => e = .returned (.bool true) ∧ Below z.heap.size z w') := fun z hz j hj => (OK.out he).2 z hz j hj
      have pl : (P.length : Int) ≤ 3000000 := by have := LP.out; omega
      clear he OK
      generalize w3 = W3 at *
      go_wp2_with fail
      go_loopw [39] (fun i wr => ∃ j : Nat, j ≤ P.length ∧ i = .int .i64 j ∧ Below W3.heap.size W3 wr) (fun i _ => P.length - (intOf i).toNat)
      case atStart => exact ⟨0, Nat.zero_le _, rfl, Below.refl _ _⟩
      case round =>
        obtain ⟨j, hj, rfl, hbw⟩ := hrel
        have j0 : (0 : Int) ≤ (j : Int) := Int.natCast_nonneg _
        have BW : Hid (Below W3.heap.size W3 wr) := hbw
        by_cases hlt : j < P.length
        · have jlt : (j : Int) < (P.length : Int) := by omega
          have jlv : (j : Int) < (V.length : Int) := by have := LE.out; omega
          obtain ⟨rfl, l1⟩ := (S3.out.below hbw).p1 (by omega)
          obtain ⟨rfl, l2⟩ := (S3.out.below hbw).q1 (by have := LE.out; omega)
          have x0 := (S3.out.below hbw).p2 j hlt
          obtain ⟨x1, x2⟩ := (S3.out.below hbw).q2 j (by have := LE.out; omega)
          have OJ : Hid (∀ z, Below w.heap.size w z → Calls Try.prog 25 #[.slice base t.length c, .int .i64 ((P.getD j 0 : Nat) : Int), .agg #[.int .i64 (V.getD j mv0).1, .bool (V.getD j mv0).2]] z fun e w' => e = .returned (.bool true) ∧ Below z.heap.size z w') := fun z hz => OS.out z hz j hlt
          have BD : Hid (Below w.heap.size w wr.drew) := (B3.out.trans (hbw.mono B3.out.size)).drew
          have BW' : Hid (Below W3.heap.size W3 wr.drew) := hbw.drew
          clear hbw
          generalize ((P.getD j 0 : Nat) : Int) = pj at *
          generalize (V.getD j mv0).1 = mk at *
          generalize (V.getD j mv0).2 = mm at *
          cases h6 : decide ((j : Int) < 60)
          · go_wp2_with fail
            go_region
            all_goals go_wp2_with fail
            all_goals exact ⟨⟨j + 1, by omega, by go_num, BW'.out⟩, by simp [intOf]; omega⟩
          · go_wp2_with fail
            go_cut [56] from 42 to 57 (fun v wx => v = .bool false ∧ Below W3.heap.size W3 wx)
            case first =>
              go_region_held3 (fun w' => w'.cell? ⟨g3, j, none⟩ = some (.int .i64 pj) ∧ w'.cell? ⟨h3, j * 2, none⟩ = some (.int .i64 mk) ∧ w'.cell? ⟨h3, j * 2 + 1, none⟩ = some (.bool mm))
                (first | (with_reducible exact X4.out) | go_keep)
                (first | (go_at_call 25; refine (OJ.out _ BD.out).mono ?_; rintro e w4 ⟨rfl, hb⟩; have B4 : Hid (Below W3.heap.size W3 w4) := BW'.out.trans (hb.mono BW'.out.size); have X4 : Hid (w4.cell? ⟨g3, j, none⟩ = some (.int .i64 pj) ∧ w4.cell? ⟨h3, j * 2, none⟩ = some (.int .i64 mk) ∧ w4.cell? ⟨h3, j * 2 + 1, none⟩ = some (.bool mm)) := ⟨(hb.cell (p := ⟨g3, j, none⟩) l1).trans x0, (hb.cell (p := ⟨h3, j * 2, none⟩) l2).trans x1, (hb.cell (p := ⟨h3, j * 2 + 1, none⟩) l2).trans x2⟩; clear hb))
              all_goals go_wp2_with fail
              all_goals go_meet
              all_goals exact ⟨rfl, B4.out⟩
            case rest =>
              obtain ⟨rfl, hc⟩ := hcut
              have BC : Hid (Below W3.heap.size W3 wc) := hc
              clear hc
              go_wp2_with fail
              exact ⟨⟨j + 1, by omega, by go_num, BC.out⟩, by simp [intOf]; omega⟩
        · have nlt : ¬ ((j : Int) < (P.length : Int)) := by omega
          clear hbw
          go_wp2_with fail
          go_ret
          exact ⟨rfl, B3.out.trans (BW.out.mono B3.out.size)⟩
    · have de : (re != 0) = true := by simp [he]
      have eP : P.length = 0 := (NO.out he).1
      have eV : V.length = 0 := (NO.out he).2
      rw [eP, eV]
      clear eP eV OK
      go_wp2_with fail
      go_ret
      exact ⟨rfl, B3.out⟩
  · have hl' : (t.length : Int) > 120 := by omega
    have eT : (t.take 120).length = 120 := by rw [List.length_take]; omega
    obtain ⟨P, V, re, hT⟩ := lst_of (h.cut 120) (c := c) (fun q => absurd (hnil q).1 (by omega)) (hin.cut 120) (by omega)
    have c12 : (120 : Int) ≤ (c : Int) := by omega
    generalize t.take 120 = T at *
    have CP : Hid (∀ z, Below w.heap.size w z → Calls Try.prog 24 #[.slice base 120 c] z fun e w' => ∃ (a : Option Addr) (c g : Nat), e = .returned (.slice a T.length c) ∧ NodesAt w' a g 0 T ∧ Below z.heap.size z w') := by have q := hT.cp; rw [eT] at q ⊢; exact q
    have SP : Hid (∀ (bs : Option Addr) (g o c : Nat) W, NodesAt W bs g o T → Calls Try.prog 22 #[.slice bs T.length c] W fun e w' => ∃ u v, e = .returned (.tuple #[u, v, .int .i64 re]) ∧ SpotR W w' u v P V) := hT.sp
    have OK : Hid (re = 0 → P.length = V.length ∧ ∀ z, Below w.heap.size w z → ∀ j, j < P.length → Calls Try.prog 25 #[.slice base 120 c, .int .i64 ((P.getD j 0 : Nat) : Int), .agg #[.int .i64 (V.getD j mv0).1, .bool (V.getD j mv0).2]] z fun e w' => e = .returned (.bool true) ∧ Below z.heap.size z w') := by have q := hT.ok; rw [eT] at q; exact q
    have NO : Hid (re ≠ 0 → P.length = 0 ∧ V.length = 0) := hT.no
    have LP : Hid (P.length ≤ 3000000) := hT.lp
    obtain rfl : base = some ⟨b, o, none⟩ := h.base (by omega)
    clear hT h hnil hin eT hl
    go_enter Try.func5, Try.ntmps5
    go_wp2_with fail
    refine (PA.out _).mono ?_
    rintro e w1 ⟨aA, cA, rfl, hb⟩
    have BX : Hid (Below w.heap.size w w1) := hb
    clear hb
    go_wp2_with fail
    refine (CP.out _ BX.out).mono ?_
    rintro e w2 ⟨a2, c2, g2, rfl, hn, hb⟩
    have N2 : Hid (NodesAt w2 a2 g2 0 T) := hn
    have B2 : Hid (Below w.heap.size w w2) := BX.out.trans (hb.mono BX.out.size)
    clear hb hn
    go_wp2_with fail
    refine (SP.out _ _ _ _ _ N2.out).mono ?_
    rintro e w3 ⟨u3, v3, rfl, hs⟩
    obtain ⟨a3, ca3, g3, b3, cb3, h3, rfl, rfl, hS⟩ := spR_of hs
    have S3 : Hid (SpRd w3 a3 g3 b3 h3 P V) := hS
    have B3 : Hid (Below w.heap.size w w3) := B2.out.trans (hs.below.mono B2.out.size)
    clear hs hS
    by_cases he : re = 0
    · have de : (re != 0) = false := by simp [he]
      have LE : Hid (P.length = V.length) := (OK.out he).1
      have le : ((P.length : Int) != (V.length : Int)) = false := by have := LE.out; simp; omega
      have OS : Hid (∀ z, Below w.heap.size w z → ∀ j, j < P.length → Calls Try.prog 25 #[.slice (some ⟨b, o, none⟩) 120 c, .int .i64 ((P.getD j 0 : Nat) : Int), .agg #[.int .i64 (V.getD j mv0).1, .bool (V.getD j mv0).2]] z fun e w' => e = .returned (.bool true) ∧ Below z.heap.size z w') := fun z hz j hj => (OK.out he).2 z hz j hj
      have pl : (P.length : Int) ≤ 3000000 := by have := LP.out; omega
      clear he OK
      generalize w3 = W3 at *
      go_wp2_with fail
      go_loopw [39] (fun i wr => ∃ j : Nat, j ≤ P.length ∧ i = .int .i64 j ∧ Below W3.heap.size W3 wr) (fun i _ => P.length - (intOf i).toNat)
      case atStart => exact ⟨0, Nat.zero_le _, rfl, Below.refl _ _⟩
      case round =>
        obtain ⟨j, hj, rfl, hbw⟩ := hrel
        have j0 : (0 : Int) ≤ (j : Int) := Int.natCast_nonneg _
        have BW : Hid (Below W3.heap.size W3 wr) := hbw
        by_cases hlt : j < P.length
        · have jlt : (j : Int) < (P.length : Int) := by omega
          have jlv : (j : Int) < (V.length : Int) := by have := LE.out; omega
          obtain ⟨rfl, l1⟩ := (S3.out.below hbw).p1 (by omega)
          obtain ⟨rfl, l2⟩ := (S3.out.below hbw).q1 (by have := LE.out; omega)
          have x0 := (S3.out.below hbw).p2 j hlt
          obtain ⟨x1, x2⟩ := (S3.out.below hbw).q2 j (by have := LE.out; omega)
          have OJ : Hid (∀ z, Below w.heap.size w z → Calls Try.prog 25 #[.slice (some ⟨b, o, none⟩) 120 c, .int .i64 ((P.getD j 0 : Nat) : Int), .agg #[.int .i64 (V.getD j mv0).1, .bool (V.getD j mv0).2]] z fun e w' => e = .returned (.bool true) ∧ Below z.heap.size z w') := fun z hz => OS.out z hz j hlt
          have BD : Hid (Below w.heap.size w wr.drew) := (B3.out.trans (hbw.mono B3.out.size)).drew
          have BW' : Hid (Below W3.heap.size W3 wr.drew) := hbw.drew
          clear hbw
          generalize ((P.getD j 0 : Nat) : Int) = pj at *
          generalize (V.getD j mv0).1 = mk at *
          generalize (V.getD j mv0).2 = mm at *
          cases h6 : decide ((j : Int) < 60)
          · go_wp2_with fail
            go_region
            all_goals go_wp2_with fail
            all_goals exact ⟨⟨j + 1, by omega, by go_num, BW'.out⟩, by simp [intOf]; omega⟩
          · go_wp2_with fail
            go_cut [56] from 42 to 57 (fun v wx => v = .bool false ∧ Below W3.heap.size W3 wx)
            case first =>
              go_region_held3 (fun w' => w'.cell? ⟨g3, j, none⟩ = some (.int .i64 pj) ∧ w'.cell? ⟨h3, j * 2, none⟩ = some (.int .i64 mk) ∧ w'.cell? ⟨h3, j * 2 + 1, none⟩ = some (.bool mm))
                (first | (with_reducible exact X4.out) | go_keep)
                (first | (go_at_call 25; refine (OJ.out _ BD.out).mono ?_; rintro e w4 ⟨rfl, hb⟩; have B4 : Hid (Below W3.heap.size W3 w4) := BW'.out.trans (hb.mono BW'.out.size); have X4 : Hid (w4.cell? ⟨g3, j, none⟩ = some (.int .i64 pj) ∧ w4.cell? ⟨h3, j * 2, none⟩ = some (.int .i64 mk) ∧ w4.cell? ⟨h3, j * 2 + 1, none⟩ = some (.bool mm)) := ⟨(hb.cell (p := ⟨g3, j, none⟩) l1).trans x0, (hb.cell (p := ⟨h3, j * 2, none⟩) l2).trans x1, (hb.cell (p := ⟨h3, j * 2 + 1, none⟩) l2).trans x2⟩; clear hb))
              all_goals go_wp2_with fail
              all_goals go_meet
              all_goals exact ⟨rfl, B4.out⟩
            case rest =>
              obtain ⟨rfl, hc⟩ := hcut
              have BC : Hid (Below W3.heap.size W3 wc) := hc
              clear hc
              go_wp2_with fail
              exact ⟨⟨j + 1, by omega, by go_num, BC.out⟩, by simp [intOf]; omega⟩
        · have nlt : ¬ ((j : Int) < (P.length : Int)) := by omega
          clear hbw
          go_wp2_with fail
          go_ret
          exact ⟨rfl, B3.out.trans (BW.out.mono B3.out.size)⟩
    · have de : (re != 0) = true := by simp [he]
      have eP : P.length = 0 := (NO.out he).1
      have eV : V.length = 0 := (NO.out he).2
      rw [eP, eV]
      clear eP eV OK
      go_wp2_with fail
      go_ret
      exact ⟨rfl, B3.out⟩
end Go.Proofs.Ythlhbajaogonnaa



namespace Go.Proofs.Ythlhbajaogonnaa

open Go.ChangeShapes Go.WideShapes Go.ChangeAt Go.RowKit Go.Deep

set_option maxRecDepth 100000 in
theorem larchSteps_lifted (os : Os) (started : os.Started) (H : Type) (enc : TypeId × Value → H) :
    ReturnsInHanded {} Try.checked os 5 .any (Rows.larchStepsSpec.pre6 enc Try.prog Try.f5 Rows.larchStepsRow.domain false) (Rows.larchStepsSpec.post enc Try.prog Try.f5 false true false false) := by
  refine returnsInHanded_of_change_sized (C := Try.checked) own started (by kernel_rfl) Try.func5
    (ChangeSpec.witness6 (enc := enc) (C := Try.checked) false ⟨#[], #[.slice none 0 0], []⟩ 8 (by kernel_rfl) (by kernel_rfl) (by kernel_rfl) (by kernel_rfl)) ?_
  intro W base args ds gs before hval0 hW _ hsz0 _
  have hval : ∀ (j : Nat) t v, Try.f5.params[j]? = some t → args[j]? = some v → Value.okWide Try.prog W .any base t v := hval0
  have hW' := hW
  obtain ⟨p, q, hA0, hV, rfl, hfz, hnd⟩ := hW
  have hA : DataW.TrodAll enc Try.prog W 0 (fun _ => true) true Try.f5.params.toList args.toList ds p := hA0
  rw [Try.params5] at hA hval
  obtain ⟨v0, d0, rfl, rfl, h0⟩ := trodAll_one hA
  obtain ⟨rfl, rfl⟩ := trodVars_none hV
  obtain ⟨ad0, m0, ca0, rfl⟩ := okWide_slice Try.underlying22 (hval 0 22 v0 rfl rfl)
  have k0 := h0
  have lt0 : ∀ x ∈ p, x.block < W.heap.size := by obtain ⟨m, hm⟩ := k0; exact DataW.trod_lt m _ _ _ hm
  obtain ⟨fuel0, hf0⟩ := h0
  obtain ⟨b0, o0, t0, rfl, hE0, hI0, hC0, hZ0⟩ := open_nodes hf0
  clear hA0 hval0
  refine (larchSteps_any ad0 b0 o0 ca0 t0 W hE0 hZ0 hC0 hI0).mono fun e W' ⟨he, bel⟩ => ?_
  subst he
  exact ⟨_, rfl, _, _, _, [], _, [], hW', trodAll_mk1 (shut_bool Try.underlying4 _), trodAll_mk1 (Below.trod laidOut (by kernel_rfl) (of_decide_eq_true (by kernel_rfl)) k0 bel lt0), rfl, bel.frame _, fun h => by cases h⟩

/-- For every input LarchSteps returns true, and its arguments read as before. -/
theorem larchSteps_proved : Rows.LarchStepsSaid :=
  OpenClaim.holds_of_wide 5 Try.f5 rfl rfl rfl rfl rfl rfl rfl ⟨rfl, rfl, rfl, rfl, rfl⟩ rfl rfl rfl rfl rfl (by kernel_rfl) Try.func5 (by kernel_rfl)
    (of_decide_eq_true (by kernel_rfl)) (by unfold Func.isWrapper; first | (rw [if_pos (by decide +kernel)]; kernel_rfl) | (rw [if_neg (by decide +kernel)]; exact ⟨rfl, rfl⟩))
    (fun os started H enc _ => larchSteps_lifted os started H enc)
#print axioms larchSteps_proved

end Go.Proofs.Ythlhbajaogonnaa
