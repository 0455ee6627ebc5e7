
/- Layer 16: the law TableApart. Made by mk_tap.py. -/

import Derived.Test.YtkioahkfjgbgdaaDoorTApM

namespace Go.Proofs.YtkioahkfjgbgdaaDoor

open Go.RowKit

attribute [local go_sem ↓] Go.wp_at_zero Go.wp_at_succ

theorem subL_le (t : NL) (p : Int) : (subL t p).length ≤ 100000 := by
  unfold subL
  split
  · rename_i h
    obtain ⟨he, h1, h2⟩ := h
    obtain ⟨hb, hf⟩ := formE_ok he
    obtain ⟨x, rfl⟩ := Int.eq_ofNat_of_zero_le h1
    obtain ⟨M, hM, hMN, hMl, hMa⟩ := form_at hf x (by omega)
    rw [partL_length, Int.toNat_natCast, theL_of hM]
    omega
  · simp
theorem graA_le (t : NL) (p : Int) (u : NL) : (graA t p u).length ≤ 100000 := by
  unfold graA
  split
  · rename_i h
    rw [BT.lay_length]
    unfold graE at h
    split at h
    · contradiction
    · split at h
      · split at h
        · simp at h
        · omega
      · simp at h
  · simp
theorem leafL_le (t : NL) : (leafL t).length ≤ 100000 := by
  by_cases he : formE t = 0
  · obtain ⟨hb, hf⟩ := formE_ok he
    have := leafL_len he hf
    omega
  · unfold leafL; rw [if_neg he]; simp
theorem prL_le (t : NL) : ∀ X : List Nat, (prL t X).length ≤ X.length
  | [] => by simp [prL]
  | x :: L => by
    have := prL_le t L
    unfold prL
    split <;> simp <;> omega
theorem pairL_le (t : NL) : (pairL t).length ≤ 100000 := by
  unfold pairL
  split
  · exact Nat.le_trans (prL_le _ _) (leafL_le t)
  · simp
theorem cellOf {z : World} {k : Nat} {cs : Array Value} {T : TypeId} (h : z.heap[k]? = some (.cells cs T (0, 0))) (j : Nat) (v : Value) (hv : cs[j]? = some v) : z.cell? ⟨k, j, none⟩ = some v := by
  simp [World.cell?, h, hv]
theorem parL_le (t : NL) : (parL t).length ≤ 100000 := by
  unfold parL
  split
  · rename_i he
    obtain ⟨hb, hf⟩ := formE_ok he
    rw [upL_length]; exact hb
  · simp
theorem flip_set {z : World} {B g n C j : Nat} {X R : NL} (h : z.ownsRow B 40 6 (.slice (some ⟨g, 0, none⟩) n C) n (ndCells (X ++ R))) (hj : j < X.length) (v : Int) :
    ∃ Y : NL, Y.length = X.length ∧ (z.setCell ⟨g, j * 6 + 2, none⟩ (.int .i64 v)).ownsRow B 40 6 (.slice (some ⟨g, 0, none⟩) n C) n (ndCells (Y ++ R)) := by
  refine ⟨X.set j { ndAt (X ++ R) j with wt := v }, by simp, ?_⟩
  have q := owns_put h (j * 6 + 2) (.int .i64 v)
  rw [← List.set_append_left _ _ hj, ndCells_setK 2 (.int .i64 v) (X ++ R) j { ndAt (X ++ R) j with wt := v } (by simp; omega) (by omega) (fun k hk hne => by match k, hk with | 0, _ => rfl | 1, _ => rfl | 2, _ => exact absurd rfl hne | 3, _ => rfl | 4, _ => rfl | 5, _ => rfl) rfl]
  exact q
theorem made_tail (t : NL) : ndCells t ++ (ndCells (List.replicate (t.length + 5) nd0)).drop (ndCells t).length = ndCells (t ++ List.replicate 5 nd0) := by
  rw [ndCells_append, zeros_nodes, zeros_nodes, ndCells_length]
  congr 1
  rw [List.drop_replicate]
  congr 1
  omega
set_option maxRecDepth 100000 in
set_option maxHeartbeats 16000000 in
theorem apart_any (base : Option Addr) (b o c : Nat) (t ET : NL) (p : Int) (w : World) (h : NodesAt w base b o t) (hnil : base = none → t.length = 0 ∧ c = 0) (hby : t.length * 48 ≤ 140737488351232) (hK : Calls Tryd.prog 4 #[] w fun e w' => e = .returned (.bool true) ∧ Below w.heap.size w w')
    (hE : ∀ W, Calls Tryd.prog 12 #[] W fun e w' => e = .returned (.slice (some ⟨W.heap.size, 0, none⟩) 3 3) ∧ w'.ownsRow W.heap.size 40 6 (.slice (some ⟨W.heap.size, 0, none⟩) 3 3) 3 (ndCells ET) ∧ Below W.heap.size W w')
    (hE' : ∀ W, Calls Tryd.prog 20 #[] W fun e w' => e = .returned (.slice (some ⟨W.heap.size, 0, none⟩) 3 3) ∧ w'.ownsRow W.heap.size 40 6 (.slice (some ⟨W.heap.size, 0, none⟩) 3 3) 3 (ndCells ET) ∧ Below W.heap.size W w') (hE3 : ET.length = 3) :
    Calls Tryd.prog 3 #[.slice base t.length c, .int .i64 p] w fun e w' => e = .returned (.bool true) ∧ Below w.heap.size w w' := by
  have HA : Hid (∀ z, Below w.heap.size w z → NodesAt z base b o t) := fun z hz => h.below hz
  have HN : Hid (base = none → t.length = 0 ∧ c = 0) := hnil
  have HK : Hid (Calls Tryd.prog 4 #[] w fun e w' => e = .returned (.bool true) ∧ Below w.heap.size w w') := hK
  have PNX : Hid (∀ (X : NL) (bs : Option Addr) (g o c : Nat) W, NodesAt W bs g o X → Calls Tryd.prog 5 #[.slice bs X.length c] W fun e w' => ∃ v, e = .returned (.tuple #[v, .int .i64 (formE X)]) ∧ w'.ownsRow W.heap.size 40 6 v (normL X).length (ndCells (normL X)) ∧ Below W.heap.size W w') := fun X bs g o c W hW => norm_any bs g o c X W hW
  have RNX : Hid (∀ (X : NL) (bs : Option Addr) (g o c : Nat) W, NodesAt W bs g o X → Calls Tryd.prog 14 #[.slice bs X.length c] W fun e w' => ∃ v, e = .returned (.tuple #[v, .int .i64 (formE X)]) ∧ w'.ownsRow W.heap.size 40 6 v (normL X).length (ndCells (normL X)) ∧ Below W.heap.size W w') := fun X bs g o c W hW => rnorm_any bs g o c X W hW

  have PN : Hid (∀ (bs : Option Addr) (g o c : Nat) W, NodesAt W bs g o t → Calls Tryd.prog 5 #[.slice bs t.length c] W fun e w' => ∃ v, e = .returned (.tuple #[v, .int .i64 (formE t)]) ∧ w'.ownsRow W.heap.size 40 6 v (normL t).length (ndCells (normL t)) ∧ Below W.heap.size W w') := fun bs g o c W hW => norm_any bs g o c t W hW
  have RN : Hid (∀ (bs : Option Addr) (g o c : Nat) W, NodesAt W bs g o t → Calls Tryd.prog 14 #[.slice bs t.length c] W fun e w' => ∃ v, e = .returned (.tuple #[v, .int .i64 (formE t)]) ∧ w'.ownsRow W.heap.size 40 6 v (normL t).length (ndCells (normL t)) ∧ Below W.heap.size W w') := fun bs g o c W hW => rnorm_any bs g o c t W hW
  have PS : Hid (∀ (bs : Option Addr) (g o c : Nat) W, NodesAt W bs g o t → Calls Tryd.prog 6 #[.slice bs t.length c, .int .i64 p] W fun e w' => ∃ v, e = .returned (.tuple #[v, .int .i64 (subE t p)]) ∧ w'.ownsRow W.heap.size 40 6 v (subL t p).length (ndCells (subL t p)) ∧ Below W.heap.size W w') := fun bs g o c W hW => Sub_any bs g o c t p W hW
  have RS : Hid (∀ (bs : Option Addr) (g o c : Nat) W, NodesAt W bs g o t → Calls Tryd.prog 15 #[.slice bs t.length c, .int .i64 p] W fun e w' => ∃ v, e = .returned (.tuple #[v, .int .i64 (subE t p)]) ∧ w'.ownsRow W.heap.size 40 6 v (subL t p).length (ndCells (subL t p)) ∧ Below W.heap.size W w') := fun bs g o c W hW => rSub_any bs g o c t p W hW
  have PG : Hid (∀ (bs : Option Addr) (g o c : Nat) W, NodesAt W bs g o t → Calls Tryd.prog 7 #[.slice bs t.length c, .int .i64 p, .slice bs t.length c] W fun e w' => ∃ v, e = .returned (.tuple #[v, .int .i64 (graE t p t)]) ∧ w'.ownsRow W.heap.size 40 6 v (graA t p t).length (ndCells (graA t p t)) ∧ Below W.heap.size W w') := fun bs g o c W hW => Graft_any bs bs g o c g o c t t p W hW hW
  have RG : Hid (∀ (bs : Option Addr) (g o c : Nat) W, NodesAt W bs g o t → Calls Tryd.prog 16 #[.slice bs t.length c, .int .i64 p, .slice bs t.length c] W fun e w' => ∃ v, e = .returned (.tuple #[v, .int .i64 (graE t p t)]) ∧ w'.ownsRow W.heap.size 40 6 v (graA t p t).length (ndCells (graA t p t)) ∧ Below W.heap.size W w') := fun bs g o c W hW => rGraft_any bs bs g o c g o c t t p W hW hW
  have PM : Hid (∀ (bs : Option Addr) (g o c : Nat) W, NodesAt W bs g o t → Calls Tryd.prog 8 #[.slice bs t.length c] W fun e w' => ∃ v, e = .returned (.tuple #[v, .int .i64 (formE t)]) ∧ w'.ownsRow W.heap.size 40 6 v (mirA t).length (ndCells (mirA t)) ∧ Below W.heap.size W w') := fun bs g o c W hW => Mirror_any bs g o c t W hW
  have RM : Hid (∀ (bs : Option Addr) (g o c : Nat) W, NodesAt W bs g o t → Calls Tryd.prog 17 #[.slice bs t.length c] W fun e w' => ∃ v, e = .returned (.tuple #[v, .int .i64 (formE t)]) ∧ w'.ownsRow W.heap.size 40 6 v (mirA t).length (ndCells (mirA t)) ∧ Below W.heap.size W w') := fun bs g o c W hW => rMirror_any bs g o c t W hW
  have PR : Hid (∀ (bs : Option Addr) (g o c : Nat) W, NodesAt W bs g o t → Calls Tryd.prog 10 #[.slice bs t.length c] W fun e w' => ∃ v, e = .returned (.tuple #[v, .int .i64 (formE t)]) ∧ w'.ownsRow W.heap.size 42 2 v (pairL t).length (pairCells (pairL t)) ∧ Below W.heap.size W w') := fun bs g o c W hW => Pairs_any bs g o c t W hW
  have RV : Hid (∀ (bs : Option Addr) (g o c : Nat) W, NodesAt W bs g o t → Calls Tryd.prog 18 #[.slice bs t.length c] W fun e w' => ∃ v, e = .returned (.tuple #[v, .int .i64 (formE t)]) ∧ w'.ownsRow W.heap.size 3 1 v (leafL t).length (natC (leafL t)) ∧ Below W.heap.size W w') := fun bs g o c W hW => rLeaves_any bs g o c t W hW
  have PL : Hid (∀ (bs : Option Addr) (g o c : Nat) W, NodesAt W bs g o t → Calls Tryd.prog 9 #[.slice bs t.length c] W fun e w' => ∃ a n cp gl, e = .returned (.tuple #[.slice a n cp, .int .i64 (formE t)]) ∧ n = (leafL t).length ∧ PlsAt w' a gl (leafL t) ∧ Below W.heap.size W w' ∧ ((leafL t).length ≠ 0 → W.heap.size ≤ gl ∧ ∃ F, Ints w' gl (leafL t).length F)) := fun bs g o c W hW => Leavesw_any bs g o c t W hW
  have PU : Hid (∀ (bs : Option Addr) (g o c : Nat) W, NodesAt W bs g o t → Calls Tryd.prog 11 #[.slice bs t.length c] W fun e w' => ∃ a n cp gl, e = .returned (.tuple #[.slice a n cp, .int .i64 (formE t)]) ∧ n = (parL t).length ∧ IsAt w' a gl (parL t) ∧ Below W.heap.size W w' ∧ ((parL t).length ≠ 0 → W.heap.size ≤ gl ∧ ∃ F, Ints w' gl (parL t).length F)) := fun bs g o c W hW => Parentsw_any bs g o c t W hW
  have EM : Hid (∀ W, Calls Tryd.prog 12 #[] W fun e w' => e = .returned (.slice (some ⟨W.heap.size, 0, none⟩) 3 3) ∧ w'.ownsRow W.heap.size 40 6 (.slice (some ⟨W.heap.size, 0, none⟩) 3 3) 3 (ndCells ET) ∧ Below W.heap.size W w') := hE
  have RE : Hid (∀ W, Calls Tryd.prog 20 #[] W fun e w' => e = .returned (.slice (some ⟨W.heap.size, 0, none⟩) 3 3) ∧ w'.ownsRow W.heap.size 40 6 (.slice (some ⟨W.heap.size, 0, none⟩) 3 3) 3 (ndCells ET) ∧ Below W.heap.size W w') := hE'
  have EQ : Hid (∀ (X : NL) (n : Nat), X.length = n → ∀ (ba bb : Option Addr) (ga gb ca cb : Nat) W, NodesAt W ba ga 0 X → NodesAt W bb gb 0 X → Calls Tryd.prog 13 #[.slice ba n ca, .slice bb n cb] W fun e w' => e = .returned (.bool true) ∧ Below W.heap.size W w') := fun X n hn ba bb ga gb ca cb W h1 h2 => by
    subst hn
    have := rEqual_any ba bb ga 0 ca gb 0 cb X X W h1 h2
    rw [show nlEq X X = true by simp [nlEq]] at this
    exact this
  have IQ : Hid (∀ (X : List Nat) (ba bb : Option Addr) (ga gb ca cb : Nat) W, PlsAt W ba ga X → PlsAt W bb gb X → Calls Tryd.prog 19 #[.slice ba X.length ca, .slice bb X.length cb] W fun e w' => e = .returned (.bool true) ∧ Below W.heap.size W w') := fun X ba bb ga gb ca cb W h1 h2 => by
    have := ints_any ba bb ga ca gb cb _ _ W h1.ints h2.ints
    rw [show isEq (X.map fun x : Nat => (x : Int)) (X.map fun x : Nat => (x : Int)) = true by simp [isEq], List.length_map] at this
    exact this
  have BN : Hid ((normL t).length ≤ 100000) := normL_le t
  have BS : Hid ((subL t p).length ≤ 100000) := subL_le t p
  have BG : Hid ((graA t p t).length ≤ 100000) := graA_le t p t
  have BL : Hid ((leafL t).length ≤ 100000) := leafL_le t
  have BP : Hid ((pairL t).length ≤ 100000) := pairL_le t
  have BU : Hid ((parL t).length ≤ 100000) := parL_le t
  have EL3 : Hid (ET.length = 3) := hE3
  obtain ⟨i0, hi0, hz0, hz1, hz2⟩ := info_parts nd_info
  clear h hnil hK hE hE' hE3
  generalize normL t = NT at PN RN BN
  generalize subL t p = ST at PS RS BS
  generalize subE t p = fs at PS RS
  generalize graA t p t = GT at PG RG BG
  generalize graE t p t = fg at PG RG
  generalize mirA t = MT at PM RM
  generalize leafL t = LT at PL RV BL
  generalize pairL t = PT at PR BP
  generalize parL t = UT at PU BU
  generalize formE t = ft at PN RN PM RM PL RV PR PU
  have tb : (t.length : Int) ≤ 2932031007400 := by omega
  have t0 : (0 : Int) ≤ (t.length : Int) := Int.natCast_nonneg _
  obtain ⟨M, hM⟩ : ∃ M : Nat, M = t.length + 5 := ⟨_, rfl⟩
  have e5 : IntKind.i64.wrap ((t.length : Int) + 5) = (M : Int) := by rw [IntKind.wrap_i64] <;> omega
  have hM1 : t.length ≤ M := by omega
  have hM2 : (t.length : Int) ≤ (M : Int) := by omega
  have hM3 : M * 48 ≤ 140737488355328 := by omega
  have hmn := run_make_known (P := Tryd.prog) 22 40 (.agg #[.int .i64 0, .int .i64 0, .int .i64 0, .int .i64 0, .int .i64 0, .int .i64 0]) 6 48 nds_under nd_info M (by omega) (by omega)
  have CP : Hid (∀ (W : World) ty, NodesAt W base b o t → ∃ w', (Builtin.copy_ #[ 22, 22 ] ty #[.slice (some ⟨W.heap.size, 0, none⟩) M M, .slice base t.length c]).run Tryd.prog (W.alloc (.cells (madeCells #[.int .i64 0, .int .i64 0, .int .i64 0, .int .i64 0, .int .i64 0, .int .i64 0] (M * 6)) 40)) = .ok (goInt t.length) w' ∧ w'.ownsRow W.heap.size 40 6 (.slice (some ⟨W.heap.size, 0, none⟩) M M) M (ndCells (t ++ List.replicate 5 nd0)) ∧ Below W.heap.size W w') := fun W ty hW => by
    obtain ⟨w', h1, h2, h3, h4⟩ := copy_head (P := Tryd.prog) (w := W.alloc (.cells (madeCells #[.int .i64 0, .int .i64 0, .int .i64 0, .int .i64 0, .int .i64 0, .int .i64 0] (M * 6)) 40)) 22 22 ty 40 6 nds_under (by rw [hi0]; simp [hz1]) base M M t.length c W.heap.size hM1 (madeCells #[.int .i64 0, .int .i64 0, .int .i64 0, .int .i64 0, .int .i64 0, .int .i64 0] (M * 6)).toList 40 (by rw [Array.toArray_toList]; exact heap_alloc_at _ _ _ rfl) (ndCells t) (ndCells_length _) (fun q => ⟨_, hW.base q, nodes_news (hW.below (below_alloc _ _)) _ (hW.base q)⟩) (by rw [ndCells_length, made_nodes, ndCells_length, List.length_replicate]; omega) (ndCells_all _) W.heap.size W (below_alloc _ _) (Nat.le_refl _)
    refine ⟨w', h1, ⟨?_, Or.inr ⟨W.heap.size, M, _, rfl, Nat.le_refl _, h2, Nat.le_refl _, (by unfold maxLen; omega), ?_, ?_⟩⟩, h4⟩
    · rw [ndCells_length]; simp; omega
    · rw [made_nodes, hM, made_tail]; simp [ndCells_length]
    · rw [made_nodes, hM, made_tail]; rw [List.take_of_length_le (by simp [ndCells_length])]
  have HM : Hid (M = t.length + 5) := hM
  clear hby hM
  go_enter Tryd.func3, Tryd.ntmps3
  go_wp2_with fail
  refine HK.out.mono ?_
  rintro e w1 ⟨rfl, hb⟩
  have C1 : Hid (Below w.heap.size w w1) := hb
  clear hb
  obtain ⟨w2, cp1, cp2, cp3⟩ := CP.out w1 3 (HA.out _ C1.out)
  have FU : Hid (w2.ownsRow w1.heap.size 40 6 (.slice (some ⟨w1.heap.size, 0, none⟩) M M) M (ndCells (t ++ List.replicate 5 nd0))) := cp2
  have E1 : Hid (Below w1.heap.size w1 w2) := cp3
  have C2 : Hid (Below w.heap.size w w2) := C1.out.trans (cp3.mono C1.out.size)
  have FL : Hid (w1.heap.size < w2.heap.size) := (owns_lt cp2 _ rfl).2
  have TL : Hid ((t ++ List.replicate 5 nd0).length = M) := by show _ = _; rw [HM.out]; simp
  have FN : Hid (NodesAt w2 (some ⟨w1.heap.size, 0, none⟩) w1.heap.size 0 (t ++ List.replicate 5 nd0)) := nodes_of_cells (fun j hj => cp2.cellAt j (by rw [TL.out] at hj; exact hj)) FL.out (by rw [TL.out]; unfold maxLen; omega)
  have FI : Hid (NodesAt w2 (some ⟨w1.heap.size, 0, none⟩) w1.heap.size 0 t) := head_nodes FN.out
  clear cp2 cp3
  have K0 : Hid True := trivial
  go_wp2_with (first | (at_builtin; have hq := K0; (refine wpList_append_all (by rfl) _ _ _ (by rfl) w2.heap.size 40 i0 _ 6 48 nds_under hi0 hz0 hz1 hz2 rfl (by omega) _ 0 [] (by rfl) ⟨rfl, Or.inr ⟨w2.heap.size, 0, #[], rfl, Nat.le_refl _, heap_alloc_at _ _ _ rfl, Nat.le_refl _, (by unfold maxLen; omega), rfl, rfl⟩⟩ (some ⟨w1.heap.size, 0, none⟩) M M (ndCells (t ++ List.replicate 5 nd0)) (by rfl) (fun h => by cases h) (by rw [ndCells_length, TL.out]) (nodes_news (FN.out.below (below_alloc _ _))) (ndCells_all _) (by unfold maxLen; omega) (by omega) (by simp) ?_); intro vW w3 ho hgrow hnl; rw [Nat.zero_add, List.nil_append] at ho; have OW : Hid (w3.ownsRow w2.heap.size 40 6 vW M (ndCells (t ++ List.replicate 5 nd0))) := ho; have E2 : Hid (Below w2.heap.size w2 w3) := Below.grown (below_alloc _ _) hgrow (by simp) (by intro k hk; simp [Value.ownBlock] at hk; omega); clear hgrow hnl ho hq K0))

  obtain ⟨aW, cW, gW, hv, -, -, hn⟩ := nodes_of_owns (t := t ++ List.replicate 5 nd0) (by rw [TL.out]; exact OW.out)
  rw [TL.out] at hv
  subst hv
  have N_W : Hid (NodesAt w3 aW gW 0 (t ++ List.replicate 5 nd0)) := hn
  have C3 : Hid (Below w.heap.size w w3) := C2.out.trans (E2.out.mono C2.out.size)
  have FI3 : Hid (NodesAt w3 (some ⟨w1.heap.size, 0, none⟩) w1.heap.size 0 t) := FI.out.below E2.out
  clear hn OW
  go_wp2_with fail
  refine (PN.out _ _ _ _ _ FI3.out).mono ?_
  rintro e w4 ⟨v, rfl, ho, hb⟩
  obtain ⟨aA, cA, gA, rfl, hlo, -, hn⟩ := nodes_of_owns ho
  have N_A : Hid (NodesAt w4 aA gA 0 NT) := hn
  have R_A : Hid (w4.ownsRow w3.heap.size 40 6 (.slice aA NT.length cA) NT.length (ndCells NT)) := ho
  have I_A : Hid (NT.length ≠ 0 → w3.heap.size ≤ gA ∧ gA < w4.heap.size) := fun q => ⟨hlo q, hn.lt q⟩
  have E3 : Hid (Below w3.heap.size w3 w4) := hb
  have C4 : Hid (Below w.heap.size w w4) := C3.out.trans (hb.mono C3.out.size)
  have FI4 : Hid (NodesAt w4 (some ⟨w1.heap.size, 0, none⟩) w1.heap.size 0 t) := FI3.out.below hb
  clear hb ho hn hlo
  go_wp2_with fail
  refine (PN.out _ _ _ _ _ FI4.out).mono ?_
  rintro e w5 ⟨v, rfl, ho, hb⟩
  obtain ⟨aB, cB, gB, rfl, hlo, -, hn⟩ := nodes_of_owns ho
  have N_B : Hid (NodesAt w5 aB gB 0 NT) := hn
  have R_B : Hid (w5.ownsRow w4.heap.size 40 6 (.slice aB NT.length cB) NT.length (ndCells NT)) := ho
  have I_B : Hid (NT.length ≠ 0 → w4.heap.size ≤ gB ∧ gB < w5.heap.size) := fun q => ⟨hlo q, hn.lt q⟩
  have E4 : Hid (Below w4.heap.size w4 w5) := hb
  have C5 : Hid (Below w.heap.size w w5) := C4.out.trans (hb.mono C4.out.size)
  have FI5 : Hid (NodesAt w5 (some ⟨w1.heap.size, 0, none⟩) w1.heap.size 0 t) := FI4.out.below hb
  clear hb ho hn hlo
  go_wp2_with fail
  refine (PS.out _ _ _ _ _ FI5.out).mono ?_
  rintro e w6 ⟨v, rfl, ho, hb⟩
  obtain ⟨aC, cC, gC, rfl, hlo, -, hn⟩ := nodes_of_owns ho
  have N_C : Hid (NodesAt w6 aC gC 0 ST) := hn
  have R_C : Hid (w6.ownsRow w5.heap.size 40 6 (.slice aC ST.length cC) ST.length (ndCells ST)) := ho
  have I_C : Hid (ST.length ≠ 0 → w5.heap.size ≤ gC ∧ gC < w6.heap.size) := fun q => ⟨hlo q, hn.lt q⟩
  have E5 : Hid (Below w5.heap.size w5 w6) := hb
  have C6 : Hid (Below w.heap.size w w6) := C5.out.trans (hb.mono C5.out.size)
  have FI6 : Hid (NodesAt w6 (some ⟨w1.heap.size, 0, none⟩) w1.heap.size 0 t) := FI5.out.below hb
  clear hb ho hn hlo
  go_wp2_with fail
  refine (PG.out _ _ _ _ _ FI6.out).mono ?_
  rintro e w7 ⟨v, rfl, ho, hb⟩
  obtain ⟨aD, cD, gD, rfl, hlo, -, hn⟩ := nodes_of_owns ho
  have N_D : Hid (NodesAt w7 aD gD 0 GT) := hn
  have R_D : Hid (w7.ownsRow w6.heap.size 40 6 (.slice aD GT.length cD) GT.length (ndCells GT)) := ho
  have I_D : Hid (GT.length ≠ 0 → w6.heap.size ≤ gD ∧ gD < w7.heap.size) := fun q => ⟨hlo q, hn.lt q⟩
  have E6 : Hid (Below w6.heap.size w6 w7) := hb
  have C7 : Hid (Below w.heap.size w w7) := C6.out.trans (hb.mono C6.out.size)
  have FI7 : Hid (NodesAt w7 (some ⟨w1.heap.size, 0, none⟩) w1.heap.size 0 t) := FI6.out.below hb
  clear hb ho hn hlo
  go_wp2_with fail
  refine (PM.out _ _ _ _ _ FI7.out).mono ?_
  rintro e w8 ⟨v, rfl, ho, hb⟩
  obtain ⟨aM, cM, gM, rfl, hlo, -, hn⟩ := nodes_of_owns ho
  have N_M : Hid (NodesAt w8 aM gM 0 MT) := hn
  have R_M : Hid (w8.ownsRow w7.heap.size 40 6 (.slice aM MT.length cM) MT.length (ndCells MT)) := ho
  have I_M : Hid (MT.length ≠ 0 → w7.heap.size ≤ gM ∧ gM < w8.heap.size) := fun q => ⟨hlo q, hn.lt q⟩
  have E7 : Hid (Below w7.heap.size w7 w8) := hb
  have C8 : Hid (Below w.heap.size w w8) := C7.out.trans (hb.mono C7.out.size)
  have FI8 : Hid (NodesAt w8 (some ⟨w1.heap.size, 0, none⟩) w1.heap.size 0 t) := FI7.out.below hb
  clear hb ho hn hlo
  go_wp2_with fail
  refine (PL.out _ _ _ _ _ FI8.out).mono ?_
  rintro e w9 ⟨aL, n, cL, gL, rfl, hnq, hp, hb, hw⟩
  subst hnq
  have N_L : Hid (PlsAt w9 aL gL LT) := hp
  have Q_L : Hid (LT.length ≠ 0 → ∃ F, Ints w9 gL LT.length F) := fun q => (hw q).2
  have I_L : Hid (LT.length ≠ 0 → w8.heap.size ≤ gL ∧ gL < w9.heap.size) := fun q => ⟨(hw q).1, hp.lt q⟩
  have E8 : Hid (Below w8.heap.size w8 w9) := hb
  have C9 : Hid (Below w.heap.size w w9) := C8.out.trans (hb.mono C8.out.size)
  have FI9 : Hid (NodesAt w9 (some ⟨w1.heap.size, 0, none⟩) w1.heap.size 0 t) := FI8.out.below hb
  clear hb hp hw
  go_wp2_with fail
  refine (PL.out _ _ _ _ _ FI9.out).mono ?_
  rintro e w10 ⟨aK, n, cK, gK, rfl, hnq, hp, hb, hw⟩
  subst hnq
  have N_K : Hid (PlsAt w10 aK gK LT) := hp
  have Q_K : Hid (LT.length ≠ 0 → ∃ F, Ints w10 gK LT.length F) := fun q => (hw q).2
  have I_K : Hid (LT.length ≠ 0 → w9.heap.size ≤ gK ∧ gK < w10.heap.size) := fun q => ⟨(hw q).1, hp.lt q⟩
  have E9 : Hid (Below w9.heap.size w9 w10) := hb
  have C10 : Hid (Below w.heap.size w w10) := C9.out.trans (hb.mono C9.out.size)
  have FI10 : Hid (NodesAt w10 (some ⟨w1.heap.size, 0, none⟩) w1.heap.size 0 t) := FI9.out.below hb
  clear hb hp hw
  go_wp2_with fail
  refine (PR.out _ _ _ _ _ FI10.out).mono ?_
  rintro e w11 ⟨v, rfl, ho, hb⟩
  obtain ⟨aP, cP, gP, rfl, hq⟩ := own_slice3 ho
  have R_P : Hid (w11.ownsRow w10.heap.size 42 2 (.slice aP PT.length cP) PT.length (pairCells PT)) := ho
  have I_P : Hid (PT.length ≠ 0 → w10.heap.size ≤ gP ∧ gP < w11.heap.size) := fun q => (hq q).2
  have B_P : Hid (PT.length ≠ 0 → aP = some ⟨gP, 0, none⟩) := fun q => (hq q).1
  have E10 : Hid (Below w10.heap.size w10 w11) := hb
  have C11 : Hid (Below w.heap.size w w11) := C10.out.trans (hb.mono C10.out.size)
  have FI11 : Hid (NodesAt w11 (some ⟨w1.heap.size, 0, none⟩) w1.heap.size 0 t) := FI10.out.below hb
  clear hb ho hq
  go_wp2_with fail
  refine (PU.out _ _ _ _ _ FI11.out).mono ?_
  rintro e w12 ⟨aU, n, cU, gU, rfl, hnq, hp, hb, hw⟩
  subst hnq
  have N_U : Hid (IsAt w12 aU gU UT) := hp
  have Q_U : Hid (UT.length ≠ 0 → ∃ F, Ints w12 gU UT.length F) := fun q => (hw q).2
  have I_U : Hid (UT.length ≠ 0 → w11.heap.size ≤ gU ∧ gU < w12.heap.size) := fun q => ⟨(hw q).1, hp.lt q⟩
  have E11 : Hid (Below w11.heap.size w11 w12) := hb
  have C12 : Hid (Below w.heap.size w w12) := C11.out.trans (hb.mono C11.out.size)
  have FI12 : Hid (NodesAt w12 (some ⟨w1.heap.size, 0, none⟩) w1.heap.size 0 t) := FI11.out.below hb
  clear hb hp hw
  go_wp2_with fail
  refine (EM.out _).mono ?_
  rintro e w13 ⟨rfl, ho, hb⟩
  have N_X : Hid (NodesAt w13 (some ⟨w12.heap.size, 0, none⟩) w12.heap.size 0 ET) := nodes_of_cells (fun q hq => ho.cellAt q (by rw [EL3.out] at hq; exact hq)) (owns_lt ho _ rfl).2 (by rw [EL3.out]; unfold maxLen; omega)
  have R_X : Hid (w13.ownsRow w12.heap.size 40 6 (.slice (some ⟨w12.heap.size, 0, none⟩) 3 3) 3 (ndCells ET)) := ho
  have I_X : Hid (w12.heap.size < w13.heap.size) := (owns_lt ho _ rfl).2
  have E12 : Hid (Below w12.heap.size w12 w13) := hb
  have C13 : Hid (Below w.heap.size w w13) := C12.out.trans (hb.mono C12.out.size)
  have FI13 : Hid (NodesAt w13 (some ⟨w1.heap.size, 0, none⟩) w1.heap.size 0 t) := FI12.out.below hb
  clear hb ho
  go_wp2_with fail
  refine (EM.out _).mono ?_
  rintro e w14 ⟨rfl, ho, hb⟩
  have N_Y : Hid (NodesAt w14 (some ⟨w13.heap.size, 0, none⟩) w13.heap.size 0 ET) := nodes_of_cells (fun q hq => ho.cellAt q (by rw [EL3.out] at hq; exact hq)) (owns_lt ho _ rfl).2 (by rw [EL3.out]; unfold maxLen; omega)
  have R_Y : Hid (w14.ownsRow w13.heap.size 40 6 (.slice (some ⟨w13.heap.size, 0, none⟩) 3 3) 3 (ndCells ET)) := ho
  have I_Y : Hid (w13.heap.size < w14.heap.size) := (owns_lt ho _ rfl).2
  have E13 : Hid (Below w13.heap.size w13 w14) := hb
  have C14 : Hid (Below w.heap.size w w14) := C13.out.trans (hb.mono C13.out.size)
  have FI14 : Hid (NodesAt w14 (some ⟨w1.heap.size, 0, none⟩) w1.heap.size 0 t) := FI13.out.below hb
  clear hb ho
  go_wp2_with fail
  refine (EQ.out (t ++ List.replicate 5 nd0) M TL.out _ _ _ _ _ _ _ (FN.out.below (E2.out.trans ((E3.out.trans ((E4.out.trans ((E5.out.trans ((E6.out.trans ((E7.out.trans ((E8.out.trans ((E9.out.trans ((E10.out.trans ((E11.out.trans ((E12.out.trans (E13.out.mono E12.out.size)).mono E11.out.size)).mono E10.out.size)).mono E9.out.size)).mono E8.out.size)).mono E7.out.size)).mono E6.out.size)).mono E5.out.size)).mono E4.out.size)).mono E3.out.size)).mono E2.out.size))) (N_W.out.below (E3.out.trans ((E4.out.trans ((E5.out.trans ((E6.out.trans ((E7.out.trans ((E8.out.trans ((E9.out.trans ((E10.out.trans ((E11.out.trans ((E12.out.trans (E13.out.mono E12.out.size)).mono E11.out.size)).mono E10.out.size)).mono E9.out.size)).mono E8.out.size)).mono E7.out.size)).mono E6.out.size)).mono E5.out.size)).mono E4.out.size)).mono E3.out.size)))).mono ?_
  rintro e w15 ⟨rfl, hb⟩
  have E14 : Hid (Below w14.heap.size w14 w15) := hb
  have C15 : Hid (Below w.heap.size w w15) := C14.out.trans (hb.mono C14.out.size)
  clear hb
  go_wp2_with fail
  refine (RN.out _ _ _ _ _ (HA.out _ C15.out)).mono ?_
  rintro e w16 ⟨v, rfl, ho, hb⟩
  obtain ⟨aN, cN, gN, rfl, hlo, -, hn⟩ := nodes_of_owns ho
  have N_N : Hid (NodesAt w16 aN gN 0 NT) := hn
  have R_N : Hid (w16.ownsRow w15.heap.size 40 6 (.slice aN NT.length cN) NT.length (ndCells NT)) := ho
  have I_N : Hid (NT.length ≠ 0 → w15.heap.size ≤ gN ∧ gN < w16.heap.size) := fun q => ⟨hlo q, hn.lt q⟩
  have E15 : Hid (Below w15.heap.size w15 w16) := hb
  have C16 : Hid (Below w.heap.size w w16) := C15.out.trans (hb.mono C15.out.size)
  clear hb ho hn hlo
  go_wp2_with fail
  refine (RS.out _ _ _ _ _ (HA.out _ C16.out)).mono ?_
  rintro e w17 ⟨v, rfl, ho, hb⟩
  obtain ⟨aS, cS, gS, rfl, hlo, -, hn⟩ := nodes_of_owns ho
  have N_S : Hid (NodesAt w17 aS gS 0 ST) := hn
  have R_S : Hid (w17.ownsRow w16.heap.size 40 6 (.slice aS ST.length cS) ST.length (ndCells ST)) := ho
  have I_S : Hid (ST.length ≠ 0 → w16.heap.size ≤ gS ∧ gS < w17.heap.size) := fun q => ⟨hlo q, hn.lt q⟩
  have E16 : Hid (Below w16.heap.size w16 w17) := hb
  have C17 : Hid (Below w.heap.size w w17) := C16.out.trans (hb.mono C16.out.size)
  clear hb ho hn hlo
  go_wp2_with fail
  refine (RG.out _ _ _ _ _ (HA.out _ C17.out)).mono ?_
  rintro e w18 ⟨v, rfl, ho, hb⟩
  obtain ⟨aG, cG, gG, rfl, hlo, -, hn⟩ := nodes_of_owns ho
  have N_G : Hid (NodesAt w18 aG gG 0 GT) := hn
  have R_G : Hid (w18.ownsRow w17.heap.size 40 6 (.slice aG GT.length cG) GT.length (ndCells GT)) := ho
  have I_G : Hid (GT.length ≠ 0 → w17.heap.size ≤ gG ∧ gG < w18.heap.size) := fun q => ⟨hlo q, hn.lt q⟩
  have E17 : Hid (Below w17.heap.size w17 w18) := hb
  have C18 : Hid (Below w.heap.size w w18) := C17.out.trans (hb.mono C17.out.size)
  clear hb ho hn hlo
  go_wp2_with fail
  refine (RM.out _ _ _ _ _ (HA.out _ C18.out)).mono ?_
  rintro e w19 ⟨v, rfl, ho, hb⟩
  obtain ⟨aO, cO, gO, rfl, hlo, -, hn⟩ := nodes_of_owns ho
  have N_O : Hid (NodesAt w19 aO gO 0 MT) := hn
  have R_O : Hid (w19.ownsRow w18.heap.size 40 6 (.slice aO MT.length cO) MT.length (ndCells MT)) := ho
  have I_O : Hid (MT.length ≠ 0 → w18.heap.size ≤ gO ∧ gO < w19.heap.size) := fun q => ⟨hlo q, hn.lt q⟩
  have E18 : Hid (Below w18.heap.size w18 w19) := hb
  have C19 : Hid (Below w.heap.size w w19) := C18.out.trans (hb.mono C18.out.size)
  clear hb ho hn hlo
  go_wp2_with fail
  refine (RV.out _ _ _ _ _ (HA.out _ C19.out)).mono ?_
  rintro e w20 ⟨v, rfl, ho, hb⟩
  obtain ⟨aE, cE, gE, rfl, hlo, -, hn⟩ := pls_of_owns ho
  have N_E : Hid (PlsAt w20 aE gE LT) := hn
  have I_E : Hid (LT.length ≠ 0 → w19.heap.size ≤ gE ∧ gE < w20.heap.size) := fun q => ⟨hlo q, hn.lt q⟩
  have E19 : Hid (Below w19.heap.size w19 w20) := hb
  have C20 : Hid (Below w.heap.size w w20) := C19.out.trans (hb.mono C19.out.size)
  clear hb ho hn hlo
  go_wp2_with fail
  refine (EQ.out NT _ rfl _ _ _ _ _ _ _ (N_A.out.below (E4.out.trans ((E5.out.trans ((E6.out.trans ((E7.out.trans ((E8.out.trans ((E9.out.trans ((E10.out.trans ((E11.out.trans ((E12.out.trans ((E13.out.trans ((E14.out.trans ((E15.out.trans ((E16.out.trans ((E17.out.trans ((E18.out.trans (E19.out.mono E18.out.size)).mono E17.out.size)).mono E16.out.size)).mono E15.out.size)).mono E14.out.size)).mono E13.out.size)).mono E12.out.size)).mono E11.out.size)).mono E10.out.size)).mono E9.out.size)).mono E8.out.size)).mono E7.out.size)).mono E6.out.size)).mono E5.out.size)).mono E4.out.size))) (N_N.out.below (E16.out.trans ((E17.out.trans ((E18.out.trans (E19.out.mono E18.out.size)).mono E17.out.size)).mono E16.out.size)))).mono ?_
  rintro e w21 ⟨rfl, hb⟩
  have E20 : Hid (Below w20.heap.size w20 w21) := hb
  have C21 : Hid (Below w.heap.size w w21) := C20.out.trans (hb.mono C20.out.size)
  clear hb
  go_wp2_with fail
  refine (EQ.out ST _ rfl _ _ _ _ _ _ _ (N_C.out.below (E6.out.trans ((E7.out.trans ((E8.out.trans ((E9.out.trans ((E10.out.trans ((E11.out.trans ((E12.out.trans ((E13.out.trans ((E14.out.trans ((E15.out.trans ((E16.out.trans ((E17.out.trans ((E18.out.trans ((E19.out.trans (E20.out.mono E19.out.size)).mono E18.out.size)).mono E17.out.size)).mono E16.out.size)).mono E15.out.size)).mono E14.out.size)).mono E13.out.size)).mono E12.out.size)).mono E11.out.size)).mono E10.out.size)).mono E9.out.size)).mono E8.out.size)).mono E7.out.size)).mono E6.out.size))) (N_S.out.below (E17.out.trans ((E18.out.trans ((E19.out.trans (E20.out.mono E19.out.size)).mono E18.out.size)).mono E17.out.size)))).mono ?_
  rintro e w22 ⟨rfl, hb⟩
  have E21 : Hid (Below w21.heap.size w21 w22) := hb
  have C22 : Hid (Below w.heap.size w w22) := C21.out.trans (hb.mono C21.out.size)
  clear hb
  go_wp2_with fail
  refine (EQ.out GT _ rfl _ _ _ _ _ _ _ (N_D.out.below (E7.out.trans ((E8.out.trans ((E9.out.trans ((E10.out.trans ((E11.out.trans ((E12.out.trans ((E13.out.trans ((E14.out.trans ((E15.out.trans ((E16.out.trans ((E17.out.trans ((E18.out.trans ((E19.out.trans ((E20.out.trans (E21.out.mono E20.out.size)).mono E19.out.size)).mono E18.out.size)).mono E17.out.size)).mono E16.out.size)).mono E15.out.size)).mono E14.out.size)).mono E13.out.size)).mono E12.out.size)).mono E11.out.size)).mono E10.out.size)).mono E9.out.size)).mono E8.out.size)).mono E7.out.size))) (N_G.out.below (E18.out.trans ((E19.out.trans ((E20.out.trans (E21.out.mono E20.out.size)).mono E19.out.size)).mono E18.out.size)))).mono ?_
  rintro e w23 ⟨rfl, hb⟩
  have E22 : Hid (Below w22.heap.size w22 w23) := hb
  have C23 : Hid (Below w.heap.size w w23) := C22.out.trans (hb.mono C22.out.size)
  clear hb
  go_wp2_with fail
  refine (IQ.out LT _ _ _ _ _ _ _ (N_L.out.below (E9.out.trans ((E10.out.trans ((E11.out.trans ((E12.out.trans ((E13.out.trans ((E14.out.trans ((E15.out.trans ((E16.out.trans ((E17.out.trans ((E18.out.trans ((E19.out.trans ((E20.out.trans ((E21.out.trans (E22.out.mono E21.out.size)).mono E20.out.size)).mono E19.out.size)).mono E18.out.size)).mono E17.out.size)).mono E16.out.size)).mono E15.out.size)).mono E14.out.size)).mono E13.out.size)).mono E12.out.size)).mono E11.out.size)).mono E10.out.size)).mono E9.out.size))) (N_E.out.below (E20.out.trans ((E21.out.trans (E22.out.mono E21.out.size)).mono E20.out.size)))).mono ?_
  rintro e w24 ⟨rfl, hb⟩
  have E23 : Hid (Below w23.heap.size w23 w24) := hb
  have C24 : Hid (Below w.heap.size w w24) := C23.out.trans (hb.mono C23.out.size)
  clear hb
  have E24 : Hid (Below w24.heap.size w24 (w24.alloc (.cells #[.slice aA NT.length cA, .slice aC ST.length cC, .slice aD GT.length cD, .slice (some ⟨w12.heap.size, 0, none⟩) 3 3] 22))) := below_alloc _ _
  have HLB : Hid ((w24.alloc (.cells #[.slice aA NT.length cA, .slice aC ST.length cC, .slice aD GT.length cD, .slice (some ⟨w12.heap.size, 0, none⟩) 3 3] 22)).heap[w24.heap.size]? = some (.cells #[.slice aA NT.length cA, .slice aC ST.length cC, .slice aD GT.length cD, .slice (some ⟨w12.heap.size, 0, none⟩) 3 3] 22 (0, 0))) := heap_alloc_at _ _ _ rfl
  have S24 : Hid (w24.heap.size < (w24.alloc (.cells #[.slice aA NT.length cA, .slice aC ST.length cC, .slice aD GT.length cD, .slice (some ⟨w12.heap.size, 0, none⟩) 3 3] 22)).heap.size) := by show _ < _; simp
  have C25 : Hid (Below w.heap.size w (w24.alloc (.cells #[.slice aA NT.length cA, .slice aC ST.length cC, .slice aD GT.length cD, .slice (some ⟨w12.heap.size, 0, none⟩) 3 3] 22))) := C24.out.trans (E24.out.mono C24.out.size)
  generalize hWL : (w24.alloc (.cells #[.slice aA NT.length cA, .slice aC ST.length cC, .slice aD GT.length cD, .slice (some ⟨w12.heap.size, 0, none⟩) 3 3] 22)) = W at *
  go_wp2_with fail
  clear hWL
  obtain ⟨KS, hKS⟩ : ∃ KS : Nat → Nat → Prop, ∀ i q, KS i q ↔ ((NT.length ≠ 0 ∧ (q = gB ∨ q = gN)) ∨ (MT.length ≠ 0 ∧ (q = gM ∨ q = gO)) ∨ (LT.length ≠ 0 ∧ (q = gK ∨ q = gE)) ∨ q = w13.heap.size ∨ (i ≤ 4 ∧ q = w1.heap.size) ∨ (i ≤ 3 ∧ UT.length ≠ 0 ∧ q = gU) ∨ (i ≤ 2 ∧ PT.length ≠ 0 ∧ q = gP) ∨ (i ≤ 1 ∧ LT.length ≠ 0 ∧ q = gL) ∨ (i ≤ 1 ∧ q = w24.heap.size)) := ⟨fun i q => (NT.length ≠ 0 ∧ (q = gB ∨ q = gN)) ∨ (MT.length ≠ 0 ∧ (q = gM ∨ q = gO)) ∨ (LT.length ≠ 0 ∧ (q = gK ∨ q = gE)) ∨ q = w13.heap.size ∨ (i ≤ 4 ∧ q = w1.heap.size) ∨ (i ≤ 3 ∧ UT.length ≠ 0 ∧ q = gU) ∨ (i ≤ 2 ∧ PT.length ≠ 0 ∧ q = gP) ∨ (i ≤ 1 ∧ LT.length ≠ 0 ∧ q = gL) ∨ (i ≤ 1 ∧ q = w24.heap.size), fun _ _ => Iff.rfl⟩
  have KLt : Hid (∀ i q, KS i q → q < W.heap.size) := fun i q hq => by
    have o0 := C1.out.size; have o1 := FL.out; have o2 := E2.out.size; have o3 := E3.out.size; have o4 := E4.out.size; have o5 := E5.out.size; have o6 := E6.out.size; have o7 := E7.out.size; have o8 := E8.out.size; have o9 := E9.out.size; have o10 := E10.out.size; have o11 := E11.out.size; have o12 := E12.out.size; have o13 := E13.out.size; have o14 := E14.out.size; have o15 := E15.out.size; have o16 := E16.out.size; have o17 := E17.out.size; have o18 := E18.out.size; have o19 := E19.out.size; have o20 := E20.out.size; have o21 := E21.out.size; have o22 := E22.out.size; have o23 := E23.out.size; have o24 := E24.out.size; have o25 := S24.out; have iY := I_Y.out; have iX := I_X.out
    rcases (hKS _ _).1 hq with ⟨q1, q2 | q2⟩ | ⟨q1, q2 | q2⟩ | ⟨q1, q2 | q2⟩ | q2 | ⟨q0, q2⟩ | ⟨q0, q1, q2⟩ | ⟨q0, q1, q2⟩ | ⟨q0, q1, q2⟩ | ⟨q0, q2⟩
    · have := I_B.out q1; omega
    · have := I_N.out q1; omega
    · have := I_M.out q1; omega
    · have := I_O.out q1; omega
    · have := I_K.out q1; omega
    · have := I_E.out q1; omega
    · omega
    · omega
    · have := I_U.out q1; omega
    · have := I_P.out q1; omega
    · have := I_L.out q1; omega
    · omega
  have KDn : Hid (∀ i j q, i ≤ j → KS j q → KS i q) := fun i j q hij hq => by
    rw [hKS] at hq ⊢
    rcases hq with ⟨q1, q2 | q2⟩ | ⟨q1, q2 | q2⟩ | ⟨q1, q2 | q2⟩ | q2 | ⟨q0, q2⟩ | ⟨q0, q1, q2⟩ | ⟨q0, q1, q2⟩ | ⟨q0, q1, q2⟩ | ⟨q0, q2⟩
    · exact Or.inl ⟨q1, Or.inl q2⟩
    · exact Or.inl ⟨q1, Or.inr q2⟩
    · exact Or.inr (Or.inl ⟨q1, Or.inl q2⟩)
    · exact Or.inr (Or.inl ⟨q1, Or.inr q2⟩)
    · exact Or.inr (Or.inr (Or.inl ⟨q1, Or.inl q2⟩))
    · exact Or.inr (Or.inr (Or.inl ⟨q1, Or.inr q2⟩))
    · exact Or.inr (Or.inr (Or.inr (Or.inl q2)))
    · exact Or.inr (Or.inr (Or.inr (Or.inr (Or.inl ⟨by omega, q2⟩))))
    · exact Or.inr (Or.inr (Or.inr (Or.inr (Or.inr (Or.inl ⟨by omega, q1, q2⟩)))))
    · exact Or.inr (Or.inr (Or.inr (Or.inr (Or.inr (Or.inr (Or.inl ⟨by omega, q1, q2⟩))))))
    · exact Or.inr (Or.inr (Or.inr (Or.inr (Or.inr (Or.inr (Or.inr (Or.inl ⟨by omega, q1, q2⟩)))))))
    · exact Or.inr (Or.inr (Or.inr (Or.inr (Or.inr (Or.inr (Or.inr (Or.inr (⟨by omega, q2⟩))))))))
  obtain ⟨A, N, C, hA0, hA1, hA2, hA3⟩ : ∃ (A : Nat → Option Addr) (N C : Nat → Nat), (A 0 = aA ∧ N 0 = NT.length ∧ C 0 = cA) ∧ (A 1 = aC ∧ N 1 = ST.length ∧ C 1 = cC) ∧ (A 2 = aD ∧ N 2 = GT.length ∧ C 2 = cD) ∧ (A 3 = some ⟨w12.heap.size, 0, none⟩ ∧ N 3 = 3 ∧ C 3 = 3) :=
    ⟨fun i => if i = 0 then aA else if i = 1 then aC else if i = 2 then aD else some ⟨w12.heap.size, 0, none⟩, fun i => if i = 0 then NT.length else if i = 1 then ST.length else if i = 2 then GT.length else 3, fun i => if i = 0 then cA else if i = 1 then cC else if i = 2 then cD else 3, ⟨rfl, rfl, rfl⟩, ⟨rfl, rfl, rfl⟩, ⟨rfl, rfl, rfl⟩, ⟨rfl, rfl, rfl⟩⟩
  have JS : Hid (∀ j : Nat, j < 4 → j = 0 ∨ j = 1 ∨ j = 2 ∨ j = 3) := fun j hj => by omega
  have NB : Hid (∀ j, j < 4 → N j ≤ 100000) := fun j hj => by
    have h1 := BN.out; have h2 := BS.out; have h3 := BG.out
    rcases JS.out j hj with rfl | rfl | rfl | rfl
    · rw [hA0.2.1]; exact h1
    · rw [hA1.2.1]; exact h2
    · rw [hA2.2.1]; exact h3
    · rw [hA3.2.1]; omega
  have RO : Hid (∀ j, j < 4 → ∃ xs, W.ownsRow (if j = 0 then w3.heap.size else if j = 1 then w5.heap.size else if j = 2 then w6.heap.size else w12.heap.size) 40 6 (.slice (A j) (N j) (C j)) (N j) xs) := fun j hj => by
    rcases JS.out j hj with rfl | rfl | rfl | rfl
    · rw [hA0.1, hA0.2.1, hA0.2.2]; exact ⟨_, owns_below R_A.out (E4.out.trans ((E5.out.trans ((E6.out.trans ((E7.out.trans ((E8.out.trans ((E9.out.trans ((E10.out.trans ((E11.out.trans ((E12.out.trans ((E13.out.trans ((E14.out.trans ((E15.out.trans ((E16.out.trans ((E17.out.trans ((E18.out.trans ((E19.out.trans ((E20.out.trans ((E21.out.trans ((E22.out.trans ((E23.out.trans (E24.out.mono E23.out.size)).mono E22.out.size)).mono E21.out.size)).mono E20.out.size)).mono E19.out.size)).mono E18.out.size)).mono E17.out.size)).mono E16.out.size)).mono E15.out.size)).mono E14.out.size)).mono E13.out.size)).mono E12.out.size)).mono E11.out.size)).mono E10.out.size)).mono E9.out.size)).mono E8.out.size)).mono E7.out.size)).mono E6.out.size)).mono E5.out.size)).mono E4.out.size))⟩
    · rw [hA1.1, hA1.2.1, hA1.2.2]; exact ⟨_, owns_below R_C.out (E6.out.trans ((E7.out.trans ((E8.out.trans ((E9.out.trans ((E10.out.trans ((E11.out.trans ((E12.out.trans ((E13.out.trans ((E14.out.trans ((E15.out.trans ((E16.out.trans ((E17.out.trans ((E18.out.trans ((E19.out.trans ((E20.out.trans ((E21.out.trans ((E22.out.trans ((E23.out.trans (E24.out.mono E23.out.size)).mono E22.out.size)).mono E21.out.size)).mono E20.out.size)).mono E19.out.size)).mono E18.out.size)).mono E17.out.size)).mono E16.out.size)).mono E15.out.size)).mono E14.out.size)).mono E13.out.size)).mono E12.out.size)).mono E11.out.size)).mono E10.out.size)).mono E9.out.size)).mono E8.out.size)).mono E7.out.size)).mono E6.out.size))⟩
    · rw [hA2.1, hA2.2.1, hA2.2.2]; exact ⟨_, owns_below R_D.out (E7.out.trans ((E8.out.trans ((E9.out.trans ((E10.out.trans ((E11.out.trans ((E12.out.trans ((E13.out.trans ((E14.out.trans ((E15.out.trans ((E16.out.trans ((E17.out.trans ((E18.out.trans ((E19.out.trans ((E20.out.trans ((E21.out.trans ((E22.out.trans ((E23.out.trans (E24.out.mono E23.out.size)).mono E22.out.size)).mono E21.out.size)).mono E20.out.size)).mono E19.out.size)).mono E18.out.size)).mono E17.out.size)).mono E16.out.size)).mono E15.out.size)).mono E14.out.size)).mono E13.out.size)).mono E12.out.size)).mono E11.out.size)).mono E10.out.size)).mono E9.out.size)).mono E8.out.size)).mono E7.out.size))⟩
    · rw [hA3.1, hA3.2.1, hA3.2.2]; exact ⟨_, owns_below R_X.out (E13.out.trans ((E14.out.trans ((E15.out.trans ((E16.out.trans ((E17.out.trans ((E18.out.trans ((E19.out.trans ((E20.out.trans ((E21.out.trans ((E22.out.trans ((E23.out.trans (E24.out.mono E23.out.size)).mono E22.out.size)).mono E21.out.size)).mono E20.out.size)).mono E19.out.size)).mono E18.out.size)).mono E17.out.size)).mono E16.out.size)).mono E15.out.size)).mono E14.out.size)).mono E13.out.size))⟩
  have BI : Hid (∀ j, j < 4 → ∀ q, Value.ownBlock (.slice (A j) (N j) (C j)) = some q → (j = 0 ∧ w3.heap.size ≤ q ∧ q < w4.heap.size) ∨ (j = 1 ∧ w5.heap.size ≤ q ∧ q < w6.heap.size) ∨ (j = 2 ∧ w6.heap.size ≤ q ∧ q < w7.heap.size) ∨ (j = 3 ∧ w12.heap.size ≤ q ∧ q < w13.heap.size)) := fun j hj q hq => by
    rcases JS.out j hj with rfl | rfl | rfl | rfl
    · rw [hA0.1, hA0.2.1, hA0.2.2] at hq; exact Or.inl ⟨rfl, owns_lt R_A.out q hq⟩
    · rw [hA1.1, hA1.2.1, hA1.2.2] at hq; exact Or.inr (Or.inl ⟨rfl, owns_lt R_C.out q hq⟩)
    · rw [hA2.1, hA2.2.1, hA2.2.2] at hq; exact Or.inr (Or.inr (Or.inl ⟨rfl, owns_lt R_D.out q hq⟩))
    · rw [hA3.1, hA3.2.1, hA3.2.2] at hq; exact Or.inr (Or.inr (Or.inr ⟨rfl, owns_lt R_X.out q hq⟩))
  have HR : Hid (∀ j, j < 4 → ∀ q, Value.ownBlock (.slice (A j) (N j) (C j)) = some q → w.heap.size ≤ q ∧ ¬ KS 1 q) := fun j hj q hq => by
    have hb := BI.out j hj q hq
    have o0 := C1.out.size; have o1 := FL.out; have o2 := E2.out.size; have o3 := E3.out.size; have o4 := E4.out.size; have o5 := E5.out.size; have o6 := E6.out.size; have o7 := E7.out.size; have o8 := E8.out.size; have o9 := E9.out.size; have o10 := E10.out.size; have o11 := E11.out.size; have o12 := E12.out.size; have o13 := E13.out.size; have o14 := E14.out.size; have o15 := E15.out.size; have o16 := E16.out.size; have o17 := E17.out.size; have o18 := E18.out.size; have o19 := E19.out.size; have o20 := E20.out.size; have o21 := E21.out.size; have o22 := E22.out.size; have o23 := E23.out.size; have o24 := E24.out.size; have o25 := S24.out; have iY := I_Y.out; have iX := I_X.out
    refine ⟨by omega, ?_⟩
    rw [hKS]
    rintro (⟨q1, q2 | q2⟩ | ⟨q1, q2 | q2⟩ | ⟨q1, q2 | q2⟩ | q2 | ⟨q0, q2⟩ | ⟨q0, q1, q2⟩ | ⟨q0, q1, q2⟩ | ⟨q0, q1, q2⟩ | ⟨q0, q2⟩)
    · have := I_B.out q1; omega
    · have := I_N.out q1; omega
    · have := I_M.out q1; omega
    · have := I_O.out q1; omega
    · have := I_K.out q1; omega
    · have := I_E.out q1; omega
    · omega
    · omega
    · have := I_U.out q1; omega
    · have := I_P.out q1; omega
    · have := I_L.out q1; omega
    · omega
  have HD : Hid (∀ j k q, j < 4 → k < 4 → j + 1 ≤ k → Value.ownBlock (.slice (A j) (N j) (C j)) = some q → Value.ownBlock (.slice (A k) (N k) (C k)) ≠ some q) := fun j k q h1 h2 h3 hq hq2 => by
    have hb := BI.out j h1 q hq
    have hb2 := BI.out k h2 q hq2
    have o0 := C1.out.size; have o1 := FL.out; have o2 := E2.out.size; have o3 := E3.out.size; have o4 := E4.out.size; have o5 := E5.out.size; have o6 := E6.out.size; have o7 := E7.out.size; have o8 := E8.out.size; have o9 := E9.out.size; have o10 := E10.out.size; have o11 := E11.out.size; have o12 := E12.out.size; have o13 := E13.out.size; have o14 := E14.out.size; have o15 := E15.out.size; have o16 := E16.out.size; have o17 := E17.out.size; have o18 := E18.out.size; have o19 := E19.out.size; have o20 := E20.out.size; have o21 := E21.out.size; have o22 := E22.out.size; have o23 := E23.out.size; have o24 := E24.out.size; have o25 := S24.out; have iY := I_Y.out; have iX := I_X.out
    omega
  have RW : Hid (RowsZ w W A N C 0) := fun k _ hk => by
    obtain ⟨xs, hx⟩ := RO.out k hk
    refine ⟨xs, owns_down hx ?_⟩
    have o0 := C1.out.size; have o1 := FL.out; have o2 := E2.out.size; have o3 := E3.out.size; have o4 := E4.out.size; have o5 := E5.out.size; have o6 := E6.out.size; have o7 := E7.out.size; have o8 := E8.out.size; have o9 := E9.out.size; have o10 := E10.out.size; have o11 := E11.out.size; have o12 := E12.out.size; have o13 := E13.out.size; have o14 := E14.out.size; have o15 := E15.out.size; have o16 := E16.out.size; have o17 := E17.out.size; have o18 := E18.out.size; have o19 := E19.out.size; have o20 := E20.out.size; have o21 := E21.out.size; have o22 := E22.out.size; have o23 := E23.out.size; have o24 := E24.out.size; have o25 := S24.out; have iY := I_Y.out; have iX := I_X.out
    split
    · omega
    · split
      · omega
      · split <;> omega
  have LC : Hid (∀ z, AK w W (KS 1) z → ∀ j, j < 4 → z.cell? ⟨w24.heap.size, j, none⟩ = some (.slice (A j) (N j) (C j)) ∧ w24.heap.size < z.heap.size) := fun z hz j hj => by
    have q := (hz.keep w24.heap.size ((hKS _ _).2 (Or.inr (Or.inr (Or.inr (Or.inr (Or.inr (Or.inr (Or.inr (Or.inr (⟨by omega, rfl⟩))))))))))).trans HLB.out
    refine ⟨?_, (Array.getElem?_eq_some_iff.1 q).1⟩
    rcases JS.out j hj with rfl | rfl | rfl | rfl
    · rw [hA0.1, hA0.2.1, hA0.2.2]; exact cellOf q 0 _ rfl
    · rw [hA1.1, hA1.2.1, hA1.2.2]; exact cellOf q 1 _ rfl
    · rw [hA2.1, hA2.2.1, hA2.2.2]; exact cellOf q 2 _ rfl
    · rw [hA3.1, hA3.2.1, hA3.2.2]; exact cellOf q 3 _ rfl
  have WI1 : Hid (LT.length ≠ 0 → w.heap.size ≤ gL ∧ ¬ KS 2 gL) := fun q => by
    have hb := I_L.out q
    have o0 := C1.out.size; have o1 := FL.out; have o2 := E2.out.size; have o3 := E3.out.size; have o4 := E4.out.size; have o5 := E5.out.size; have o6 := E6.out.size; have o7 := E7.out.size; have o8 := E8.out.size; have o9 := E9.out.size; have o10 := E10.out.size; have o11 := E11.out.size; have o12 := E12.out.size; have o13 := E13.out.size; have o14 := E14.out.size; have o15 := E15.out.size; have o16 := E16.out.size; have o17 := E17.out.size; have o18 := E18.out.size; have o19 := E19.out.size; have o20 := E20.out.size; have o21 := E21.out.size; have o22 := E22.out.size; have o23 := E23.out.size; have o24 := E24.out.size; have o25 := S24.out; have iY := I_Y.out; have iX := I_X.out
    refine ⟨by omega, ?_⟩
    rw [hKS]
    rintro (⟨q1, q2 | q2⟩ | ⟨q1, q2 | q2⟩ | ⟨q1, q2 | q2⟩ | q2 | ⟨q0, q2⟩ | ⟨q0, q1, q2⟩ | ⟨q0, q1, q2⟩ | ⟨q0, q1, q2⟩ | ⟨q0, q2⟩)
    · have := I_B.out q1; omega
    · have := I_N.out q1; omega
    · have := I_M.out q1; omega
    · have := I_O.out q1; omega
    · have := I_K.out q1; omega
    · have := I_E.out q1; omega
    · omega
    · omega
    · have := I_U.out q1; omega
    · have := I_P.out q1; omega
    · have := I_L.out q1; omega
    · omega
  have WI2 : Hid (PT.length ≠ 0 → w.heap.size ≤ gP ∧ ¬ KS 3 gP) := fun q => by
    have hb := I_P.out q
    have o0 := C1.out.size; have o1 := FL.out; have o2 := E2.out.size; have o3 := E3.out.size; have o4 := E4.out.size; have o5 := E5.out.size; have o6 := E6.out.size; have o7 := E7.out.size; have o8 := E8.out.size; have o9 := E9.out.size; have o10 := E10.out.size; have o11 := E11.out.size; have o12 := E12.out.size; have o13 := E13.out.size; have o14 := E14.out.size; have o15 := E15.out.size; have o16 := E16.out.size; have o17 := E17.out.size; have o18 := E18.out.size; have o19 := E19.out.size; have o20 := E20.out.size; have o21 := E21.out.size; have o22 := E22.out.size; have o23 := E23.out.size; have o24 := E24.out.size; have o25 := S24.out; have iY := I_Y.out; have iX := I_X.out
    refine ⟨by omega, ?_⟩
    rw [hKS]
    rintro (⟨q1, q2 | q2⟩ | ⟨q1, q2 | q2⟩ | ⟨q1, q2 | q2⟩ | q2 | ⟨q0, q2⟩ | ⟨q0, q1, q2⟩ | ⟨q0, q1, q2⟩ | ⟨q0, q1, q2⟩ | ⟨q0, q2⟩)
    · have := I_B.out q1; omega
    · have := I_N.out q1; omega
    · have := I_M.out q1; omega
    · have := I_O.out q1; omega
    · have := I_K.out q1; omega
    · have := I_E.out q1; omega
    · omega
    · omega
    · have := I_U.out q1; omega
    · have := I_P.out q1; omega
    · have := I_L.out q1; omega
    · omega
  have WI3 : Hid (UT.length ≠ 0 → w.heap.size ≤ gU ∧ ¬ KS 4 gU) := fun q => by
    have hb := I_U.out q
    have o0 := C1.out.size; have o1 := FL.out; have o2 := E2.out.size; have o3 := E3.out.size; have o4 := E4.out.size; have o5 := E5.out.size; have o6 := E6.out.size; have o7 := E7.out.size; have o8 := E8.out.size; have o9 := E9.out.size; have o10 := E10.out.size; have o11 := E11.out.size; have o12 := E12.out.size; have o13 := E13.out.size; have o14 := E14.out.size; have o15 := E15.out.size; have o16 := E16.out.size; have o17 := E17.out.size; have o18 := E18.out.size; have o19 := E19.out.size; have o20 := E20.out.size; have o21 := E21.out.size; have o22 := E22.out.size; have o23 := E23.out.size; have o24 := E24.out.size; have o25 := S24.out; have iY := I_Y.out; have iX := I_X.out
    refine ⟨by omega, ?_⟩
    rw [hKS]
    rintro (⟨q1, q2 | q2⟩ | ⟨q1, q2 | q2⟩ | ⟨q1, q2 | q2⟩ | q2 | ⟨q0, q2⟩ | ⟨q0, q1, q2⟩ | ⟨q0, q1, q2⟩ | ⟨q0, q1, q2⟩ | ⟨q0, q2⟩)
    · have := I_B.out q1; omega
    · have := I_N.out q1; omega
    · have := I_M.out q1; omega
    · have := I_O.out q1; omega
    · have := I_K.out q1; omega
    · have := I_E.out q1; omega
    · omega
    · omega
    · have := I_U.out q1; omega
    · have := I_P.out q1; omega
    · have := I_L.out q1; omega
    · omega
  have WI4 : Hid (w.heap.size ≤ w1.heap.size ∧ ¬ KS 5 w1.heap.size) := by
    show _ ∧ _
    have o0 := C1.out.size; have o1 := FL.out; have o2 := E2.out.size; have o3 := E3.out.size; have o4 := E4.out.size; have o5 := E5.out.size; have o6 := E6.out.size; have o7 := E7.out.size; have o8 := E8.out.size; have o9 := E9.out.size; have o10 := E10.out.size; have o11 := E11.out.size; have o12 := E12.out.size; have o13 := E13.out.size; have o14 := E14.out.size; have o15 := E15.out.size; have o16 := E16.out.size; have o17 := E17.out.size; have o18 := E18.out.size; have o19 := E19.out.size; have o20 := E20.out.size; have o21 := E21.out.size; have o22 := E22.out.size; have o23 := E23.out.size; have o24 := E24.out.size; have o25 := S24.out; have iY := I_Y.out; have iX := I_X.out
    refine ⟨by omega, ?_⟩
    rw [hKS]
    rintro (⟨q1, q2 | q2⟩ | ⟨q1, q2 | q2⟩ | ⟨q1, q2 | q2⟩ | q2 | ⟨q0, q2⟩ | ⟨q0, q1, q2⟩ | ⟨q0, q1, q2⟩ | ⟨q0, q1, q2⟩ | ⟨q0, q2⟩)
    · have := I_B.out q1; omega
    · have := I_N.out q1; omega
    · have := I_M.out q1; omega
    · have := I_O.out q1; omega
    · have := I_K.out q1; omega
    · have := I_E.out q1; omega
    · omega
    · omega
    · have := I_U.out q1; omega
    · have := I_P.out q1; omega
    · have := I_L.out q1; omega
    · omega
  have KI : Hid ((LT.length ≠ 0 → KS 1 gL) ∧ (PT.length ≠ 0 → KS 2 gP) ∧ (UT.length ≠ 0 → KS 3 gU) ∧ KS 4 w1.heap.size) :=
    ⟨fun q => (hKS _ _).2 (Or.inr (Or.inr (Or.inr (Or.inr (Or.inr (Or.inr (Or.inr (Or.inl ⟨by omega, q, rfl⟩)))))))), fun q => (hKS _ _).2 (Or.inr (Or.inr (Or.inr (Or.inr (Or.inr (Or.inr (Or.inl ⟨by omega, q, rfl⟩))))))), fun q => (hKS _ _).2 (Or.inr (Or.inr (Or.inr (Or.inr (Or.inr (Or.inl ⟨by omega, q, rfl⟩)))))), (hKS _ _).2 (Or.inr (Or.inr (Or.inr (Or.inr (Or.inl ⟨by omega, rfl⟩)))))⟩
  have QL : Hid (LT.length ≠ 0 → ∃ F, Ints W gL LT.length F) := fun q => by
    obtain ⟨F, hF⟩ := Q_L.out q
    exact ⟨F, hF.below (N_L.out.lt q) (E9.out.trans ((E10.out.trans ((E11.out.trans ((E12.out.trans ((E13.out.trans ((E14.out.trans ((E15.out.trans ((E16.out.trans ((E17.out.trans ((E18.out.trans ((E19.out.trans ((E20.out.trans ((E21.out.trans ((E22.out.trans ((E23.out.trans (E24.out.mono E23.out.size)).mono E22.out.size)).mono E21.out.size)).mono E20.out.size)).mono E19.out.size)).mono E18.out.size)).mono E17.out.size)).mono E16.out.size)).mono E15.out.size)).mono E14.out.size)).mono E13.out.size)).mono E12.out.size)).mono E11.out.size)).mono E10.out.size)).mono E9.out.size))⟩
  have QU : Hid (UT.length ≠ 0 → ∃ F, Ints W gU UT.length F) := fun q => by
    obtain ⟨F, hF⟩ := Q_U.out q
    exact ⟨F, hF.below (N_U.out.lt q) (E12.out.trans ((E13.out.trans ((E14.out.trans ((E15.out.trans ((E16.out.trans ((E17.out.trans ((E18.out.trans ((E19.out.trans ((E20.out.trans ((E21.out.trans ((E22.out.trans ((E23.out.trans (E24.out.mono E23.out.size)).mono E22.out.size)).mono E21.out.size)).mono E20.out.size)).mono E19.out.size)).mono E18.out.size)).mono E17.out.size)).mono E16.out.size)).mono E15.out.size)).mono E14.out.size)).mono E13.out.size)).mono E12.out.size))⟩
  have BL' : Hid (LT.length ≠ 0 → aL = some ⟨gL, 0, none⟩) := fun q => N_L.out.base q
  have BU' : Hid (UT.length ≠ 0 → aU = some ⟨gU, 0, none⟩) := fun q => N_U.out.base q
  have OP : Hid (W.ownsRow w10.heap.size 42 2 (.slice aP PT.length cP) PT.length (pairCells PT)) := owns_below R_P.out (E11.out.trans ((E12.out.trans ((E13.out.trans ((E14.out.trans ((E15.out.trans ((E16.out.trans ((E17.out.trans ((E18.out.trans ((E19.out.trans ((E20.out.trans ((E21.out.trans ((E22.out.trans ((E23.out.trans (E24.out.mono E23.out.size)).mono E22.out.size)).mono E21.out.size)).mono E20.out.size)).mono E19.out.size)).mono E18.out.size)).mono E17.out.size)).mono E16.out.size)).mono E15.out.size)).mono E14.out.size)).mono E13.out.size)).mono E12.out.size)).mono E11.out.size))
  have OF : Hid (W.ownsRow w1.heap.size 40 6 (.slice (some ⟨w1.heap.size, 0, none⟩) M M) M (ndCells (t ++ List.replicate 5 nd0))) := owns_below FU.out (E2.out.trans ((E3.out.trans ((E4.out.trans ((E5.out.trans ((E6.out.trans ((E7.out.trans ((E8.out.trans ((E9.out.trans ((E10.out.trans ((E11.out.trans ((E12.out.trans ((E13.out.trans ((E14.out.trans ((E15.out.trans ((E16.out.trans ((E17.out.trans ((E18.out.trans ((E19.out.trans ((E20.out.trans ((E21.out.trans ((E22.out.trans ((E23.out.trans (E24.out.mono E23.out.size)).mono E22.out.size)).mono E21.out.size)).mono E20.out.size)).mono E19.out.size)).mono E18.out.size)).mono E17.out.size)).mono E16.out.size)).mono E15.out.size)).mono E14.out.size)).mono E13.out.size)).mono E12.out.size)).mono E11.out.size)).mono E10.out.size)).mono E9.out.size)).mono E8.out.size)).mono E7.out.size)).mono E6.out.size)).mono E5.out.size)).mono E4.out.size)).mono E3.out.size)).mono E2.out.size))
  have s10 : Hid (w.heap.size ≤ w10.heap.size ∧ w.heap.size ≤ w1.heap.size) := by
    show _ ∧ _
    have o0 := C1.out.size; have o1 := FL.out; have o2 := E2.out.size; have o3 := E3.out.size; have o4 := E4.out.size; have o5 := E5.out.size; have o6 := E6.out.size; have o7 := E7.out.size; have o8 := E8.out.size; have o9 := E9.out.size; have o10 := E10.out.size; have o11 := E11.out.size; have o12 := E12.out.size; have o13 := E13.out.size; have o14 := E14.out.size; have o15 := E15.out.size; have o16 := E16.out.size; have o17 := E17.out.size; have o18 := E18.out.size; have o19 := E19.out.size; have o20 := E20.out.size; have o21 := E21.out.size; have o22 := E22.out.size; have o23 := E23.out.size; have o24 := E24.out.size; have o25 := S24.out; have iY := I_Y.out; have iX := I_X.out
    omega
  have PB : Hid (PT.length ≤ 100000) := BP.out
  have FV : Hid (∀ z, AK w W (KS 5) z → NodesAt z aB gB 0 NT ∧ NodesAt z aN gN 0 NT ∧ NodesAt z aM gM 0 MT ∧ NodesAt z aO gO 0 MT ∧ PlsAt z aK gK LT ∧ PlsAt z aE gE LT ∧ NodesAt z (some ⟨w13.heap.size, 0, none⟩) w13.heap.size 0 ET) := fun z hz =>
    ⟨(N_B.out.below (E5.out.trans ((E6.out.trans ((E7.out.trans ((E8.out.trans ((E9.out.trans ((E10.out.trans ((E11.out.trans ((E12.out.trans ((E13.out.trans ((E14.out.trans ((E15.out.trans ((E16.out.trans ((E17.out.trans ((E18.out.trans ((E19.out.trans ((E20.out.trans ((E21.out.trans ((E22.out.trans ((E23.out.trans (E24.out.mono E23.out.size)).mono E22.out.size)).mono E21.out.size)).mono E20.out.size)).mono E19.out.size)).mono E18.out.size)).mono E17.out.size)).mono E16.out.size)).mono E15.out.size)).mono E14.out.size)).mono E13.out.size)).mono E12.out.size)).mono E11.out.size)).mono E10.out.size)).mono E9.out.size)).mono E8.out.size)).mono E7.out.size)).mono E6.out.size)).mono E5.out.size))).keptB hz.sz (fun q => hz.keep _ ((hKS _ _).2 (Or.inl ⟨q, Or.inl rfl⟩))), (N_N.out.below (E16.out.trans ((E17.out.trans ((E18.out.trans ((E19.out.trans ((E20.out.trans ((E21.out.trans ((E22.out.trans ((E23.out.trans (E24.out.mono E23.out.size)).mono E22.out.size)).mono E21.out.size)).mono E20.out.size)).mono E19.out.size)).mono E18.out.size)).mono E17.out.size)).mono E16.out.size))).keptB hz.sz (fun q => hz.keep _ ((hKS _ _).2 (Or.inl ⟨q, Or.inr rfl⟩))), (N_M.out.below (E8.out.trans ((E9.out.trans ((E10.out.trans ((E11.out.trans ((E12.out.trans ((E13.out.trans ((E14.out.trans ((E15.out.trans ((E16.out.trans ((E17.out.trans ((E18.out.trans ((E19.out.trans ((E20.out.trans ((E21.out.trans ((E22.out.trans ((E23.out.trans (E24.out.mono E23.out.size)).mono E22.out.size)).mono E21.out.size)).mono E20.out.size)).mono E19.out.size)).mono E18.out.size)).mono E17.out.size)).mono E16.out.size)).mono E15.out.size)).mono E14.out.size)).mono E13.out.size)).mono E12.out.size)).mono E11.out.size)).mono E10.out.size)).mono E9.out.size)).mono E8.out.size))).keptB hz.sz (fun q => hz.keep _ ((hKS _ _).2 (Or.inr (Or.inl ⟨q, Or.inl rfl⟩)))), (N_O.out.below (E19.out.trans ((E20.out.trans ((E21.out.trans ((E22.out.trans ((E23.out.trans (E24.out.mono E23.out.size)).mono E22.out.size)).mono E21.out.size)).mono E20.out.size)).mono E19.out.size))).keptB hz.sz (fun q => hz.keep _ ((hKS _ _).2 (Or.inr (Or.inl ⟨q, Or.inr rfl⟩)))), (N_K.out.below (E10.out.trans ((E11.out.trans ((E12.out.trans ((E13.out.trans ((E14.out.trans ((E15.out.trans ((E16.out.trans ((E17.out.trans ((E18.out.trans ((E19.out.trans ((E20.out.trans ((E21.out.trans ((E22.out.trans ((E23.out.trans (E24.out.mono E23.out.size)).mono E22.out.size)).mono E21.out.size)).mono E20.out.size)).mono E19.out.size)).mono E18.out.size)).mono E17.out.size)).mono E16.out.size)).mono E15.out.size)).mono E14.out.size)).mono E13.out.size)).mono E12.out.size)).mono E11.out.size)).mono E10.out.size))).keptB hz.sz (fun q => hz.keep _ ((hKS _ _).2 (Or.inr (Or.inr (Or.inl ⟨q, Or.inl rfl⟩))))), (N_E.out.below (E20.out.trans ((E21.out.trans ((E22.out.trans ((E23.out.trans (E24.out.mono E23.out.size)).mono E22.out.size)).mono E21.out.size)).mono E20.out.size))).keptB hz.sz (fun q => hz.keep _ ((hKS _ _).2 (Or.inr (Or.inr (Or.inl ⟨q, Or.inr rfl⟩))))), (N_Y.out.below (E14.out.trans ((E15.out.trans ((E16.out.trans ((E17.out.trans ((E18.out.trans ((E19.out.trans ((E20.out.trans ((E21.out.trans ((E22.out.trans ((E23.out.trans (E24.out.mono E23.out.size)).mono E22.out.size)).mono E21.out.size)).mono E20.out.size)).mono E19.out.size)).mono E18.out.size)).mono E17.out.size)).mono E16.out.size)).mono E15.out.size)).mono E14.out.size))).keptB hz.sz (fun q => hz.keep _ ((hKS _ _).2 (Or.inr (Or.inr (Or.inr (Or.inl rfl))))))⟩
  have Z0 : Hid (AK w W (KS 1) W) := AK.start C25.out
  have lL : (LT.length : Int) ≤ 100000 := by have := BL.out; omega
  have lU : (UT.length : Int) ≤ 100000 := by have := BU.out; omega
  have lP : (PT.length : Int) ≤ 100000 := by have := BP.out; omega
  generalize hLB : w24.heap.size = LB at *
  clear hLB
  go_loopw [39] (fun i z => ∃ j : Nat, j ≤ 4 ∧ i = .int .i64 j ∧ AK w W (KS 1) z ∧ RowsZ w z A N C j) (fun i _ => 4 - (intOf i).toNat)
  case atStart => exact ⟨0, Nat.zero_le _, rfl, Z0.out, RW.out⟩
  case round =>
    obtain ⟨j, hj, rfl, hK, hZ⟩ := hrel
    have j0 : (0 : Int) ≤ (j : Int) := Int.natCast_nonneg _
    have ZK : Hid (AK w W (KS 1) wr) := hK
    have ZR : Hid (RowsZ w wr A N C j) := hZ
    by_cases hlt : j < 4
    · have jlt : (j : Int) < 4 := by omega
      have LJ : Hid (∀ z, AK w W (KS 1) z → z.cell? ⟨LB, j, none⟩ = some (.slice (A j) (N j) (C j)) ∧ LB < z.heap.size) := fun z hz => LC.out z hz j hlt
      have HRj : Hid (∀ q, Value.ownBlock (.slice (A j) (N j) (C j)) = some q → w.heap.size ≤ q ∧ ¬ KS 1 q) := HR.out j hlt
      have HDj : Hid (∀ k q, j + 1 ≤ k → k < 4 → Value.ownBlock (.slice (A j) (N j) (C j)) = some q → Value.ownBlock (.slice (A k) (N k) (C k)) ≠ some q) := fun k q h1 h2 => HD.out j k q hlt h2 h1
      have NJ : N j ≤ 100000 := NB.out j hlt
      have nj1 : (N j : Int) ≤ 100000 := by omega
      clear hK hZ
      generalize wr = W1 at *
      go_wp2_with fail
      go_loopw [40] (fun i z => ∃ n : Nat, n ≤ N j ∧ i = .int .i64 n ∧ AK w W (KS 1) z ∧ RowsZ w z A N C j) (fun i _ => N j - (intOf i).toNat)
      case atStart => exact ⟨0, Nat.zero_le _, rfl, ZK.out, ZR.out⟩
      case round =>
        obtain ⟨n, hn, rfl, hK, hZ⟩ := hrel
        have n0 : (0 : Int) ≤ (n : Int) := Int.natCast_nonneg _
        obtain ⟨c0, l0⟩ := LJ.out _ hK
        obtain ⟨xs, ox⟩ := hZ j (Nat.le_refl _) hlt
        have XK : Hid (AK w W (KS 1) wr) := hK
        have XR : Hid (RowsZ w wr A N C j) := hZ
        by_cases hn2 : n < N j
        · obtain ⟨a', c', g, hv, hg⟩ := own_slice3 ox
          obtain ⟨ea, -, lg⟩ := hg (by omega)
          injection hv with e1 _ _
          have eA : A j = some ⟨g, 0, none⟩ := by rw [e1]; exact ea
          have hr := HRj.out g (by rw [eA]; rfl)
          rw [eA] at c0 ox
          obtain ⟨d0, y0⟩ := owned_cell ox (j := n * 6 + 2) (by omega)
          have nlt : (n : Int) < (N j : Int) := by omega
          have HRg : Hid (w.heap.size ≤ g ∧ ¬ KS 1 g) := hr
          clear hK hZ ox hr
          go_wp2_with fail
          exact ⟨⟨n + 1, by omega, by go_num, XK.out.set HRg.out.1 HRg.out.2 _ _, XR.out.set _ _ _⟩, by simp [intOf]; omega⟩
        · have nlt : ¬ ((n : Int) < (N j : Int)) := by omega
          have OX : Hid (wr.ownsRow w.heap.size 40 6 (.slice (A j) (N j) (C j)) (N j) xs) := ox
          have sw : w.heap.size ≤ wr.heap.size := hK.bel.size
          clear hK hZ ox
          generalize wr = WB at *
          go_wp2_with (first | (at_builtin; (refine wpList_append_lies _ (by rfl) _ _ _ (by rfl) w.heap.size 40 i0 _ 6 48 nds_under hi0 hz0 hz1 hz2 rfl (by omega) _ (N j) _ (by rfl) (OX.out.alloc _) ⟨WB.heap.size, 0, none⟩ 2 2 (ndCells [⟨0, 0, 4, 0, 0, 0⟩, ⟨0, 0, 4, 0, 0, 0⟩]) (by rfl) (by rfl) (World.news_of_block (cs := #[.int .i64 0, .int .i64 0, .int .i64 4, .int .i64 0, .int .i64 0, .int .i64 0, .int .i64 0, .int .i64 0, .int .i64 4, .int .i64 0, .int .i64 0, .int .i64 0]) (t := 40) (fr := (0, 0)) (heap_alloc_at _ _ _ (by simp))) (by simp [Value.oneCell', ndCells]) (by omega) (by unfold maxLen; omega) (by omega) (by simp; omega) (WB.heap.size + 1) (by simp) ?_); intro g6 c6 wC ho hg hat hl; have AG : Hid (AK w W (KS 1) wC) := XK.out.grown hg (fun q hq => HRj.out q hq) (KLt.out 1); have RG' : Hid (RowsZ w wC A N C (j + 1)) := XR.out.grown hg (fun k q h1 h2 h3 => HDj.out k q h1 h2 h3); clear ho hg hat hl))
          exact ⟨⟨j + 1, by omega, by go_num, AG.out, RG'.out⟩, by simp [intOf]; omega⟩
    · have jn : ¬ ((j : Int) < 4) := by omega
      clear hK hZ ZR
      generalize wr = V1 at *
      have Y2 : Hid (AK w W (KS 2) V1) := ⟨ZK.out.bel, ZK.out.sz, fun q hq => ZK.out.keep q (KDn.out 1 2 q (by omega) hq)⟩
      have G2 : Hid (LT.length ≠ 0 → ∃ F, Ints V1 gL LT.length F) := fun q => by obtain ⟨F, hF⟩ := QL.out q; exact ⟨F, hF.keptB (fun _ => ZK.out.keep _ (KI.out.1 q))⟩
      go_wp2_with fail
      go_loopw [41] (fun i z => ∃ j : Nat, j ≤ LT.length ∧ i = .int .i64 j ∧ AK w W (KS 2) z ∧ (LT.length ≠ 0 → ∃ F, Ints z gL LT.length F)) (fun i _ => LT.length - (intOf i).toNat)
      case atStart => exact ⟨0, Nat.zero_le _, rfl, Y2.out, G2.out⟩
      case round =>
        obtain ⟨j2, hj2, rfl, hK, hZ⟩ := hrel
        have j20 : (0 : Int) ≤ (j2 : Int) := Int.natCast_nonneg _
        have K2 : Hid (AK w W (KS 2) wr) := hK
        have H2 : Hid ((LT.length ≠ 0 → ∃ F, Ints wr gL LT.length F)) := hZ
        by_cases hlt2 : j2 < LT.length
        · have jlt2 : (j2 : Int) < (LT.length : Int) := by omega
          have eB := BL'.out (by omega)
          subst eB
          obtain ⟨F, hF⟩ := hZ (by omega)
          have m0 := (hF j2 hlt2).1
          have m1 := (hF j2 hlt2).2
          have lg : gL < wr.heap.size := World.block_lt_of_cell? _ _ m0
          have WH : Hid (w.heap.size ≤ gL ∧ ¬ KS 2 gL) := WI1.out (by omega)
          have HF : Hid (Ints wr gL LT.length F) := hF
          clear hK hZ hF
          go_wp2_with fail
          exact ⟨⟨j2 + 1, by omega, by go_num, K2.out.set WH.out.1 WH.out.2 _ _, fun _ => ⟨_, HF.out.set j2 _ hlt2⟩⟩, by simp [intOf]; omega⟩
        · have jn2 : ¬ ((j2 : Int) < (LT.length : Int)) := by omega
          clear hK hZ
          generalize wr = V2 at *
          have Y3 : Hid (AK w W (KS 3) V2) := ⟨K2.out.bel, K2.out.sz, fun q hq => K2.out.keep q (KDn.out 2 3 q (by omega) hq)⟩
          have G3 : Hid (PT.length ≠ 0 → ∃ xs, V2.ownsRow w.heap.size 42 2 (.slice aP PT.length cP) PT.length xs) := fun q0 => ⟨_, owns_down (owns_keptB OP.out (fun q hq => by rw [B_P.out q0] at hq; obtain rfl : gP = q := (by simpa [Value.ownBlock] using hq); exact K2.out.keep _ (KI.out.2.1 q0))) s10.out.1⟩
          go_wp2_with fail
          go_loopw [42] (fun i z => ∃ j : Nat, j ≤ PT.length ∧ i = .int .i64 j ∧ AK w W (KS 3) z ∧ (PT.length ≠ 0 → ∃ xs, World.ownsRow z w.heap.size 42 2 (.slice aP PT.length cP) PT.length xs)) (fun i _ => PT.length - (intOf i).toNat)
          case atStart => exact ⟨0, Nat.zero_le _, rfl, Y3.out, G3.out⟩
          case round =>
            obtain ⟨j3, hj3, rfl, hK, hZ⟩ := hrel
            have j30 : (0 : Int) ≤ (j3 : Int) := Int.natCast_nonneg _
            have K3 : Hid (AK w W (KS 3) wr) := hK
            have H3 : Hid ((PT.length ≠ 0 → ∃ xs, World.ownsRow wr w.heap.size 42 2 (.slice aP PT.length cP) PT.length xs)) := hZ
            by_cases hlt3 : j3 < PT.length
            · have jlt3 : (j3 : Int) < (PT.length : Int) := by omega
              have eB := B_P.out (by omega)
              subst eB
              obtain ⟨xs, ox⟩ := hZ (by omega)
              obtain ⟨d0, m0, m1⟩ := owned_cell ox (j := j3 * 2 + 1) (by omega)
              have lg : gP < wr.heap.size := World.block_lt_of_cell? _ _ m0
              have WH : Hid (w.heap.size ≤ gP ∧ ¬ KS 3 gP) := WI2.out (by omega)
              have OX : Hid (wr.ownsRow w.heap.size 42 2 (.slice (some ⟨gP, 0, none⟩) PT.length cP) PT.length xs) := ox
              clear hK hZ ox
              go_wp2_with fail
              exact ⟨⟨j3 + 1, by omega, by go_num, K3.out.set WH.out.1 WH.out.2 _ _, fun _ => owned_set OX.out _ _ _⟩, by simp [intOf]; omega⟩
            · have jn3 : ¬ ((j3 : Int) < (PT.length : Int)) := by omega
              clear hK hZ
              generalize wr = V3 at *
              have Y4 : Hid (AK w W (KS 4) V3) := ⟨K3.out.bel, K3.out.sz, fun q hq => K3.out.keep q (KDn.out 3 4 q (by omega) hq)⟩
              have G4 : Hid (UT.length ≠ 0 → ∃ F, Ints V3 gU UT.length F) := fun q => by obtain ⟨F, hF⟩ := QU.out q; exact ⟨F, hF.keptB (fun _ => K3.out.keep _ (KI.out.2.2.1 q))⟩
              go_wp2_with fail
              go_loopw [43] (fun i z => ∃ j : Nat, j ≤ UT.length ∧ i = .int .i64 j ∧ AK w W (KS 4) z ∧ (UT.length ≠ 0 → ∃ F, Ints z gU UT.length F)) (fun i _ => UT.length - (intOf i).toNat)
              case atStart => exact ⟨0, Nat.zero_le _, rfl, Y4.out, G4.out⟩
              case round =>
                obtain ⟨j4, hj4, rfl, hK, hZ⟩ := hrel
                have j40 : (0 : Int) ≤ (j4 : Int) := Int.natCast_nonneg _
                have K4 : Hid (AK w W (KS 4) wr) := hK
                have H4 : Hid ((UT.length ≠ 0 → ∃ F, Ints wr gU UT.length F)) := hZ
                by_cases hlt4 : j4 < UT.length
                · have jlt4 : (j4 : Int) < (UT.length : Int) := by omega
                  have eB := BU'.out (by omega)
                  subst eB
                  obtain ⟨F, hF⟩ := hZ (by omega)
                  have m0 := (hF j4 hlt4).1
                  have m1 := (hF j4 hlt4).2
                  have lg : gU < wr.heap.size := World.block_lt_of_cell? _ _ m0
                  have WH : Hid (w.heap.size ≤ gU ∧ ¬ KS 4 gU) := WI3.out (by omega)
                  have HF : Hid (Ints wr gU UT.length F) := hF
                  clear hK hZ hF
                  go_wp2_with fail
                  exact ⟨⟨j4 + 1, by omega, by go_num, K4.out.set WH.out.1 WH.out.2 _ _, fun _ => ⟨_, HF.out.set j4 _ hlt4⟩⟩, by simp [intOf]; omega⟩
                · have jn4 : ¬ ((j4 : Int) < (UT.length : Int)) := by omega
                  clear hK hZ
                  generalize wr = V4 at *
                  have Y5 : Hid (AK w W (KS 5) V4) := ⟨K4.out.bel, K4.out.sz, fun q hq => K4.out.keep q (KDn.out 4 5 q (by omega) hq)⟩
                  have G5 : Hid (∃ X : NL, X.length = t.length ∧ V4.ownsRow w1.heap.size 40 6 (.slice (some ⟨w1.heap.size, 0, none⟩) M M) M (ndCells (X ++ List.replicate 5 nd0))) := ⟨t, rfl, owns_keptB OF.out (fun q hq => by obtain rfl : w1.heap.size = q := (by simpa [Value.ownBlock] using hq); exact K4.out.keep _ KI.out.2.2.2)⟩
                  go_wp2_with fail
                  go_loopw [44] (fun i z => ∃ j : Nat, j ≤ t.length ∧ i = .int .i64 j ∧ AK w W (KS 5) z ∧ (∃ X : NL, X.length = t.length ∧ World.ownsRow z w1.heap.size 40 6 (.slice (some ⟨w1.heap.size, 0, none⟩) M M) M (ndCells (X ++ List.replicate 5 nd0)))) (fun i _ => t.length - (intOf i).toNat)
                  case atStart => exact ⟨0, Nat.zero_le _, rfl, Y5.out, G5.out⟩
                  case round =>
                    obtain ⟨j5, hj5, rfl, hK, hZ⟩ := hrel
                    have j50 : (0 : Int) ≤ (j5 : Int) := Int.natCast_nonneg _
                    have K5 : Hid (AK w W (KS 5) wr) := hK
                    have H5 : Hid ((∃ X : NL, X.length = t.length ∧ World.ownsRow wr w1.heap.size 40 6 (.slice (some ⟨w1.heap.size, 0, none⟩) M M) M (ndCells (X ++ List.replicate 5 nd0)))) := hZ
                    by_cases hlt5 : j5 < t.length
                    · have jlt5 : (j5 : Int) < (t.length : Int) := by omega
                      obtain ⟨X, hX, ox⟩ := hZ
                      have hm := HM.out
                      have lg : w1.heap.size < wr.heap.size := (owns_lt ox _ rfl).2
                      have nd := nodes_of_cells (t := X ++ List.replicate 5 nd0) (fun q hq => ox.cellAt q (by simp at hq; omega)) lg (by simp; unfold maxLen; omega)
                      have m0 := (nd.cells j5 (by simp; omega)).2.2.1
                      obtain ⟨d0, -, m1⟩ := owned_cell ox (j := j5 * 6 + 2) (by omega)
                      rw [Nat.zero_add] at m0
                      have OX : Hid (wr.ownsRow w1.heap.size 40 6 (.slice (some ⟨w1.heap.size, 0, none⟩) M M) M (ndCells (X ++ List.replicate 5 nd0))) := ox
                      have HX : Hid (X.length = t.length) := hX
                      have jM : (j5 : Int) < (M : Int) := by omega
                      clear hK ox nd hX hm
                      generalize (ndAt (X ++ List.replicate 5 nd0) j5).wt = wt at m0
                      go_wp2_with fail
                      refine ⟨⟨j5 + 1, by omega, by go_num, K5.out.set WI4.out.1 WI4.out.2 _ _, ?_⟩, by simp [intOf]; omega⟩
                      obtain ⟨Y, hY, oy⟩ := flip_set OX.out (j := j5) (by rw [HX.out]; exact hlt5) _
                      exact ⟨Y, hY.trans HX.out, oy⟩
                    · have jn5 : ¬ ((j5 : Int) < (t.length : Int)) := by omega
                      clear hK hZ
                      generalize wr = V5 at *
                      obtain ⟨f1, f2, f3, f4, f5, f6, f7⟩ := FV.out V5 K5.out
                      have F1 : Hid (NodesAt V5 aB gB 0 NT) := f1
                      have F2 : Hid (NodesAt V5 aN gN 0 NT) := f2
                      have F3 : Hid (NodesAt V5 aM gM 0 MT) := f3
                      have F4 : Hid (NodesAt V5 aO gO 0 MT) := f4
                      have F5 : Hid (PlsAt V5 aK gK LT) := f5
                      have F6 : Hid (PlsAt V5 aE gE LT) := f6
                      have F7 : Hid (NodesAt V5 (some ⟨w13.heap.size, 0, none⟩) w13.heap.size 0 ET) := f7
                      obtain ⟨X, hX, ox⟩ := H5.out
                      have HX : Hid (X.length = t.length) := hX
                      have FB : Hid (Below w.heap.size w V5) := K5.out.bel
                      have lg : w1.heap.size < V5.heap.size := (owns_lt ox _ rfl).2
                      have NX : Hid (NodesAt V5 (some ⟨w1.heap.size, 0, none⟩) w1.heap.size 0 X) := head_nodes (R := List.replicate 5 nd0) (nodes_of_cells (fun q hq => ox.cellAt q (by have hm := HM.out; simp at hq; omega)) lg (by simp; unfold maxLen; omega))
                      have PX : Hid (∀ (bs : Option Addr) (g o c : Nat) z, NodesAt z bs g o X → Calls Tryd.prog 5 #[.slice bs t.length c] z fun e w' => ∃ v, e = .returned (.tuple #[v, .int .i64 (formE X)]) ∧ w'.ownsRow z.heap.size 40 6 v (normL X).length (ndCells (normL X)) ∧ Below z.heap.size z w') := fun bs g o c z hz => by have := PNX.out X bs g o c z hz; rw [hX] at this; exact this
                      have RX : Hid (∀ (bs : Option Addr) (g o c : Nat) z, NodesAt z bs g o X → Calls Tryd.prog 14 #[.slice bs t.length c] z fun e w' => ∃ v, e = .returned (.tuple #[v, .int .i64 (formE X)]) ∧ w'.ownsRow z.heap.size 40 6 v (normL X).length (ndCells (normL X)) ∧ Below z.heap.size z w') := fun bs g o c z hz => by have := RNX.out X bs g o c z hz; rw [hX] at this; exact this
                      generalize normL X = NX' at PX RX
                      generalize formE X = fX at PX RX
                      clear f1 f2 f3 f4 f5 f6 f7 ox hX
                      go_wp2_with fail
                      refine (EQ.out NT _ rfl _ _ _ _ _ _ _ F1.out F2.out).mono ?_
                      rintro e x1 ⟨rfl, hb⟩
                      have X1 : Hid (Below V5.heap.size V5 x1) := hb
                      clear hb
                      go_wp2_with fail
                      refine (EQ.out MT _ rfl _ _ _ _ _ _ _ (F3.out.below X1.out) (F4.out.below X1.out)).mono ?_
                      rintro e x2 ⟨rfl, hb⟩
                      have X2 : Hid (Below V5.heap.size V5 x2) := X1.out.trans (hb.mono X1.out.size)
                      clear hb
                      go_wp2_with fail
                      refine (IQ.out LT _ _ _ _ _ _ _ (F5.out.below X2.out) (F6.out.below X2.out)).mono ?_
                      rintro e x3 ⟨rfl, hb⟩
                      have X3 : Hid (Below V5.heap.size V5 x3) := X2.out.trans (hb.mono X2.out.size)
                      clear hb
                      go_wp2_with fail
                      refine (RE.out _).mono ?_
                      rintro e x4 ⟨rfl, ho, hb⟩
                      have NE : Hid (NodesAt x4 (some ⟨x3.heap.size, 0, none⟩) x3.heap.size 0 ET) := nodes_of_cells (fun q hq => ho.cellAt q (by rw [EL3.out] at hq; exact hq)) (owns_lt ho _ rfl).2 (by rw [EL3.out]; unfold maxLen; omega)
                      have X4 : Hid (Below V5.heap.size V5 x4) := X3.out.trans (hb.mono X3.out.size)
                      clear hb ho
                      go_wp2_with fail
                      refine (EQ.out ET 3 EL3.out _ _ _ _ _ _ _ (F7.out.below X4.out) NE.out).mono ?_
                      rintro e x5 ⟨rfl, hb⟩
                      have X5 : Hid (Below V5.heap.size V5 x5) := X4.out.trans (hb.mono X4.out.size)
                      have N5 : Hid (NodesAt x5 (some ⟨w1.heap.size, 0, none⟩) w1.heap.size 0 X) := NX.out.below X5.out
                      clear hb
                      have K0 : Hid True := trivial
                      go_wp2_with (first | (at_builtin; have hq := K0; (refine wpList_append_all (by rfl) _ _ _ (by rfl) x5.heap.size 40 i0 _ 6 48 nds_under hi0 hz0 hz1 hz2 rfl (by omega) _ 0 [] (by rfl) ⟨rfl, Or.inr ⟨x5.heap.size, 0, #[], rfl, Nat.le_refl _, heap_alloc_at _ _ _ rfl, Nat.le_refl _, (by unfold maxLen; omega), rfl, rfl⟩⟩ (some ⟨w1.heap.size, 0, none⟩) t.length M (ndCells X) (by rfl) (fun h => by cases h) (by rw [ndCells_length, HX.out]) (nodes_news (N5.out.below (below_alloc _ _))) (ndCells_all _) (by unfold maxLen; omega) (by omega) (by simp) ?_); intro vC x6 ho hgrow hnl; rw [Nat.zero_add, List.nil_append] at ho; have OC : Hid (x6.ownsRow x5.heap.size 40 6 vC t.length (ndCells X)) := ho; have X6 : Hid (Below x5.heap.size x5 x6) := Below.grown (below_alloc _ _) hgrow (by simp) (by intro k hk; simp [Value.ownBlock] at hk; omega); clear hgrow hnl ho hq K0))
                      obtain ⟨aC', cC', gC', hv, -, -, hn⟩ := nodes_of_owns (t := X) (by rw [HX.out]; exact OC.out)
                      rw [HX.out] at hv
                      subst hv
                      have N6 : Hid (NodesAt x6 aC' gC' 0 X) := hn
                      clear hn OC
                      go_wp2_with fail
                      refine (RX.out _ _ _ _ _ N6.out).mono ?_
                      rintro e x7 ⟨v, rfl, ho, hb⟩
                      obtain ⟨aQ, cQ, gQ, rfl, -, -, hn⟩ := nodes_of_owns ho
                      have N7 : Hid (NodesAt x7 aQ gQ 0 NX') := hn
                      have X7 : Hid (Below x5.heap.size x5 x7) := X6.out.trans (hb.mono X6.out.size)
                      clear hb ho hn
                      go_wp2_with fail
                      refine (PX.out _ _ _ _ _ (N5.out.below X7.out)).mono ?_
                      rintro e x8 ⟨v, rfl, ho, hb⟩
                      obtain ⟨aR, cR, gR, rfl, -, -, hn⟩ := nodes_of_owns ho
                      have N8 : Hid (NodesAt x8 aR gR 0 NX') := hn
                      have N7' : Hid (NodesAt x8 aQ gQ 0 NX') := N7.out.below hb
                      have X8 : Hid (Below x5.heap.size x5 x8) := X7.out.trans (hb.mono X7.out.size)
                      clear hb ho hn
                      go_wp2_with fail
                      refine (EQ.out NX' _ rfl _ _ _ _ _ _ _ N8.out N7'.out).mono ?_
                      rintro e x9 ⟨rfl, hb⟩
                      have X9 : Hid (Below V5.heap.size V5 x9) := X5.out.trans ((X8.out.trans (hb.mono X8.out.size)).mono X5.out.size)
                      clear hb
                      go_wp2_with fail
                      refine (EQ.out NT _ rfl _ _ _ _ _ _ _ (F1.out.below X9.out) (F2.out.below X9.out)).mono ?_
                      rintro e x10 ⟨rfl, hb⟩
                      have X10 : Hid (Below w.heap.size w x10) := FB.out.trans ((X9.out.trans (hb.mono X9.out.size)).mono FB.out.size)
                      clear hb
                      go_wp2_with fail
                      go_ret
                      exact ⟨by first | rfl | simp, X10.out⟩
end Go.Proofs.YtkioahkfjgbgdaaDoor
