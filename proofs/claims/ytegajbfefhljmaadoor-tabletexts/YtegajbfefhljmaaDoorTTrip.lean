
/- Layer 16, pure: a tree's text, read again, is the tree. -/

import Derived.Test.YtegajbfefhljmaaDoorTBt2

import Derived.Test.YtegajbfefhljmaaDoorTRdP

namespace Go.Proofs.YtegajbfefhljmaaDoor

theorem pu_snoc (c : UInt8) : ∀ (l : List UInt8) (acc : Nat), Lib.parseUint10 acc (l ++ [c]) = match Lib.parseUint10 acc l with
    | .ok v => Lib.parseUint10 v [c]
    | e => e
  | [], acc => rfl
  | d :: l, acc => by
    rw [List.cons_append]
    simp only [Lib.parseUint10]
    split
    · split
      · rfl
      · split
        · rfl
        · have ih := pu_snoc c l (acc * 10 + (d.toNat - 48))
          rw [ih]
          cases Lib.parseUint10 (acc * 10 + (d.toNat - 48)) l <;> rfl
    · rfl
theorem dig_toNat (d : Nat) (h : d < 10) : (UInt8.ofNat (48 + d)).toNat = 48 + d := by
  rw [UInt8.toNat_ofNat']
  omega
theorem pu_dec (u : Nat) (h : u < 18446744073709551616) : Lib.parseUint10 0 (Lib.decDigits u) = .ok u := by
  induction u using Lib.decDigits.induct with
  | case1 u hu =>
    rw [Lib.decDigits, dif_pos hu]
    simp only [Lib.parseUint10, dig_toNat u hu]
    rw [if_pos (by omega), if_neg (by omega), if_neg (by omega)]
    congr 1
    omega
  | case2 u hu ih =>
    rw [Lib.decDigits, dif_neg hu, pu_snoc, ih (by omega)]
    simp only [Lib.parseUint10, dig_toNat (u % 10) (by omega)]
    rw [if_pos (by omega), if_neg (by omega), if_neg (by omega)]
    congr 1
    omega
theorem dec_all (u : Nat) : ∀ c ∈ Lib.decDigits u, 48 ≤ c.toNat ∧ c.toNat ≤ 57 := by
  induction u using Lib.decDigits.induct with
  | case1 u hu =>
    rw [Lib.decDigits, dif_pos hu]
    intro c hc
    obtain rfl := List.mem_singleton.1 hc
    rw [dig_toNat u hu]
    omega
  | case2 u hu ih =>
    rw [Lib.decDigits, dif_neg hu]
    intro c hc
    rcases List.mem_append.1 hc with hc | hc
    · exact ih c hc
    · obtain rfl := List.mem_singleton.1 hc
      rw [dig_toNat (u % 10) (by omega)]
      omega
theorem dec_ne (u : Nat) : Lib.decDigits u ≠ [] := by
  rw [Lib.decDigits]
  split <;> simp
theorem atoi_itoa {v : Int} (h : In64 v) : Lib.atoiAll (Lib.itoa v) = .ok v := by
  obtain ⟨h1, h2⟩ := h
  unfold Lib.itoa
  by_cases hn : v < 0
  · rw [if_pos hn]
    have hp := pu_dec v.natAbs (by omega)
    simp only [Lib.atoiAll, Lib.parseMag]
    rw [show (45 : UInt8).toNat = 45 from rfl, if_pos (Or.inr rfl), if_neg (dec_ne _), hp]
    simp only [not_true_eq_false, false_and, if_false, true_and, if_true]
    rw [if_neg (by omega)]
    congr 1
    omega
  · rw [if_neg hn]
    have hp := pu_dec v.toNat (by omega)
    obtain ⟨c, r, hcr⟩ := List.exists_cons_of_ne_nil (dec_ne v.toNat)
    have hc := dec_all v.toNat c (by rw [hcr]; simp)
    rw [hcr] at hp ⊢
    simp only [Lib.atoiAll, Lib.parseMag]
    rw [if_neg (show ¬ (c.toNat = 43 ∨ c.toNat = 45) by omega), if_neg (by simp), hp]
    simp only
    rw [if_neg (by omega), if_neg (by omega), if_neg (by omega)]
    congr 1
    omega
theorem itoa_num (v : Int) : ∀ c ∈ Lib.itoa v, numCh c = true := by
  have hd : ∀ u, ∀ c ∈ Lib.decDigits u, numCh c = true := fun u c hc => by
    have := dec_all u c hc
    unfold numCh
    simp [this.1, this.2]
  unfold Lib.itoa
  split
  · intro c hc
    rcases List.mem_cons.1 hc with rfl | hc
    · rfl
    · exact hd _ c hc
  · exact hd _
theorem num_itoa (v : Int) (c : UInt8) (y : List UInt8) (hc : numCh c = false) : numT (Lib.itoa v ++ c :: y) = Lib.itoa v ∧ numR (Lib.itoa v ++ c :: y) = c :: y := by
  have h := num_cut (Lib.itoa v ++ c :: y) (Lib.itoa v).length (by simp) (fun i hi => by
    have hm : (Lib.itoa v ++ c :: y).getD i 0 ∈ Lib.itoa v := by
      rw [List.getD_eq_getElem?_getD, List.getElem?_append_left hi, List.getElem?_eq_getElem hi]
      exact List.getElem_mem hi
    exact itoa_num v _ hm) (Or.inr (by simpa using hc))
  simpa using h
theorem numV_itoa {v : Int} (h : In64 v) (c : UInt8) (y : List UInt8) (hc : numCh c = false) : numV (Lib.itoa v ++ c :: y) = some v := by
  unfold numV
  rw [(num_itoa v c y hc).1, atoi_itoa h]
  simp
theorem pre1 (c : UInt8) (y : List UInt8) : Lib.hasPrefix (c :: y) [c] = true ∧ Lib.trimPrefix (c :: y) [c] = y := by
  have h : Lib.hasPrefix (c :: y) [c] = true := by simp [Lib.hasPrefix]
  exact ⟨h, by unfold Lib.trimPrefix; rw [if_pos h]; rfl⟩
theorem pre1_no (c d : UInt8) (y : List UInt8) (h : d ≠ c) : Lib.hasPrefix (c :: y) [d] = false := by
  show (d == c && List.isPrefixOf [] y) = false
  rw [beq_eq_false_iff_ne.2 h]
  rfl
theorem itoa_first (v : Int) : ∃ c y, Lib.itoa v = c :: y ∧ numCh c = true := by
  have hne : Lib.itoa v ≠ [] := by
    unfold Lib.itoa
    split
    · simp
    · exact dec_ne _
  obtain ⟨c, y, h⟩ := List.exists_cons_of_ne_nil hne
  exact ⟨c, y, h, itoa_num v c (by rw [h]; simp)⟩
theorem key_trip {d : PD} (ho : d.ok) (hk : In64 d.key) (y : List UInt8) (n : NdD) (hn : n = ⟨d.key, d.inf, d.wt, d.val, n.l, n.r⟩) : keyP (keyL n ++ 58 :: y) nd1 = some (⟨d.key, d.inf, 0, 0, -1, -1⟩, 58 :: y) := by
  have e1 : n.inf = d.inf := by rw [hn]
  have e2 : n.key = d.key := by rw [hn]
  unfold keyL
  rw [e1, e2]
  rcases ho.1 with h | ⟨h1, h2, -⟩
  · rw [if_neg (by omega), h]
    obtain ⟨c, z, hc, hcn⟩ := itoa_first d.key
    have hp : Lib.hasPrefix (Lib.itoa d.key ++ 58 :: y) [105, 110, 102] = false := by
      rw [hc]
      have : c ≠ 105 := fun q => by rw [q] at hcn; exact absurd hcn (by decide)
      show (105 == c && List.isPrefixOf [110, 102] (z ++ 58 :: y)) = false
      rw [beq_eq_false_iff_ne.2 (Ne.symm this)]
      rfl
    unfold keyP
    rw [if_neg (by rw [hp]; simp), numV_itoa hk 58 y (by decide), (num_itoa d.key 58 y (by decide)).2]
    rfl
  · rw [if_pos h1, h1, h2]
    have hp : Lib.hasPrefix ([105, 110, 102] ++ 58 :: y) [105, 110, 102] = true := by simp [Lib.hasPrefix]
    unfold keyP
    rw [if_pos hp]
    unfold Lib.trimPrefix
    rw [if_pos hp]
    rfl
theorem begin_trip {d : PD} (ho : d.ok) (hk : In64 d.key) (c : UInt8) (y : List UInt8) (hc : numCh c = false) (n : NdD) (hn : n = ⟨d.key, d.inf, d.wt, d.val, n.l, n.r⟩) :
    beginP (40 :: (keyL n ++ (58 :: (Lib.itoa d.wt ++ c :: y)))) = some (⟨d.key, d.inf, d.wt, 0, -1, -1⟩, c :: y) := by
  unfold beginP
  rw [if_pos (pre1 40 _).1, (pre1 40 _).2, key_trip ho hk _ n hn]
  simp only
  rw [if_pos (pre1 58 _).1, (pre1 58 _).2]
  unfold weightP
  have hw : In64 d.wt := ⟨by have := ho.2.1; omega, by have := ho.2.2; omega⟩
  rw [numV_itoa hw c y hc, (num_itoa d.wt c y hc).2]
  simp only
  rw [if_pos ⟨ho.2.1, ho.2.2⟩]
/-- A node hung on the innermost one that is open. -/
def hangN (N : NL) (O : List Nat) (p : Nat) : NL := match O.getLast? with
  | none => N
  | some u => N.set u (hangD (ndAt N u) p)
theorem hangN_length (N : NL) (O : List Nat) (p : Nat) : (hangN N O p).length = N.length := by
  unfold hangN
  split <;> simp
theorem addP_hang (N : NL) (O : List Nat) (d : NdD) (h : ∀ u, O.getLast? = some u → u < N.length) : addP N O d = hangN N O N.length ++ [d] := by
  unfold addP hangN
  cases hO : O.getLast? with
  | none => rfl
  | some u =>
    have hl := h u hO
    simp only
    have e : ndAt (N ++ [d]) u = ndAt N u := by
      unfold ndAt
      rw [List.getD_eq_getElem?_getD, List.getD_eq_getElem?_getD, List.getElem?_append_left hl]
    rw [List.set_append_left _ _ hl, e]
/-- Behind a whole tree. -/
def contP (k : Nat) (l : List UInt8) (N : NL) (O : List Nat) : Option (List UInt8 × NL) := match closeP O.length l N O with
  | none => none
  | some (true, l2, O2) => treeP k l2 N O2
  | some (false, l2, _) => some (l2, N)
def BT.in64 : BT → Prop
  | .leaf d => In64 d.key ∧ In64 d.val
  | .node d l r => In64 d.key ∧ l.in64 ∧ r.in64
def txtB : BT → List UInt8
  | .leaf d => headL ⟨d.key, d.inf, d.wt, d.val, -1, -1⟩ ++ [41]
  | .node d l r => headL ⟨d.key, d.inf, d.wt, d.val, 1, 1⟩ ++ (32 :: (txtB l ++ (32 :: (txtB r ++ [41]))))
theorem set_last (H : NL) (d e : NdD) : (H ++ [d]).set ((H ++ [d]).length - 1) e = H ++ [e] := by
  rw [List.length_append, List.length_singleton, Nat.add_sub_cancel, List.set_append_right _ _ (Nat.le_refl _), Nat.sub_self]
  rfl
theorem last_at (H : NL) (d : NdD) : ndAt (H ++ [d]) ((H ++ [d]).length - 1) = d := by
  unfold ndAt
  rw [List.length_append, List.length_singleton, Nat.add_sub_cancel, List.getD_eq_getElem?_getD, List.getElem?_append_right (Nat.le_refl _), Nat.sub_self]
  rfl
theorem nodeP_leaf {d : PD} (ho : d.ok) (hk : In64 d.key) (hv : In64 d.val) (rest : List UInt8) (N : NL) (O : List Nat) (h : ∀ u, O.getLast? = some u → u < N.length) :
    nodeP (headL ⟨d.key, d.inf, d.wt, d.val, -1, -1⟩ ++ [41] ++ rest) N O = some (false, rest, hangN N O N.length ++ [⟨d.key, d.inf, d.wt, d.val, -1, -1⟩], O) := by
  rcases ho.1 with hi | ⟨hi, hkk, hvv⟩
  · have e : headL ⟨d.key, d.inf, d.wt, d.val, -1, -1⟩ ++ [41] ++ rest = 40 :: (keyL ⟨d.key, d.inf, d.wt, d.val, -1, -1⟩ ++ (58 :: (Lib.itoa d.wt ++ 61 :: (Lib.itoa d.val ++ 41 :: rest)))) := by
      simp [headL, endL, leafB, hi]
    rw [e]
    unfold nodeP
    rw [begin_trip ho hk 61 _ (by decide) _ rfl]
    simp only
    rw [if_neg (by rw [pre1_no 61 32 _ (by decide)]; simp), if_neg (by omega), addP_hang N O _ h]
    unfold valueP
    rw [if_pos (pre1 61 _).1, (pre1 61 _).2, numV_itoa hv 41 rest (by decide), (num_itoa d.val 41 rest (by decide)).2]
    simp only [Option.map_some]
    rw [if_pos (pre1 41 _).1, (pre1 41 _).2, set_last, last_at]
  · have e : headL ⟨d.key, d.inf, d.wt, d.val, -1, -1⟩ ++ [41] ++ rest = 40 :: (keyL ⟨d.key, d.inf, d.wt, d.val, -1, -1⟩ ++ (58 :: (Lib.itoa d.wt ++ 41 :: rest))) := by
      simp [headL, endL, leafB, hi]
    rw [e]
    unfold nodeP
    rw [begin_trip ho hk 41 _ (by decide) _ rfl]
    simp only
    rw [if_neg (by rw [pre1_no 41 32 _ (by decide)]; simp), if_pos hi, if_pos (pre1 41 _).1, (pre1 41 _).2, addP_hang N O _ h, hvv]
theorem nodeP_inner {d : PD} (ho : d.ok) (hv : d.val = 0) (hk : In64 d.key) (rest : List UInt8) (N : NL) (O : List Nat) (h : ∀ u, O.getLast? = some u → u < N.length) :
    nodeP (headL ⟨d.key, d.inf, d.wt, d.val, 1, 1⟩ ++ (32 :: rest)) N O = some (true, rest, hangN N O N.length ++ [⟨d.key, d.inf, d.wt, d.val, -1, -1⟩], O ++ [N.length]) := by
  have e : headL ⟨d.key, d.inf, d.wt, d.val, 1, 1⟩ ++ (32 :: rest) = 40 :: (keyL ⟨d.key, d.inf, d.wt, d.val, 1, 1⟩ ++ (58 :: (Lib.itoa d.wt ++ 32 :: rest))) := by
    simp [headL, endL, leafB]
  rw [e]
  unfold nodeP
  rw [begin_trip ho hk 32 _ (by decide) _ rfl]
  simp only
  rw [if_pos (pre1 32 _).1, (pre1 32 _).2, addP_hang N O _ h, hv]
/-- A node of a row of which more follows. -/
theorem hang_mid (H : NL) (n : NdD) (Z : NL) (O : List Nat) (p : Nat) : hangN (H ++ n :: Z) (O ++ [H.length]) p = H ++ hangD n p :: Z := by
  unfold hangN
  rw [show (O ++ [H.length]).getLast? = some H.length by simp]
  simp only
  have e : ndAt (H ++ n :: Z) H.length = n := by unfold ndAt; simp
  rw [e]
  simp
theorem close_more (H : NL) (n : NdD) (Z : NL) (O : List Nat) (rest : List UInt8) (k : Nat) (hr : n.r = -1) : contP k (32 :: rest) (H ++ n :: Z) (O ++ [H.length]) = treeP k rest (H ++ n :: Z) (O ++ [H.length]) := by
  have e : ndAt (H ++ n :: Z) ((O ++ [H.length]).getD O.length 0) = n := by unfold ndAt; simp
  unfold contP
  rw [List.length_append, List.length_singleton]
  unfold closeP
  rw [e, if_pos hr, if_pos (pre1 32 _).1, (pre1 32 _).2, List.take_of_length_le (by simp)]
theorem close_up (H : NL) (n : NdD) (Z : NL) (O : List Nat) (rest : List UInt8) (k : Nat) (hr : n.r ≠ -1) : contP k (41 :: rest) (H ++ n :: Z) (O ++ [H.length]) = contP k rest (H ++ n :: Z) O := by
  have e : ndAt (H ++ n :: Z) ((O ++ [H.length]).getD O.length 0) = n := by unfold ndAt; simp
  unfold contP
  rw [List.length_append, List.length_singleton]
  conv => lhs; unfold closeP
  rw [e, if_neg hr, if_pos (pre1 41 _).1, (pre1 41 _).2, List.take_left' rfl]
theorem trip : ∀ (b : BT), b.ok → b.in64 → ∀ (k : Nat) (N : NL) (O : List Nat) (rest : List UInt8), (∀ u, O.getLast? = some u → u < N.length) →
    treeP (k + b.size) (txtB b ++ rest) N O = contP k rest (hangN N O N.length ++ b.lay N.length) O
  | .leaf d, ho, hi, k, N, O, rest, h => by
    show treeP (k + 1) _ N O = _
    unfold treeP txtB
    rw [nodeP_leaf ho hi.1 hi.2 rest N O h]
    rfl
  | .node d l r, ho, hi, k, N, O, rest, h => by
    have e : k + (BT.node d l r).size = (k + r.size + l.size) + 1 := by simp only [BT.size]; omega
    rw [e]
    have hx : txtB (.node d l r) ++ rest = headL ⟨d.key, d.inf, d.wt, d.val, 1, 1⟩ ++ (32 :: (txtB l ++ (32 :: (txtB r ++ (41 :: rest))))) := by simp [txtB]
    rw [hx]
    unfold treeP
    rw [nodeP_inner ho.1 ho.2.1 hi.1 _ N O h]
    simp only
    have hl : (hangN N O N.length).length = N.length := hangN_length _ _ _
    generalize hangN N O N.length = H at hl ⊢
    rw [trip l ho.2.2.1 hi.2.1 (k + r.size) (H ++ [(⟨d.key, d.inf, d.wt, d.val, -1, -1⟩ : NdD)]) (O ++ [N.length]) (32 :: (txtB r ++ (41 :: rest))) (fun u hu => by
      simp only [List.getLast?_append, List.getLast?_singleton, Option.some_or, Option.some.injEq] at hu
      simp; omega)]
    rw [← hl, hang_mid H _ [] O]
    have e1 : hangD ⟨d.key, d.inf, d.wt, d.val, -1, -1⟩ (((H ++ [(⟨d.key, d.inf, d.wt, d.val, -1, -1⟩ : NdD)]).length : Nat) : Int) = ⟨d.key, d.inf, d.wt, d.val, ((H.length + 1 : Nat) : Int), -1⟩ := by
      unfold hangD
      rw [if_pos rfl]
      simp
    rw [e1, List.length_append, List.length_singleton, List.append_assoc, List.singleton_append, close_more H _ _ O _ _ rfl, trip r ho.2.2.2 hi.2.2 k _ _ _ (fun u hu => by
      simp only [List.getLast?_append, List.getLast?_singleton, Option.some_or, Option.some.injEq] at hu
      simp; omega), hang_mid H _ _ O]
    have e2 : ∀ Z : NL, hangD ⟨d.key, d.inf, d.wt, d.val, ((H.length + 1 : Nat) : Int), -1⟩ (((H ++ (⟨d.key, d.inf, d.wt, d.val, ((H.length + 1 : Nat) : Int), -1⟩ : NdD) :: Z).length : Nat) : Int) = ⟨d.key, d.inf, d.wt, d.val, ((H.length + 1 : Nat) : Int), ((H.length + 1 + Z.length : Nat) : Int)⟩ := fun Z => by
      unfold hangD
      rw [if_neg (by show ((H.length + 1 : Nat) : Int) ≠ -1; omega)]
      simp only [List.length_append, List.length_cons]
      congr 1
      omega
    rw [e2, BT.lay_length]
    have e3 : (H ++ (⟨d.key, d.inf, d.wt, d.val, ((H.length + 1 : Nat) : Int), -1⟩ : NdD) :: l.lay (H.length + 1)).length = H.length + 1 + l.size := by
      simp only [List.length_append, List.length_cons, BT.lay_length]; omega
    rw [e3, List.append_assoc, List.cons_append, close_up H _ _ O rest k (by show ((H.length + 1 + l.size : Nat) : Int) ≠ -1; omega)]
    rfl
theorem txtB_len : ∀ (b : BT), b.ok → b.in64 → b.size ≤ (txtB b).length ∧ (txtB b).length ≤ 70 * b.size
  | .leaf d, ho, hi => by
    have h := headL_length (n := ⟨d.key, d.inf, d.wt, d.val, -1, -1⟩) hi.1 ⟨by have := ho.2.1; show _ ≤ d.wt; omega, by have := ho.2.2; show d.wt ≤ _; omega⟩ hi.2
    simp only [txtB, BT.size, List.length_append, List.length_singleton]
    omega
  | .node d l r, ho, hi => by
    have h := headL_length (n := ⟨d.key, d.inf, d.wt, d.val, 1, 1⟩) hi.1 ⟨by have := ho.1.2.1; show _ ≤ d.wt; omega, by have := ho.1.2.2; show d.wt ≤ _; omega⟩ (by show In64 d.val; rw [ho.2.1]; exact ⟨by omega, by omega⟩)
    have h1 := txtB_len l ho.2.2.1 hi.2.1
    have h2 := txtB_len r ho.2.2.2 hi.2.2
    simp only [txtB, BT.size, List.length_append, List.length_nil, List.length_cons]
    omega
/-- What the reader makes of a tree's text, whatever comes behind it. -/
theorem tree_trip {b : BT} (ho : b.ok) (hi : b.in64) (rest : List UInt8) : treeP ((txtB b ++ rest).length + 1) (txtB b ++ rest) [] [] = some (rest, b.lay 0) := by
  obtain ⟨k, hk⟩ : ∃ k, (txtB b ++ rest).length + 1 = k + b.size := ⟨(txtB b ++ rest).length + 1 - b.size, by have := (txtB_len b ho hi).1; simp; omega⟩
  rw [hk, trip b ho hi k [] [] rest (fun u hu => by cases hu)]
  rfl
theorem read_trip {b : BT} (ho : b.ok) (hi : b.in64) (hs : b.size ≤ 100000) : readE (txtB b) = 0 ∧ readL (txtB b) = b.lay 0 ∧ (∀ c, readE (txtB b ++ [c]) = 7) ∧ readE ((txtB b).drop 1) = 7 := by
  have hl := txtB_len b ho hi
  have h0 := tree_trip ho hi []
  rw [List.append_nil] at h0
  refine ⟨?_, ?_, fun c => ?_, ?_⟩
  · unfold readE
    rw [if_neg (by omega), h0]
    simp [rdE, BT.lay_length]; omega
  · unfold readL
    rw [if_neg (by omega), h0]
    simp [rdL, BT.lay_length]; omega
  · have h1 := tree_trip ho hi [c]
    unfold readE
    rw [if_neg (by simp; omega), h1]
    rfl
  · obtain ⟨y, c, z, hy, hc⟩ : ∃ y c z, txtB b = 40 :: (c :: z) ++ y ∧ c ≠ 40 := by
      have key : ∀ n : NdD, ∃ c z, keyL n = c :: z ∧ c ≠ 40 := fun n => by
        unfold keyL
        split
        · exact ⟨105, [110, 102], rfl, by decide⟩
        · obtain ⟨c, z, h1, h2⟩ := itoa_first n.key
          exact ⟨c, z, h1, fun q => by rw [q] at h2; exact absurd h2 (by decide)⟩
      cases b with
      | leaf d =>
        obtain ⟨c, z, h1, h2⟩ := key ⟨d.key, d.inf, d.wt, d.val, -1, -1⟩
        exact ⟨58 :: (Lib.itoa d.wt ++ endL ⟨d.key, d.inf, d.wt, d.val, -1, -1⟩) ++ [41], c, z, by simp [txtB, headL, h1], h2⟩
      | node d l r =>
        obtain ⟨c, z, h1, h2⟩ := key ⟨d.key, d.inf, d.wt, d.val, 1, 1⟩
        exact ⟨58 :: (Lib.itoa d.wt ++ endL ⟨d.key, d.inf, d.wt, d.val, 1, 1⟩) ++ (32 :: (txtB l ++ (32 :: (txtB r ++ [41])))), c, z, by simp [txtB, headL, h1], h2⟩
    have e : (txtB b).drop 1 = c :: (z ++ y) := by rw [hy]; simp
    unfold readE
    rw [if_neg (by rw [List.length_drop]; omega), e]
    have hn : nodeP (c :: (z ++ y)) [] [] = none := by
      unfold nodeP beginP
      rw [if_neg (by rw [pre1_no c 40 _ (Ne.symm hc)]; simp)]
    show rdE (treeP ((z ++ y).length + 1 + 1) (c :: (z ++ y)) [] []) = 7
    unfold treeP
    rw [hn]
    rfl
theorem abs_in64 {t : NL} (hin : NodesIn t) {p : Nat} {b : BT} (h : Abs t p b) : b.in64 := by
  induction h with
  | leaf hp hl hr => exact hin _ hp
  | node hp hl hr _ _ ih1 ih2 => exact ⟨(hin _ hp).1, ih1, ih2⟩
theorem headL_leaf {n : NdD} (h1 : n.l = -1) (h2 : n.r = -1) : headL n = headL ⟨n.key, n.inf, n.wt, n.val, -1, -1⟩ := by
  obtain ⟨_, _, _, _, _, _⟩ := n
  simp only at h1 h2
  rw [h1, h2]
theorem headL_in {n : NdD} (h1 : n.l ≠ -1) : headL n = headL ⟨n.key, n.inf, n.wt, n.val, 1, 1⟩ := by
  have e1 : leafB n = false := leafB_no h1
  have e2 : leafB ⟨n.key, n.inf, n.wt, n.val, 1, 1⟩ = false := leafB_no (by show (1 : Int) ≠ -1; decide)
  unfold headL endL keyL
  rw [e1, e2]
theorem txt_abs {t : NL} {p : Nat} {x : List UInt8} (h : Txt t p x) : ∀ {b : BT}, Abs t p b → x = txtB b := by
  induction h with
  | @leaf p hp hl hr =>
    intro b hb
    cases hb with
    | node _ hl' => omega
    | leaf => rw [headL_leaf hl hr]; rfl
  | @inner p l r x y hp hl hr _ _ _ _ ih1 ih2 =>
    intro b hb
    cases hb with
    | leaf _ hl' => omega
    | node _ hl' hr' a1 a2 =>
      obtain rfl := Int.ofNat.inj (hl.symm.trans hl')
      obtain rfl := Int.ofNat.inj (hr.symm.trans hr')
      rw [ih1 a1, ih2 a2, headL_in (by omega)]
      rfl
theorem textA_abs {t : NL} (he : formE t = 0) (hin : NodesIn t) {b : BT} (hb : Abs t 0 b) : textA t = txtB b := by
  obtain ⟨-, hf⟩ := formE_ok he
  obtain ⟨hT, -, -⟩ := theL_form hf
  obtain ⟨x, hx, -⟩ := txt_of hf.good hin hT
  rw [textA_of he hx]
  exact txt_abs hx hb
end Go.Proofs.YtegajbfefhljmaaDoor
