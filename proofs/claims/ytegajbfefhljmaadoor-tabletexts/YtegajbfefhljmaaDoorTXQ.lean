
/- Layer 16, pure: a text that the reader takes is the text of a tree. -/

import Derived.Test.YtegajbfefhljmaaDoorTXP

namespace Go.Proofs.YtegajbfefhljmaaDoor

theorem pre_inv {l p : List UInt8} (h : Lib.hasPrefix l p = true) : l = p ++ Lib.trimPrefix l p := by
  unfold Lib.trimPrefix
  rw [if_pos h]
  exact (List.prefix_iff_eq_append.1 (List.isPrefixOf_iff_prefix.1 h)).symm
theorem key_inv {l r : List UInt8} {d : NdD} (h : keyP l nd1 = some (d, r)) : ∃ k i : Int, d = ⟨k, i, 0, 0, -1, -1⟩ ∧ (i = 0 ∨ i = 1 ∧ k = 0) ∧ In64 k ∧ l = (if i = 1 then [105, 110, 102] else Lib.itoa k) ++ r := by
  unfold keyP at h
  split at h
  · rename_i hp
    obtain ⟨rfl, rfl⟩ := Prod.mk.inj (Option.some.inj h)
    refine ⟨0, 1, rfl, Or.inr ⟨rfl, rfl⟩, ⟨by decide, by decide⟩, ?_⟩
    rw [if_pos rfl]
    exact pre_inv hp
  · cases hv : numV l with
    | none => rw [hv] at h; cases h
    | some v =>
      rw [hv] at h
      obtain ⟨rfl, rfl⟩ := Prod.mk.inj (Option.some.inj h)
      obtain ⟨h1, h2⟩ := num_inv hv
      exact ⟨v, 0, rfl, Or.inl rfl, h2, by rw [if_neg (by decide)]; exact h1⟩
theorem begin_inv {l r : List UInt8} {d : NdD} (h : beginP l = some (d, r)) : ∃ k i x : Int, d = ⟨k, i, x, 0, -1, -1⟩ ∧ (i = 0 ∨ i = 1 ∧ k = 0) ∧ In64 k ∧ 0 ≤ x ∧ x ≤ 1000000 ∧ l = 40 :: ((if i = 1 then [105, 110, 102] else Lib.itoa k) ++ (58 :: (Lib.itoa x ++ r))) := by
  unfold beginP at h
  split at h
  · rename_i hp
    have e0 := pre_inv hp
    split at h
    · rename_i d1 l1 hk
      obtain ⟨k, i, rfl, hi, hk64, e1⟩ := key_inv hk
      split at h
      · rename_i h58
        have e2 := pre_inv h58
        unfold weightP at h
        split at h
        · rename_i v hv
          split at h
          · rename_i hw
            obtain ⟨rfl, rfl⟩ := Prod.mk.inj (Option.some.inj h)
            obtain ⟨e3, -⟩ := num_inv hv
            refine ⟨k, i, v, rfl, hi, hk64, hw.1, hw.2, ?_⟩
            rw [← e3, show (58 :: Lib.trimPrefix l1 [58]) = l1 from e2.symm, ← e1]
            exact e0
          · cases h
        · cases h
      · cases h
    · cases h
  · cases h
/-- What a node that is read was. -/
theorem node_inv {l l1 : List UInt8} {N N1 : NL} {O O1 : List Nat} {f : Bool} (hO : ∀ u, O.getLast? = some u → u < N.length) (h : nodeP l N O = some (f, l1, N1, O1)) : ∃ d : PD, d.ok ∧ In64 d.key ∧ In64 d.val ∧ N1 = hangN N O N.length ++ [⟨d.key, d.inf, d.wt, d.val, -1, -1⟩] ∧
    ((f = true ∧ d.val = 0 ∧ O1 = O ++ [N.length] ∧ l = headL ⟨d.key, d.inf, d.wt, d.val, 1, 1⟩ ++ (32 :: l1)) ∨ (f = false ∧ O1 = O ∧ l = headL ⟨d.key, d.inf, d.wt, d.val, -1, -1⟩ ++ [41] ++ l1)) := by
  unfold nodeP at h
  split at h
  · cases h
  · rename_i d r hb
    obtain ⟨k, i, x, rfl, hi, hk, hx0, hx1, e⟩ := begin_inv hb
    have hz : In64 (0 : Int) := ⟨by decide, by decide⟩
    have hok : ∀ v : Int, (i = 1 → v = 0) → PD.ok ⟨k, i, x, v⟩ := fun v hv => ⟨by
      rcases hi with hi | ⟨h1, h2⟩
      · exact Or.inl hi
      · exact Or.inr ⟨h1, h2, hv h1⟩, hx0, hx1⟩
    split at h
    · rename_i h32
      simp only [Option.some.injEq, Prod.mk.injEq] at h
      obtain ⟨rfl, rfl, rfl, rfl⟩ := h
      refine ⟨⟨k, i, x, 0⟩, hok 0 (fun _ => rfl), hk, hz, addP_hang N O _ hO, Or.inl ⟨rfl, rfl, rfl, ?_⟩⟩
      rw [e, pre_inv h32]
      simp [headL, endL, leafB, keyL, pre1]
    · split at h
      · rename_i hi1
        have hi1 : i = 1 := hi1
        split at h
        · rename_i h41
          simp only [Option.some.injEq, Prod.mk.injEq] at h
          obtain ⟨rfl, rfl, rfl, rfl⟩ := h
          refine ⟨⟨k, i, x, 0⟩, hok 0 (fun _ => rfl), hk, hz, addP_hang N O _ hO, Or.inr ⟨rfl, rfl, ?_⟩⟩
          rw [e, pre_inv h41]
          simp [headL, endL, leafB, keyL, hi1, pre1]
        · cases h
      · rename_i hi1
        have hi1 : ¬ i = 1 := hi1
        have hi0 : i = 0 := by rcases hi with hi | ⟨q, _⟩; exact hi; exact absurd q hi1
        split at h
        · rename_i N2 l2 hv
          split at h
          · rename_i h41
            simp only [Option.some.injEq, Prod.mk.injEq] at h
            obtain ⟨rfl, rfl, rfl, rfl⟩ := h
            unfold valueP at hv
            split at hv
            · rename_i h61
              cases hn : numV (Lib.trimPrefix r [61]) with
              | none => rw [hn] at hv; cases hv
              | some v =>
                rw [hn] at hv
                obtain ⟨rfl, rfl⟩ := Prod.mk.inj (Option.some.inj hv)
                obtain ⟨e1, e2⟩ := num_inv hn
                refine ⟨⟨k, i, x, v⟩, hok v (fun q => absurd q hi1), hk, e2, ?_, Or.inr ⟨rfl, rfl, ?_⟩⟩
                · rw [addP_hang N O _ hO, set_last, last_at]
                · have e3 := pre_inv h61
                  have e4 := pre_inv h41
                  clear hn hv
                  generalize Lib.trimPrefix r [61] = z at *
                  generalize numR z = y at *
                  generalize Lib.trimPrefix y [41] = y2 at *
                  rw [e, e3, e1, e4]
                  simp [headL, endL, leafB, keyL, hi0]
            · cases hv
          · cases h
        · cases h
/-- What stands behind a side. -/
theorem cont_more {H : NL} {n : NdD} {Z : NL} {O : List Nat} {rest : List UInt8} {k : Nat} {x : List UInt8 × NL} (hr : n.r = -1) (h : contP k rest (H ++ n :: Z) (O ++ [H.length]) = some x) : ∃ r', rest = 32 :: r' := by
  have e : ndAt (H ++ n :: Z) ((O ++ [H.length]).getD O.length 0) = n := by unfold ndAt; simp
  unfold contP at h
  rw [List.length_append, List.length_singleton] at h
  unfold closeP at h
  rw [e, if_pos hr] at h
  by_cases hp : Lib.hasPrefix rest [32] = true
  · exact ⟨_, pre_inv hp⟩
  · rw [if_neg hp] at h
    cases h
theorem cont_up {H : NL} {n : NdD} {Z : NL} {O : List Nat} {rest : List UInt8} {k : Nat} {x : List UInt8 × NL} (hr : n.r ≠ -1) (h : contP k rest (H ++ n :: Z) (O ++ [H.length]) = some x) : ∃ r', rest = 41 :: r' := by
  have e : ndAt (H ++ n :: Z) ((O ++ [H.length]).getD O.length 0) = n := by unfold ndAt; simp
  unfold contP at h
  rw [List.length_append, List.length_singleton] at h
  unfold closeP at h
  rw [e, if_neg hr] at h
  by_cases hp : Lib.hasPrefix rest [41] = true
  · exact ⟨_, pre_inv hp⟩
  · rw [if_neg hp] at h
    cases h
theorem trip_inv (k : Nat) : ∀ (l : List UInt8) (N : NL) (O : List Nat) (x : List UInt8 × NL), (∀ u, O.getLast? = some u → u < N.length) → treeP k l N O = some x →
    ∃ (b : BT) (k' : Nat) (rest : List UInt8), b.ok ∧ b.in64 ∧ k' < k ∧ l = txtB b ++ rest ∧ contP k' rest (hangN N O N.length ++ b.lay N.length) O = some x := by
  induction k using Nat.strongRecOn with
  | _ k ih =>
    intro l N O x hO h
    cases k with
    | zero => cases h
    | succ k =>
      unfold treeP at h
      cases hn : nodeP l N O with
      | none => rw [hn] at h; cases h
      | some q =>
        obtain ⟨f, l1, N1, O1⟩ := q
        rw [hn] at h
        obtain ⟨d, hd, hk, hv, rfl, hc | hc⟩ := node_inv hO hn
        · obtain ⟨rfl, hv0, rfl, rfl⟩ := hc
          simp only at h
          have hl : (hangN N O N.length).length = N.length := hangN_length _ _ _
          generalize hangN N O N.length = H at hl h ⊢
          obtain ⟨b1, k1, r1, o1, i1, hk1, rfl, h1⟩ := ih k (by omega) _ _ _ _ (fun u hu => by
            simp only [List.getLast?_append, List.getLast?_singleton, Option.some_or, Option.some.injEq] at hu
            simp; omega) h
          rw [← hl, hang_mid H _ [] O] at h1
          have e1 : hangD ⟨d.key, d.inf, d.wt, d.val, -1, -1⟩ (((H ++ [(⟨d.key, d.inf, d.wt, d.val, -1, -1⟩ : NdD)]).length : Nat) : Int) = ⟨d.key, d.inf, d.wt, d.val, ((H.length + 1 : Nat) : Int), -1⟩ := by
            unfold hangD
            rw [if_pos rfl]
            simp
          rw [e1, List.length_append, List.length_singleton, List.append_assoc, List.singleton_append] at h1
          obtain ⟨r2, rfl⟩ := cont_more rfl h1
          rw [close_more H _ _ O _ _ rfl] at h1
          obtain ⟨b2, k2, r3, o2, i2, hk2, rfl, h2⟩ := ih k1 (by omega) _ _ _ _ (fun u hu => by
            simp only [List.getLast?_append, List.getLast?_singleton, Option.some_or, Option.some.injEq] at hu
            simp; omega) h1
          rw [hang_mid H _ _ O] at h2
          have e2 : ∀ Z : NL, hangD ⟨d.key, d.inf, d.wt, d.val, ((H.length + 1 : Nat) : Int), -1⟩ (((H ++ (⟨d.key, d.inf, d.wt, d.val, ((H.length + 1 : Nat) : Int), -1⟩ : NdD) :: Z).length : Nat) : Int) = ⟨d.key, d.inf, d.wt, d.val, ((H.length + 1 : Nat) : Int), ((H.length + 1 + Z.length : Nat) : Int)⟩ := fun Z => by
            unfold hangD
            rw [if_neg (by show ((H.length + 1 : Nat) : Int) ≠ -1; omega)]
            simp only [List.length_append, List.length_cons]
            congr 1
            omega
          rw [e2, BT.lay_length] at h2
          have e3 : (H ++ (⟨d.key, d.inf, d.wt, d.val, ((H.length + 1 : Nat) : Int), -1⟩ : NdD) :: b1.lay (H.length + 1)).length = H.length + 1 + b1.size := by
            simp only [List.length_append, List.length_cons, BT.lay_length]; omega
          rw [e3, List.append_assoc, List.cons_append] at h2
          obtain ⟨r4, rfl⟩ := cont_up (by show ((H.length + 1 + b1.size : Nat) : Int) ≠ -1; omega) h2
          rw [close_up H _ _ O _ _ (by show ((H.length + 1 + b1.size : Nat) : Int) ≠ -1; omega)] at h2
          refine ⟨.node d b1 b2, k2, r4, ⟨hd, hv0, o1, o2⟩, ⟨hk, i1, i2⟩, by omega, by simp [txtB], ?_⟩
          rw [hl] at h2
          exact h2
        · obtain ⟨rfl, rfl, rfl⟩ := hc
          exact ⟨.leaf d, k, l1, hd, ⟨hk, hv⟩, by omega, rfl, h⟩
/-- A text that is read without an error. -/
theorem read_inv {l : List UInt8} (h : readE l = 0) : ∃ b : BT, b.ok ∧ b.in64 ∧ b.size ≤ 100000 ∧ l = txtB b ∧ readL l = b.lay 0 := by
  unfold readE at h
  split at h
  · cases h
  · rename_i hlen
    cases ht : treeP (l.length + 1) l [] [] with
    | none => rw [ht] at h; cases h
    | some x =>
      obtain ⟨l2, N⟩ := x
      rw [ht] at h
      obtain ⟨b, k', rest, ho, hi, -, hl, hc⟩ := trip_inv _ l [] [] _ (fun u hu => by cases hu) ht
      have hc' : some (rest, b.lay 0) = some (l2, N) := hc
      obtain ⟨rfl, rfl⟩ := Prod.mk.inj (Option.some.inj hc')
      cases rest with
      | cons c y => cases h
      | nil =>
        simp only [rdE] at h
        split at h
        · cases h
        · rename_i hs
          rw [BT.lay_length] at hs
          refine ⟨b, ho, hi, by omega, by rw [hl, List.append_nil], ?_⟩
          rw [hl, List.append_nil]
          exact (read_trip ho hi (by omega)).2.1
theorem lay_in : ∀ (b : BT), b.ok → b.in64 → ∀ (o : Nat), ∀ n ∈ b.lay o, In64 n.key ∧ In64 n.val
  | .leaf d, _, hi, o, n, hn => by
    obtain rfl := List.mem_singleton.1 hn
    exact hi
  | .node d l r, ho, hi, o, n, hn => by
    simp only [BT.lay] at hn
    rcases List.mem_cons.1 hn with rfl | hn
    · exact ⟨hi.1, by show In64 d.val; rw [ho.2.1]; exact ⟨by decide, by decide⟩⟩
    · rcases List.mem_append.1 hn with hn | hn
      · exact lay_in l ho.2.2.1 hi.2.1 _ n hn
      · exact lay_in r ho.2.2.2 hi.2.2 _ n hn
theorem nodesIn_lay {b : BT} (ho : b.ok) (hi : b.in64) : NodesIn (b.lay 0) := fun i h => by
  have := lay_in b ho hi 0 (ndAt (b.lay 0) i) (by
    unfold ndAt
    rw [List.getD_eq_getElem?_getD, List.getElem?_eq_getElem h]
    exact List.getElem_mem h)
  exact this
/-- All that the law asks of a text that is read. -/
theorem read_back {l : List UInt8} (h : readE l = 0) : formE (readL l) = 0 ∧ textA (readL l) = l ∧ NodesIn (readL l) ∧ Tree (readL l) 0 (List.range' 0 (readL l).length) ∧ partL (readL l) (List.range' 0 (readL l).length) = readL l ∧ (readL l).length ≤ 100000 := by
  obtain ⟨b, ho, hi, hs, rfl, hL⟩ := read_inv h
  rw [hL]
  have hE := lay_formE ho hs
  have hT := laid_tree b (laid_self b)
  have hlen : (b.lay 0).length = b.size := BT.lay_length _ _
  rw [hlen]
  exact ⟨hE, textA_abs hE (nodesIn_lay ho hi) (lay_abs0 b), nodesIn_lay ho hi, hT, part_lay hT List.nodup_range' (lay_abs0 b), hs⟩
end Go.Proofs.YtegajbfefhljmaaDoor
