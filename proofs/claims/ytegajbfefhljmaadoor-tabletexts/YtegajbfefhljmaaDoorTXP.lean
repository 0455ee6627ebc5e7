
/- Layer 16, pure: the document's numbers and nodes against the program's; a text that is read is the text of a tree. -/

import Derived.Test.YtegajbfefhljmaaDoorTTrip

namespace Go.Proofs.YtegajbfefhljmaaDoor

/-- The digits at the beginning, gathered below 0. -/
def digs : Int → List UInt8 → Option (Int × List UInt8)
  | n, [] => some (n, [])
  | n, c :: l => if 48 ≤ c.toNat ∧ c.toNat ≤ 57 then (if n * 10 - ((c.toNat : Int) - 48) < -9223372036854775808 then none else digs (n * 10 - ((c.toNat : Int) - 48)) l) else some (n, c :: l)
def unsg (l : List UInt8) : List UInt8 := if l.head? = some 45 then l.tail else l
def rnum (l : List UInt8) : Option (Int × List UInt8) := match digs 0 (unsg l) with
  | none => none
  | some (n, r) =>
    if r.length = (unsg l).length then none
    else if (unsg l).head? = some 48 ∧ (r.length + 1 < (unsg l).length ∨ l.head? = some 45) then none
    else if l.head? = some 45 then some (n, r)
    else if n = -9223372036854775808 then none else some (-n, r)
/-- No sign of a number stands at the beginning. -/
def Qt (r : List UInt8) : Prop := r = [] ∨ ∃ c y, r = c :: y ∧ numCh c = false
theorem qt_or (r : List UInt8) : Qt r ∨ ∃ c y, r = c :: y ∧ numCh c = true := by
  cases r with
  | nil => exact Or.inl (Or.inl rfl)
  | cons c y =>
    cases h : numCh c with
    | true => exact Or.inr ⟨c, y, rfl, h⟩
    | false => exact Or.inl (Or.inr ⟨c, y, rfl, h⟩)
theorem qt_numR : ∀ l : List UInt8, Qt (numR l)
  | [] => Or.inl rfl
  | c :: l => by
    cases h : numCh c with
    | true =>
      have := qt_numR l
      unfold numR at this ⊢
      rw [List.dropWhile_cons, if_pos h]
      exact this
    | false =>
      refine Or.inr ⟨c, l, ?_, h⟩
      unfold numR
      rw [List.dropWhile_cons, if_neg (by rw [h]; simp)]
theorem not_digit {c : UInt8} (h : numCh c = false) : ¬ (48 ≤ c.toNat ∧ c.toNat ≤ 57) := by
  intro q
  unfold numCh at h
  simp [q.1, q.2] at h
theorem digs_stop (n : Int) {R : List UInt8} (h : Qt R) : digs n R = some (n, R) := by
  rcases h with rfl | ⟨c, y, rfl, hc⟩
  · rfl
  · simp only [digs]
    rw [if_neg (not_digit hc)]
theorem digs_dec (u : Nat) : u ≤ 9223372036854775808 → ∀ R : List UInt8, digs 0 (Lib.decDigits u ++ R) = digs (-(u : Int)) R := by
  induction u using Lib.decDigits.induct with
  | case1 u hu =>
    intro _ R
    rw [Lib.decDigits, dif_pos hu, List.singleton_append]
    simp only [digs, dig_toNat u hu]
    rw [if_pos (by omega), if_neg (by omega)]
    congr 1
    omega
  | case2 u hu ih =>
    intro hb R
    rw [Lib.decDigits, dif_neg hu, List.append_assoc, List.singleton_append, ih (by omega)]
    simp only [digs, dig_toNat (u % 10) (by omega)]
    rw [if_pos (by omega), if_neg (by omega)]
    congr 1
    omega
theorem dec_zero (u : Nat) : ∀ (y : List UInt8), Lib.decDigits u = 48 :: y → u = 0 := by
  induction u using Lib.decDigits.induct with
  | case1 u hu =>
    intro y h
    rw [Lib.decDigits, dif_pos hu] at h
    have h1 : UInt8.ofNat (48 + u) = 48 := (List.cons.inj h).1
    have h2 := dig_toNat u hu
    rw [h1] at h2
    have : (48 : UInt8).toNat = 48 := rfl
    omega
  | case2 u hu ih =>
    intro y h
    rw [Lib.decDigits, dif_neg hu] at h
    obtain ⟨c, z, hz⟩ := List.exists_cons_of_ne_nil (dec_ne (u / 10))
    rw [hz] at h
    have h1 : c = 48 := (List.cons.inj h).1
    have := ih z (by rw [hz, h1])
    omega
theorem dec0 : Lib.decDigits 0 = [48] := by rw [Lib.decDigits, dif_pos (by omega)]; rfl
theorem rnum_itoa {v : Int} (h : In64 v) {R : List UInt8} (hR : Qt R) : rnum (Lib.itoa v ++ R) = some (v, R) := by
  obtain ⟨h1, h2⟩ := h
  unfold Lib.itoa
  by_cases hn : v < 0
  · rw [if_pos hn]
    obtain ⟨c, y, hc⟩ := List.exists_cons_of_ne_nil (dec_ne v.natAbs)
    have hu : unsg (45 :: Lib.decDigits v.natAbs ++ R) = Lib.decDigits v.natAbs ++ R := by simp [unsg]
    have hh : (45 :: Lib.decDigits v.natAbs ++ R).head? = some 45 := rfl
    unfold rnum
    rw [hu, hh, digs_dec v.natAbs (by omega), digs_stop _ hR]
    simp only
    rw [if_neg (by rw [hc]; simp; omega), if_neg, if_pos trivial]
    · congr 2
      omega
    · rintro ⟨q, -⟩
      rw [hc] at q
      have hc' : c = 48 := by simpa using q
      have := dec_zero v.natAbs y (by rw [hc, hc'])
      omega
  · rw [if_neg hn]
    obtain ⟨c, y, hc⟩ := List.exists_cons_of_ne_nil (dec_ne v.toNat)
    have hd := dec_all v.toNat c (by rw [hc]; simp)
    have hne : (Lib.decDigits v.toNat ++ R).head? ≠ some 45 := by
      rw [hc]
      intro q
      have q' : c = 45 := by simpa using q
      rw [q'] at hd
      have : (45 : UInt8).toNat = 45 := rfl
      omega
    have hu : unsg (Lib.decDigits v.toNat ++ R) = Lib.decDigits v.toNat ++ R := by unfold unsg; rw [if_neg hne]
    unfold rnum
    rw [hu, digs_dec v.toNat (by omega), digs_stop _ hR]
    simp only
    rw [if_neg (by rw [hc]; simp; omega), if_neg, if_neg hne, if_neg (by omega)]
    · congr 2
      omega
    · rintro ⟨q, hq⟩
      have q2 := q
      rw [hc] at q2
      have hc' : c = 48 := by simpa using q2
      have h0 := dec_zero v.toNat y (by rw [hc, hc'])
      rcases hq with hq | hq
      · rw [h0, dec0] at hq
        simp at hq
      · exact hne hq
theorem digs_len : ∀ (l : List UInt8) (n m : Int) (r : List UInt8), digs n l = some (m, r) → r.length ≤ l.length ∧ (r.length = l.length → m = n ∧ r = l)
  | [], n, m, r, h => by
    simp only [digs, Option.some.injEq, Prod.mk.injEq] at h
    obtain ⟨rfl, rfl⟩ := h
    simp
  | c :: l, n, m, r, h => by
    simp only [digs] at h
    split at h
    · split at h
      · cases h
      · have := (digs_len l _ _ _ h).1
        simp only [List.length_cons]
        exact ⟨by omega, fun q => by omega⟩
    · simp only [Option.some.injEq, Prod.mk.injEq] at h
      obtain ⟨rfl, rfl⟩ := h
      simp
theorem dec_snoc (u : Nat) (h : 1 ≤ u) (c : UInt8) (h1 : 48 ≤ c.toNat) (h2 : c.toNat ≤ 57) : Lib.decDigits (u * 10 + (c.toNat - 48)) = Lib.decDigits u ++ [c] := by
  rw [Lib.decDigits, dif_neg (by omega)]
  have e1 : (u * 10 + (c.toNat - 48)) / 10 = u := by omega
  have e2 : (u * 10 + (c.toNat - 48)) % 10 = c.toNat - 48 := by omega
  rw [e1, e2]
  congr 2
  rw [show 48 + (c.toNat - 48) = c.toNat by omega]
  exact UInt8.ofNat_toNat
theorem digs_inv : ∀ (l : List UInt8) (u : Nat) (m : Int) (r : List UInt8), 1 ≤ u → u ≤ 9223372036854775808 → digs (-(u : Int)) l = some (m, r) → ∃ u' : Nat, m = -(u' : Int) ∧ 1 ≤ u' ∧ u' ≤ 9223372036854775808 ∧ Lib.decDigits u ++ l = Lib.decDigits u' ++ r
  | [], u, m, r, h1, h2, h => by
    simp only [digs, Option.some.injEq, Prod.mk.injEq] at h
    obtain ⟨rfl, rfl⟩ := h
    exact ⟨u, rfl, h1, h2, rfl⟩
  | c :: l, u, m, r, h1, h2, h => by
    simp only [digs] at h
    split at h
    · rename_i hc
      split at h
      · cases h
      · rename_i hb
        have e : -(u : Int) * 10 - ((c.toNat : Int) - 48) = -((u * 10 + (c.toNat - 48) : Nat) : Int) := by omega
        rw [e] at h
        obtain ⟨u', q1, q2, q3, q4⟩ := digs_inv l (u * 10 + (c.toNat - 48)) m r (by omega) (by omega) h
        refine ⟨u', q1, q2, q3, ?_⟩
        rw [← q4, dec_snoc u h1 c hc.1 hc.2]
        simp
    · simp only [Option.some.injEq, Prod.mk.injEq] at h
      obtain ⟨rfl, rfl⟩ := h
      exact ⟨u, rfl, h1, h2, rfl⟩
theorem rnum_inv {l r : List UInt8} {v : Int} (h : rnum l = some (v, r)) : l = Lib.itoa v ++ r ∧ In64 v := by
  unfold rnum at h
  split at h
  · cases h
  · rename_i n q hd
    split at h
    · cases h
    · rename_i hlen
      split at h
      · cases h
      · rename_i hz
        have key : ∃ u : Nat, n = -(u : Int) ∧ u ≤ 9223372036854775808 ∧ unsg l = Lib.decDigits u ++ q ∧ (l.head? = some 45 → 1 ≤ u) := by
          cases hu : unsg l with
          | nil =>
            rw [hu] at hd hlen
            simp only [digs, Option.some.injEq, Prod.mk.injEq] at hd
            obtain ⟨-, rfl⟩ := hd
            exact absurd rfl hlen
          | cons c y =>
            rw [hu] at hd hlen hz
            simp only [digs] at hd
            split at hd
            · rename_i hc
              split at hd
              · cases hd
              · by_cases h0 : c.toNat = 48
                · have hc0 : c = 48 := UInt8.toNat_inj.1 h0
                  have e : (0 : Int) * 10 - ((c.toNat : Int) - 48) = 0 := by omega
                  rw [e] at hd
                  have hlq := digs_len y 0 n q hd
                  have h48 : ¬ (q.length + 1 < (c :: y).length ∨ l.head? = some 45) := fun k => hz ⟨by rw [hc0]; rfl, k⟩
                  have hq : q.length = y.length := by
                    have := hlq.1
                    have : ¬ q.length + 1 < (c :: y).length := fun k => h48 (Or.inl k)
                    simp only [List.length_cons] at this
                    omega
                  obtain ⟨e1, e2⟩ := hlq.2 hq
                  exact ⟨0, by omega, by omega, by rw [dec0, e2, hc0]; rfl, fun k => absurd (Or.inr k) h48⟩
                · have e : (0 : Int) * 10 - ((c.toNat : Int) - 48) = -((c.toNat - 48 : Nat) : Int) := by omega
                  rw [e] at hd
                  obtain ⟨u', q1, q2, q3, q4⟩ := digs_inv y (c.toNat - 48) n q (by omega) (by omega) hd
                  refine ⟨u', q1, q3, ?_, fun _ => q2⟩
                  rw [← q4, Lib.decDigits, dif_pos (by omega), show 48 + (c.toNat - 48) = c.toNat by omega]
                  have : UInt8.ofNat c.toNat = c := UInt8.ofNat_toNat
                  rw [this]
                  rfl
            · simp only [Option.some.injEq, Prod.mk.injEq] at hd
              obtain ⟨-, rfl⟩ := hd
              exact absurd rfl hlen
        obtain ⟨u, rfl, hu1, hu2, hu3⟩ := key
        split at h
        · rename_i hneg
          simp only [Option.some.injEq, Prod.mk.injEq] at h
          obtain ⟨rfl, rfl⟩ := h
          have h1 := hu3 hneg
          refine ⟨?_, ⟨by omega, by omega⟩⟩
          unfold Lib.itoa
          rw [if_pos (by omega), show (-(u : Int)).natAbs = u by omega, List.cons_append, ← hu2]
          cases l with
          | nil => cases hneg
          | cons c y =>
            have : c = 45 := by simpa using hneg
            rw [this]
            simp [unsg]
        · rename_i hneg
          split at h
          · cases h
          · rename_i hmin
            simp only [Option.some.injEq, Prod.mk.injEq] at h
            obtain ⟨rfl, rfl⟩ := h
            refine ⟨?_, ⟨by omega, by omega⟩⟩
            unfold Lib.itoa
            rw [if_neg (by omega), show (- -(u : Int)).toNat = u by omega, ← hu2]
            unfold unsg
            rw [if_neg hneg]
theorem atoi_in {l : List UInt8} {v : Int} (h : Lib.atoiAll l = .ok v) : In64 v := by
  unfold Lib.atoiAll at h
  split at h
  · cases h
  · simp only at h
    split at h
    · cases h
    · cases h
    · split at h
      · cases h
      · split at h
        · cases h
        · rename_i c r _ u hm h1 h2
          injection h with h
          by_cases hn : c.toNat = 45
          · rw [if_pos hn] at h
            have : ¬ 9223372036854775808 < u := fun q => h2 ⟨hn, q⟩
            exact ⟨by omega, by omega⟩
          · rw [if_neg hn] at h
            have : ¬ 9223372036854775808 ≤ u := fun q => h1 ⟨hn, q⟩
            exact ⟨by omega, by omega⟩
theorem num_inv {l : List UInt8} {v : Int} (h : numV l = some v) : l = Lib.itoa v ++ numR l ∧ In64 v := by
  unfold numV at h
  split at h
  · rename_i x hx
    split at h
    · rename_i hi
      obtain rfl := Option.some.inj h
      refine ⟨?_, atoi_in hx⟩
      rw [hi]
      exact (List.takeWhile_append_dropWhile).symm
    · cases h
  · cases h
theorem num_r {l : List UInt8} {v : Int} (h : numV l = some v) : rnum l = some (v, numR l) := by
  obtain ⟨h1, h2⟩ := num_inv h
  have h3 := rnum_itoa h2 (qt_numR l)
  rw [← h1] at h3
  exact h3
theorem r_num {l r : List UInt8} {v : Int} (h : rnum l = some (v, r)) (hq : Qt r) : numV l = some v ∧ numR l = r := by
  obtain ⟨h1, h2⟩ := rnum_inv h
  have hcut : numT l = Lib.itoa v ∧ numR l = r := by
    rcases hq with rfl | ⟨c, y, rfl, hc⟩
    · rw [List.append_nil] at h1
      rw [h1]
      have := num_cut (Lib.itoa v) (Lib.itoa v).length (Nat.le_refl _) (fun i hi => itoa_num v _ (by rw [List.getD_eq_getElem?_getD, List.getElem?_eq_getElem hi]; exact List.getElem_mem hi)) (Or.inl rfl)
      simpa using this
    · rw [h1]
      exact num_itoa v c y hc
  refine ⟨?_, hcut.2⟩
  unfold numV
  rw [hcut.1, atoi_itoa h2]
  simp
theorem r_none {l : List UInt8} (h : rnum l = none) : numV l = none := by
  cases h1 : numV l with
  | none => rfl
  | some v => rw [num_r h1] at h; cases h
theorem r_bad {l r : List UInt8} {v : Int} (h : rnum l = some (v, r)) (hq : ∃ c y, r = c :: y ∧ numCh c = true) : numV l = none := by
  cases h1 : numV l with
  | none => rfl
  | some x =>
    have h2 := num_r h1
    rw [h] at h2
    have h3 : r = numR l := by injection h2 with h2; exact (Prod.mk.inj h2).2
    obtain ⟨c, y, rfl, hc⟩ := hq
    rcases qt_numR l with q | ⟨d, z, q, hd⟩
    · rw [q] at h3; cases h3
    · rw [q] at h3
      rw [(List.cons.inj h3).1, hd] at hc
      cases hc
/-- The document's node: its beginning, its value. -/
def keyR (l : List UInt8) (d : NdD) : Option (NdD × List UInt8) :=
  if Lib.hasPrefix l [105, 110, 102] = true then some ({ d with inf := 1 }, Lib.trimPrefix l [105, 110, 102]) else (rnum l).map fun q => ({ d with key := q.1 }, q.2)
def weightR (l : List UInt8) (d : NdD) : Option (NdD × List UInt8) := match rnum l with
  | some (v, r) => if 0 ≤ v ∧ v ≤ 1000000 then some ({ d with wt := v }, r) else none
  | none => none
def valueR (l : List UInt8) (N : NL) : Option (NL × List UInt8) :=
  if Lib.hasPrefix l [61] = true then (rnum (Lib.trimPrefix l [61])).map fun q => (N.set (N.length - 1) { ndAt N (N.length - 1) with val := q.1 }, q.2) else none
def openR (l : List UInt8) : Option (NdD × List UInt8) :=
  if Lib.hasPrefix l [40] = true then
    match keyR (Lib.trimPrefix l [40]) nd1 with
    | some (d, l1) => if Lib.hasPrefix l1 [58] = true then weightR (Lib.trimPrefix l1 [58]) d else none
    | none => none
  else none
def nodeR (l : List UInt8) (N : NL) (O : List Nat) : Option (Bool × List UInt8 × NL × List Nat) := match openR l with
  | none => none
  | some (d, l1) =>
    if Lib.hasPrefix l1 [32] = true then some (true, Lib.trimPrefix l1 [32], addP N O d, O ++ [N.length])
    else if d.inf = 1 then (if Lib.hasPrefix l1 [41] = true then some (false, Lib.trimPrefix l1 [41], addP N O d, O) else none)
    else match valueR l1 (addP N O d) with
      | some (N2, l2) => if Lib.hasPrefix l2 [41] = true then some (false, Lib.trimPrefix l2 [41], N2, O) else none
      | none => none
theorem pre_qt {r : List UInt8} {k : UInt8} (h : Lib.hasPrefix r [k] = true) (hk : numCh k = false) : Qt r := by
  cases r with
  | nil => cases h
  | cons c y =>
    by_cases q : k = c
    · exact Or.inr ⟨c, y, rfl, by rw [← q]; exact hk⟩
    · rw [pre1_no c k y q] at h; cases h
theorem bad_pre {r : List UInt8} {k : UInt8} (h : ∃ c y, r = c :: y ∧ numCh c = true) (hk : numCh k = false) : Lib.hasPrefix r [k] = false := by
  obtain ⟨c, y, rfl, hc⟩ := h
  refine pre1_no c k y (fun q => ?_)
  rw [q, hc] at hk
  cases hk
theorem key_pr {l r : List UInt8} {d d' : NdD} (h : keyP l d = some (d', r)) : keyR l d = some (d', r) := by
  unfold keyP at h
  unfold keyR
  split
  · rename_i hp
    rw [if_pos hp] at h
    exact h
  · rename_i hp
    rw [if_neg hp] at h
    cases hv : numV l with
    | none => rw [hv] at h; cases h
    | some v =>
      rw [hv] at h
      rw [num_r hv]
      exact h
theorem key_rp {l r : List UInt8} {d d' : NdD} (h : keyR l d = some (d', r)) (hq : Qt r) : keyP l d = some (d', r) := by
  unfold keyR at h
  unfold keyP
  split
  · rename_i hp
    rw [if_pos hp] at h
    exact h
  · rename_i hp
    rw [if_neg hp] at h
    cases hv : rnum l with
    | none => rw [hv] at h; cases h
    | some q =>
      obtain ⟨v, r'⟩ := q
      rw [hv] at h
      simp only [Option.map_some, Option.some.injEq, Prod.mk.injEq] at h
      obtain ⟨h1, rfl⟩ := h
      obtain ⟨e1, e2⟩ := r_num hv hq
      rw [e1, e2, ← h1]
      rfl
theorem open_pr {l r : List UInt8} {d : NdD} (h : beginP l = some (d, r)) : openR l = some (d, r) := by
  unfold beginP at h
  unfold openR
  split at h
  · rename_i hp
    rw [if_pos hp]
    split at h
    · rename_i d1 l1 hk
      rw [key_pr hk]
      simp only
      split at h
      · rename_i h58
        rw [if_pos h58]
        unfold weightP at h
        unfold weightR
        split at h
        · rename_i v hv
          rw [num_r hv]
          exact h
        · cases h
      · cases h
    · cases h
  · cases h
theorem open_rp {l r : List UInt8} {d : NdD} (h : openR l = some (d, r)) (hq : Qt r) : beginP l = some (d, r) := by
  unfold openR at h
  unfold beginP
  split at h
  · rename_i hp
    rw [if_pos hp]
    split at h
    · rename_i d1 l1 hk
      split at h
      · rename_i h58
        rw [key_rp hk (pre_qt h58 (by decide))]
        simp only
        rw [if_pos h58]
        unfold weightR at h
        unfold weightP
        split at h
        · rename_i v r' hv
          split at h
          · rename_i hw
            simp only [Option.some.injEq, Prod.mk.injEq] at h
            obtain ⟨h1, rfl⟩ := h
            obtain ⟨e1, e2⟩ := r_num hv hq
            rw [e1, e2]
            simp only
            rw [if_pos hw, h1]
          · cases h
        · cases h
      · cases h
    · cases h
  · cases h
theorem nodeR_eq (l : List UInt8) (N : NL) (O : List Nat) : nodeR l N O = nodeP l N O := by
  unfold nodeR nodeP
  cases ho : openR l with
  | none =>
    cases hb : beginP l with
    | none => rfl
    | some q => rw [open_pr hb] at ho; cases ho
  | some q =>
    obtain ⟨d, l1⟩ := q
    rcases qt_or l1 with hq | hq
    · rw [open_rp ho hq]
      simp only
      by_cases h32 : Lib.hasPrefix l1 [32] = true
      · rw [if_pos h32, if_pos h32]
      · rw [if_neg h32, if_neg h32]
        by_cases hi : d.inf = 1
        · rw [if_pos hi, if_pos hi]
        · rw [if_neg hi, if_neg hi]
          unfold valueR valueP
          by_cases h61 : Lib.hasPrefix l1 [61] = true
          · rw [if_pos h61, if_pos h61]
            cases hr : rnum (Lib.trimPrefix l1 [61]) with
            | none => rw [r_none hr]; rfl
            | some q =>
              obtain ⟨v, r⟩ := q
              simp only [Option.map_some]
              rcases qt_or r with hq2 | hq2
              · obtain ⟨e1, e2⟩ := r_num hr hq2
                rw [e1, e2]
                rfl
              · rw [r_bad hr hq2, if_neg (by rw [bad_pre hq2 (by decide)]; simp)]
                rfl
          · rw [if_neg h61, if_neg h61]
    · have hb : beginP l = none := by
        cases hb : beginP l with
        | none => rfl
        | some q =>
          obtain ⟨d0, l0⟩ := q
          have := open_pr hb
          rw [ho] at this
          obtain ⟨rfl, rfl⟩ := Prod.mk.inj (Option.some.inj this)
          unfold beginP at hb
          split at hb
          · split at hb
            · split at hb
              · unfold weightP at hb
                split at hb
                · split at hb
                  · simp only [Option.some.injEq, Prod.mk.injEq] at hb
                    obtain ⟨c, y, e, hc⟩ := hq
                    rename_i ll _ _ _ _ _ _
                    have e2 := hb.2.trans e
                    rcases qt_numR (Lib.trimPrefix ll [58]) with z | ⟨c', y', z, hc'⟩
                    · rw [z] at e2; cases e2
                    · rw [z] at e2
                      rw [(List.cons.inj e2).1, hc] at hc'
                      cases hc'
                  · cases hb
                · cases hb
              · cases hb
            · cases hb
          · cases hb
      rw [hb]
      simp only
      rw [if_neg (by rw [bad_pre hq (by decide)]; simp)]
      split
      · rw [if_neg (by rw [bad_pre hq (by decide)]; simp)]
      · unfold valueR
        rw [if_neg (by rw [bad_pre hq (by decide)]; simp)]
end Go.Proofs.YtegajbfefhljmaaDoor
