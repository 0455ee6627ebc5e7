
/- Layer 28, pure: the one way to write a number. -/

import Derived.Test.YtknlapipkglnjaaGreatDoorHWds

import Derived.Lib.AtoiAll

namespace Go.Proofs.YtknlapipkglnjaaGreatDoor

open Go.RowKit

theorem pu_snoc (c : UInt8) : ∀ (l : List UInt8) (acc : Nat), Lib.parseUint10 acc (l ++ [c]) = match Lib.parseUint10 acc l with
    | .ok v => Lib.parseUint10 v [c]
    | e => e
  | [], acc => rfl
  | d :: l, acc => by
    rw [List.cons_append]
    simp only [Lib.parseUint10]
    split
    · split
      · rfl
      · split
        · rfl
        · have ih := pu_snoc c l (acc * 10 + (d.toNat - 48))
          rw [ih]
          cases Lib.parseUint10 (acc * 10 + (d.toNat - 48)) l <;> rfl
    · rfl
theorem pu_dec (u : Nat) (h : u < 18446744073709551616) : Lib.parseUint10 0 (Lib.decDigits u) = .ok u := by
  induction u using Lib.decDigits.induct with
  | case1 u hu =>
    rw [Lib.decDigits, dif_pos hu]
    simp only [Lib.parseUint10, dig_toNat u hu]
    rw [if_pos (by omega), if_neg (by omega), if_neg (by omega)]
    congr 1
    omega
  | case2 u hu ih =>
    rw [Lib.decDigits, dif_neg hu, pu_snoc, ih (by omega)]
    simp only [Lib.parseUint10, dig_toNat (u % 10) (by omega)]
    rw [if_pos (by omega), if_neg (by omega), if_neg (by omega)]
    congr 1
    omega
theorem dec_all (u : Nat) : ∀ c ∈ Lib.decDigits u, 48 ≤ c.toNat ∧ c.toNat ≤ 57 := by
  induction u using Lib.decDigits.induct with
  | case1 u hu =>
    rw [Lib.decDigits, dif_pos hu]
    intro c hc
    obtain rfl := List.mem_singleton.1 hc
    rw [dig_toNat u hu]
    omega
  | case2 u hu ih =>
    rw [Lib.decDigits, dif_neg hu]
    intro c hc
    rcases List.mem_append.1 hc with hc | hc
    · exact ih c hc
    · obtain rfl := List.mem_singleton.1 hc
      rw [dig_toNat (u % 10) (by omega)]
      omega
theorem dec_ne (u : Nat) : Lib.decDigits u ≠ [] := by
  rw [Lib.decDigits]
  split <;> simp
theorem atoi_itoa {v : Int} (h : In64 v) : Lib.atoiAll (Lib.itoa v) = .ok v := by
  obtain ⟨h1, h2⟩ := h
  unfold Lib.itoa
  by_cases hn : v < 0
  · rw [if_pos hn]
    have hp := pu_dec v.natAbs (by omega)
    simp only [Lib.atoiAll, Lib.parseMag]
    rw [show (45 : UInt8).toNat = 45 from rfl, if_pos (Or.inr rfl), if_neg (dec_ne _), hp]
    simp only [not_true_eq_false, false_and, if_false, true_and, if_true]
    rw [if_neg (by omega)]
    congr 1
    omega
  · rw [if_neg hn]
    have hp := pu_dec v.toNat (by omega)
    obtain ⟨c, r, hcr⟩ := List.exists_cons_of_ne_nil (dec_ne v.toNat)
    have hc := dec_all v.toNat c (by rw [hcr]; simp)
    rw [hcr] at hp ⊢
    simp only [Lib.atoiAll, Lib.parseMag]
    rw [if_neg (show ¬ (c.toNat = 43 ∨ c.toNat = 45) by omega), if_neg (by simp), hp]
    simp only
    rw [if_neg (by omega), if_neg (by omega), if_neg (by omega)]
    congr 1
    omega
theorem dec_zero (u : Nat) : ∀ (y : List UInt8), Lib.decDigits u = 48 :: y → u = 0 := by
  induction u using Lib.decDigits.induct with
  | case1 u hu =>
    intro y h
    rw [Lib.decDigits, dif_pos hu] at h
    have h1 : UInt8.ofNat (48 + u) = 48 := (List.cons.inj h).1
    have h2 := dig_toNat u hu
    rw [h1] at h2
    have : (48 : UInt8).toNat = 48 := rfl
    omega
  | case2 u hu ih =>
    intro y h
    rw [Lib.decDigits, dif_neg hu] at h
    obtain ⟨c, z, hz⟩ := List.exists_cons_of_ne_nil (dec_ne (u / 10))
    rw [hz] at h
    have h1 : c = 48 := (List.cons.inj h).1
    have := ih z (by rw [hz, h1])
    omega
theorem dec_snoc (u : Nat) (h : 1 ≤ u) (c : UInt8) (h1 : 48 ≤ c.toNat) (h2 : c.toNat ≤ 57) : Lib.decDigits (u * 10 + (c.toNat - 48)) = Lib.decDigits u ++ [c] := by
  rw [Lib.decDigits, dif_neg (by omega)]
  have e1 : (u * 10 + (c.toNat - 48)) / 10 = u := by omega
  have e2 : (u * 10 + (c.toNat - 48)) % 10 = c.toNat - 48 := by omega
  rw [e1, e2]
  congr 2
  rw [show 48 + (c.toNat - 48) = c.toNat by omega]
  exact UInt8.ofNat_toNat
theorem atoi_in {l : List UInt8} {v : Int} (h : Lib.atoiAll l = .ok v) : In64 v := by
  unfold Lib.atoiAll at h
  split at h
  · cases h
  · simp only at h
    split at h
    · cases h
    · cases h
    · split at h
      · cases h
      · split at h
        · cases h
        · rename_i c r _ u hm h1 h2
          injection h with h
          by_cases hn : c.toNat = 45
          · rw [if_pos hn] at h
            have : ¬ 9223372036854775808 < u := fun q => h2 ⟨hn, q⟩
            exact ⟨by omega, by omega⟩
          · rw [if_neg hn] at h
            have : ¬ 9223372036854775808 ≤ u := fun q => h1 ⟨hn, q⟩
            exact ⟨by omega, by omega⟩
/-- The number that a word writes. -/
def numOf (l : List UInt8) : Option Int := match Lib.atoiAll l with
  | .ok v => if Lib.itoa v = l then some v else none
  | _ => none
theorem numOf_iff (l : List UInt8) (v : Int) : numOf l = some v ↔ In64 v ∧ Lib.itoa v = l := by
  constructor
  · intro h
    unfold numOf at h
    split at h
    · rename_i x hx
      split at h
      · rename_i he
        injection h with h
        subst h
        exact ⟨atoi_in hx, he⟩
      · cases h
    · cases h
  · rintro ⟨h, rfl⟩
    unfold numOf
    rw [atoi_itoa h]
    simp
def dval (l : List UInt8) : Nat := l.foldl (fun a c => a * 10 + (c.toNat - 48)) 0
theorem dval_snoc (l : List UInt8) (c : UInt8) : dval (l ++ [c]) = dval l * 10 + (c.toNat - 48) := by simp [dval]
theorem dval_dec (u : Nat) : dval (Lib.decDigits u) = u := by
  induction u using Lib.decDigits.induct with
  | case1 u hu =>
    rw [Lib.decDigits, dif_pos hu]
    simp only [dval, List.foldl_cons, List.foldl_nil, dig_toNat u hu]
    omega
  | case2 u hu ih =>
    rw [Lib.decDigits, dif_neg hu, dval_snoc, ih, dig_toNat (u % 10) (by omega)]
    omega
theorem dval_foldl (r : List UInt8) : ∀ a b : Nat, a ≤ b → a ≤ r.foldl (fun a c => a * 10 + (c.toNat - 48)) b := by
  induction r with
  | nil => intro a b h; exact h
  | cons c r ih =>
    intro a b h
    rw [List.foldl_cons]
    exact ih _ _ (by omega)
theorem dval_app (l r : List UInt8) : dval l ≤ dval (l ++ r) := by
  unfold dval
  rw [List.foldl_append]
  exact dval_foldl r _ _ (Nat.le_refl _)
theorem dec_size (u : Nat) : ∀ k : Nat, 1 ≤ k → u < 10 ^ k → (Lib.decDigits u).length ≤ k := by
  induction u using Lib.decDigits.induct with
  | case1 u hu =>
    intro k hk _
    rw [Lib.decDigits, dif_pos hu]
    simpa using hk
  | case2 u hu ih =>
    intro k hk hb
    rw [Lib.decDigits, dif_neg hu, List.length_append, List.length_singleton]
    obtain ⟨j, rfl⟩ : ∃ j, k = j + 1 := ⟨k - 1, by omega⟩
    rw [Nat.pow_succ] at hb
    have hj : 1 ≤ j := by
      rcases Nat.eq_zero_or_pos j with rfl | h
      · simp at hb; omega
      · exact h
    have := ih j hj (by omega)
    omega
/-- The digits d write the number v, behind a sign or not. -/
def DigV (neg : Bool) (d : List UInt8) (v : Int) : Prop := ∃ u : Nat, d = Lib.decDigits u ∧ (if neg then 1 ≤ u ∧ u ≤ 9223372036854775808 ∧ v = -(u : Int) else u < 9223372036854775808 ∧ v = (u : Int))
theorem num_neg (d : List UInt8) (v : Int) : numOf (45 :: d) = some v ↔ DigV true d v := by
  rw [numOf_iff]
  constructor
  · rintro ⟨⟨h1, h2⟩, he⟩
    unfold Lib.itoa at he
    by_cases hn : v < 0
    · rw [if_pos hn] at he
      refine ⟨v.natAbs, (List.cons.inj he).2.symm, ?_⟩
      rw [if_pos rfl]
      omega
    · rw [if_neg hn] at he
      have h45 := dec_all v.toNat 45 (by rw [he]; simp)
      have : (45 : UInt8).toNat = 45 := rfl
      omega
  · rintro ⟨u, rfl, h⟩
    rw [if_pos rfl] at h
    obtain ⟨h1, h2, rfl⟩ := h
    refine ⟨⟨by omega, by omega⟩, ?_⟩
    unfold Lib.itoa
    rw [if_pos (by omega), show (-(u : Int)).natAbs = u by omega]
theorem num_pos (d : List UInt8) (v : Int) (h0 : d.head? ≠ some 45) : numOf d = some v ↔ DigV false d v := by
  rw [numOf_iff]
  constructor
  · rintro ⟨⟨h1, h2⟩, he⟩
    unfold Lib.itoa at he
    by_cases hn : v < 0
    · rw [if_pos hn] at he
      rw [← he] at h0
      exact absurd rfl h0
    · rw [if_neg hn] at he
      refine ⟨v.toNat, he.symm, ?_⟩
      rw [if_neg (by simp)]
      omega
  · rintro ⟨u, rfl, h⟩
    rw [if_neg (by simp)] at h
    obtain ⟨h1, rfl⟩ := h
    refine ⟨⟨by omega, by omega⟩, ?_⟩
    unfold Lib.itoa
    rw [if_neg (by omega), show ((u : Int)).toNat = u by omega]
theorem DigV.bound {neg : Bool} {d : List UInt8} {v : Int} (h : DigV neg d v) : ∃ u : Nat, d = Lib.decDigits u ∧ u ≤ 9223372036854775808 ∧ (neg = true → 1 ≤ u) ∧ (neg = false → u < 9223372036854775808) := by
  obtain ⟨u, h1, h2⟩ := h
  refine ⟨u, h1, ?_, ?_, ?_⟩
  · split at h2 <;> omega
  · rintro rfl; rw [if_pos rfl] at h2; exact h2.1
  · rintro rfl; rw [if_neg (by simp)] at h2; exact h2.1
theorem dig_nil {neg : Bool} {v : Int} : ¬ DigV neg [] v := by
  intro h
  obtain ⟨u, h1, _⟩ := h.bound
  exact dec_ne u h1.symm
theorem dig_long {neg : Bool} {d : List UInt8} {v : Int} (hl : 19 < d.length) : ¬ DigV neg d v := by
  intro h
  obtain ⟨u, h1, h2, _⟩ := h.bound
  have := dec_size u 19 (by omega) (by omega)
  rw [← h1] at this
  omega
theorem dig_zero {neg : Bool} {d : List UInt8} {v : Int} (h0 : d.getD 0 0 = 48) (h : 1 < d.length ∨ neg = true) : ¬ DigV neg d v := by
  intro hv
  obtain ⟨u, h1, h2, h3, _⟩ := hv.bound
  match d, h0, h1 with
  | [], q, _ => revert q; decide
  | c :: y, q, h1 =>
    have q : c = 48 := q
    subst q
    have := dec_zero u y h1.symm
    subst this
    rw [dec0] at h1
    rcases h with h | h
    · rw [h1] at h; simp at h
    · have := h3 h; omega
theorem dig_bad {neg : Bool} {d : List UInt8} {v : Int} {i : Nat} (hi : i < d.length) (h : (d.getD i 0).toNat < 48 ∨ 57 < (d.getD i 0).toNat) : ¬ DigV neg d v := by
  intro hv
  obtain ⟨u, h1, _⟩ := hv.bound
  have hm : d.getD i 0 ∈ d := by rw [List.getD_eq_getElem?_getD, List.getElem?_eq_getElem hi]; exact List.getElem_mem hi
  have := dec_all u (d.getD i 0) (by rw [← h1]; exact hm)
  omega
/-- How far the digits have been read. -/
def Rdd (d : List UInt8) (i u : Nat) : Prop := i ≤ d.length ∧ u ≤ 9223372036854775808 ∧ ((i = 0 ∧ u = 0) ∨ (1 ≤ i ∧ d.take i = Lib.decDigits u))
theorem dtake_next (d : List UInt8) {i : Nat} (hi : i < d.length) : d.take (i + 1) = d.take i ++ [d.getD i 0] := by
  rw [List.take_add_one, List.getElem?_eq_getElem hi, List.getD_eq_getElem?_getD, List.getElem?_eq_getElem hi]
  rfl
theorem rdd_take {d : List UInt8} {i u : Nat} (h : Rdd d i u) (hi : i < d.length) (h0 : d.getD 0 0 ≠ 48 ∨ d.length ≤ 1) (h1 : 48 ≤ (d.getD i 0).toNat) (h2 : (d.getD i 0).toNat ≤ 57) : d.take (i + 1) = Lib.decDigits (u * 10 + ((d.getD i 0).toNat - 48)) := by
  rw [dtake_next d hi]
  obtain ⟨_, _, ⟨rfl, rfl⟩ | ⟨q1, q2⟩⟩ := h
  · rw [Lib.decDigits, dif_pos (by omega), show 48 + (0 * 10 + ((d.getD 0 0).toNat - 48)) = (d.getD 0 0).toNat by omega]
    simp
  · have hu : 1 ≤ u := by
      rcases Nat.eq_zero_or_pos u with rfl | h
      · exfalso
        rw [dec0] at q2
        rcases h0 with h0 | h0
        · apply h0
          match d, q2, q1 with
          | [], q2, _ => simp at q2
          | c :: y, q2, q1 =>
            obtain ⟨j, rfl⟩ : ∃ j, i = j + 1 := ⟨i - 1, by omega⟩
            rw [List.take_succ_cons] at q2
            exact (List.cons.inj q2).1
        · omega
      · exact h
    rw [dec_snoc u hu _ h1 h2, q2]
theorem Rdd.step {d : List UInt8} {i u : Nat} (h : Rdd d i u) (hi : i < d.length) (h0 : d.getD 0 0 ≠ 48 ∨ d.length ≤ 1) (h1 : 48 ≤ (d.getD i 0).toNat) (h2 : (d.getD i 0).toNat ≤ 57) (hb : u * 10 + ((d.getD i 0).toNat - 48) ≤ 9223372036854775808) : Rdd d (i + 1) (u * 10 + ((d.getD i 0).toNat - 48)) :=
  ⟨hi, hb, Or.inr ⟨by omega, rdd_take h hi h0 h1 h2⟩⟩
theorem Rdd.over {neg : Bool} {v : Int} {d : List UInt8} {i u : Nat} (h : Rdd d i u) (hi : i < d.length) (h0 : d.getD 0 0 ≠ 48 ∨ d.length ≤ 1) (h1 : 48 ≤ (d.getD i 0).toNat) (h2 : (d.getD i 0).toNat ≤ 57) (hb : 9223372036854775808 < u * 10 + ((d.getD i 0).toNat - 48)) : ¬ DigV neg d v := by
  intro hv
  obtain ⟨U, e, hU, _⟩ := hv.bound
  have ht := rdd_take h hi h0 h1 h2
  have := dval_app (d.take (i + 1)) (d.drop (i + 1))
  rw [List.take_append_drop, ht, dval_dec, e, dval_dec] at this
  rw [e] at hb
  omega
theorem Rdd.all {d : List UInt8} {u : Nat} (h : Rdd d d.length u) (hd : 1 ≤ d.length) : d = Lib.decDigits u ∧ u ≤ 9223372036854775808 := by
  obtain ⟨_, hu, ⟨q, _⟩ | ⟨_, q⟩⟩ := h
  · omega
  · rw [List.take_length] at q
    exact ⟨q, hu⟩
theorem dig_top {v : Int} {d : List UInt8} (h : d = Lib.decDigits 9223372036854775808) : ¬ DigV false d v := by
  intro hv
  obtain ⟨U, e, _, _, hU⟩ := hv.bound
  have hU := hU rfl
  have := dval_dec U
  rw [← e, h, dval_dec] at this
  omega
end Go.Proofs.YtknlapipkglnjaaGreatDoor
