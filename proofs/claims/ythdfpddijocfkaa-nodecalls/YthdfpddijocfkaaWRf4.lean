
/- Layer 17: the reference's Sums and Total. Layer 17: the reference's Deep, Bound and Fits. Layer 17: the reference's Even and Sound. -/

import Derived.Test.YthdfpddijocfkaaWRf1

namespace Go.Proofs.Ythdfpddijocfkaa

open Go.RowKit

attribute [local go_sem ↓] Go.wp_at_zero Go.wp_at_succ

theorem form_wt {t : NL} (hf : InForm t) (c : Nat) : 0 ≤ (ndAt t c).wt ∧ (ndAt t c).wt ≤ 1000000 := by
  by_cases h : c < t.length
  · exact (hf.good.node c h).2.2
  · have e : ndAt t c = nd0 := by
      unfold ndAt
      rw [List.getD_eq_getElem?_getD, List.getElem?_eq_none (by omega)]
      rfl
    rw [e]
    simp [nd0]
theorem kp_nodup {t : NL} (h : (rootR t).2 = 0) : (kpL t).Nodup := by
  have he := rootR_form h
  obtain ⟨-, hf⟩ := formE_ok he
  obtain ⟨x, l, r, s, hC⟩ := crown_of h
  obtain ⟨-, hN, -⟩ := theL_form hf
  rw [hC.whole] at hN
  exact (List.nodup_append.1 (List.nodup_cons.1 (List.nodup_cons.1 hN).2).2).1
theorem kp_bare {t : NL} (h : (rootR t).2 ≠ 0) : kpL t = [] := by unfold kpL; rw [if_neg h]
theorem kp_ok {t : NL} (he : keyE t = 0) : TreeOk t (kpL t) ∧ (kpL t).length ≤ 100000 ∧ (kpL t).length = (keysA t).length := by
  rcases keyE_cases he with h | h
  · obtain ⟨x, l, r, s, hC⟩ := crown_of h
    obtain ⟨x2, l2, R2, -, -, -, -, -, hl⟩ := kp_order h
    obtain ⟨k, hk⟩ := keyed_of t
    have := (keys_ok hk).1
    exact ⟨treeOk_of hC.tree (kp_nodup h), by omega, hl⟩
  · have e := kp_bare (t := t) (by omega)
    have e2 : keysA t = [] := by unfold keysA; rw [if_neg (by omega)]
    rw [e, e2]
    exact ⟨fun y hy => absurd hy (by simp), by simp, rfl⟩
theorem vsum_eq {t : NL} {k : Option BT} (he : keyE t = 0) (hk : Keyed t k) : (lvL t (kpL t)).map (sA t (kpL t) (kpL t).length) = sumsO k := by
  rcases keyE_cases he with h | h
  · obtain ⟨x, l, r, s, B, hC, rfl, hB, -⟩ := keys_tree h hk
    obtain ⟨L', hL⟩ := hC.tree.head
    have e : sA t (kpL t) (kpL t).length = dn (sF t) t (sA0 t (kpL t)) (kpL t) := by
      unfold sA bA
      rw [if_neg (by rw [hL]; simp), List.take_length]
    rw [e, sums_inh hC.tree B (sA0 t (kpL t)) 0 (kp_nodup h) hB ?_]
    · rfl
    · unfold sA0
      rw [hL]
      simp
  · obtain ⟨rfl, -⟩ := keys_none h hk
    rw [kp_bare (by omega)]
    rfl
theorem lv_map_snoc {t : NL} {M : List Nat} {j : Nat} (S : Nat → Int) (h : j < M.length) : (lvL t (M.take (j + 1))).map S = if lfB t (M.getD j 0) then (lvL t (M.take j)).map S ++ [S (M.getD j 0)] else (lvL t (M.take j)).map S := by
  rw [take_snocL h, lv_snoc]
  split <;> simp
theorem lf_of {t : NL} {M : List Nat} (h : TreeOk t M) {y : Nat} (hy : y ∈ M) : leafB (ndAt t y) = lfB t y := by
  rcases (h y hy).2 with ⟨h1, h2⟩ | ⟨l, r, h1, -⟩
  · rw [leafB_yes h1 h2]; simp [lfB, h1]
  · have : (ndAt t y).l ≠ -1 := by omega
    rw [leafB_no this]; simp [lfB, this]
theorem keys_part {t : NL} (he : keyE t = 0) : keysA t = partL (namL t) (kpL t) := by
  rcases keyE_cases he with h | h
  · obtain ⟨x, l, r, s, hC⟩ := crown_of h
    unfold keysA
    rw [if_pos h, hC.root]
    unfold subL
    rw [if_pos ⟨namL_formE (rootR_form h), by simp, by rw [namL_length]; simpa using hC.lt.1⟩]
    simp only [Int.toNat_natCast]
    rw [theL_of (namL_tree hC.tree)]
  · rw [kp_bare (by omega)]
    unfold keysA
    rw [if_neg (by omega)]
    rfl
/-- A node of the keys' table is the node of its place. -/
theorem key_at {t : NL} (he : keyE t = 0) {i : Nat} (hi : i < (kpL t).length) : (ndAt (keysA t) i).wt = (ndAt t ((kpL t).getD i 0)).wt ∧ rleafB (ndAt (keysA t) i) = lfB t ((kpL t).getD i 0) ∧ (ndAt (keysA t) i).key = (((kpL t).getD i 0 : Nat) : Int) := by
  have hm := getD_mem hi
  obtain ⟨hl, hc⟩ := (kp_ok he).1 _ hm
  have hinf : (ndAt t ((kpL t).getD i 0)).inf = 0 := by
    rcases keyE_cases he with h | h
    · obtain ⟨x, l, r, s, hC⟩ := crown_of h
      exact hC.keys _ hm
    · rw [kp_bare (by omega)] at hi; simp at hi
  rw [keys_part he, part_nd _ _ _ hi]
  generalize (kpL t).getD i 0 = y at *
  have e := namD_lr y (ndAt t y)
  have e2 : (namD y (ndAt t y)).key = (y : Int) := by unfold namD; rw [if_pos hinf]
  rw [namL_at t y hl]
  unfold renD
  rcases hc with ⟨h1, h2⟩ | ⟨l, r, h1, h2, -⟩
  · rw [if_pos (by rw [e.1]; exact h1)]
    exact ⟨e.2.2.2.1, by rw [rleafB_yes (by rw [e.1]; exact h1)]; simp [lfB, h1], e2⟩
  · rw [if_neg (by rw [e.1]; omega)]
    refine ⟨e.2.2.2.1, ?_, e2⟩
    have n1 : (ndAt t y).l ≠ -1 := by omega
    have a0 : ∀ (L : List Nat) (n x : Nat), 0 ≤ atN L n x := fun L n x => by
      induction n with
      | zero => simp [atN]
      | succ n ih => unfold atN; split <;> omega
    rw [rleafB_no (by have := a0 (kpL t) (kpL t).length (namD y (ndAt t y)).l.toNat; show atN _ _ _ ≠ -1; omega)]
    simp [lfB, n1]
/-- The weights of the places, together. -/
def totP (t : NL) (M : List Nat) : Nat → Int
  | 0 => 0
  | m + 1 => totP t M m + (ndAt t (M.getD m 0)).wt
theorem totP_le {t : NL} (hw : ∀ c, 0 ≤ (ndAt t c).wt ∧ (ndAt t c).wt ≤ 1000000) (M : List Nat) : ∀ m, 0 ≤ totP t M m ∧ totP t M m ≤ 1000000 * (m : Int)
  | 0 => by simp [totP]
  | m + 1 => by
    have := totP_le hw M m
    have := hw (M.getD m 0)
    unfold totP
    omega
theorem tot_eq {t : NL} (he : keyE t = 0) : ∀ m, m ≤ (kpL t).length → totN (keysA t) m = totP t (kpL t) m
  | 0, _ => rfl
  | m + 1, h => by
    show totN (keysA t) m + (ndAt (keysA t) m).wt = totP t (kpL t) m + _
    rw [tot_eq he m (by omega), (key_at he (by omega)).1]
end Go.Proofs.Ythdfpddijocfkaa

namespace Go.Proofs.Ythdfpddijocfkaa

open Go.RowKit

attribute [local go_sem ↓] Go.wp_at_zero Go.wp_at_succ

def eA (t : NL) (X : List Nat) (m : Nat) : Nat → Int := dn eF t (fun _ => 0) (X.take m)
theorem eA_bound (t : NL) (X : List Nat) (m : Nat) (hX : X.length ≤ 100000) (z : Nat) : 0 ≤ eA t X m z ∧ eA t X m z ≤ 100000 := by
  have h := dn_bound t (X.take m) (fun _ => 0) 0 (fun _ => ⟨Int.le_refl _, Int.le_refl _⟩) z
  have : (X.take m).length ≤ X.length := by rw [List.length_take]; omega
  unfold eA
  omega
theorem eA_leaf {t : NL} {M : List Nat} {m : Nat} (h : m < M.length) (hl : (ndAt t (M.getD m 0)).l = -1) : eA t M (m + 1) = eA t M m := by
  unfold eA
  rw [take_snocL h, dn_snoc]
  unfold dn1
  rw [if_pos hl]
theorem eA_inner {t : NL} {M : List Nat} {m l r : Nat} (h : m < M.length) (hl : (ndAt t (M.getD m 0)).l = (l : Int)) (hr : (ndAt t (M.getD m 0)).r = (r : Int)) : eA t M (m + 1) = two (eA t M m) l r (eA t M m (M.getD m 0) + 1) (eA t M m (M.getD m 0) + 1) := by
  unfold eA
  rw [take_snocL h, dn_snoc]
  unfold dn1
  rw [if_neg (by omega)]
  unfold lN rN
  rw [hl, hr, Int.toNat_natCast, Int.toNat_natCast]
  rfl
def mA (t : NL) (X : List Nat) (m : Nat) : Int := mostL t (fun _ => 0) (X.take m) 0
theorem mA_succ {t : NL} {X : List Nat} {m : Nat} (h : m < X.length) : mA t X (m + 1) = max (mA t X m) (eA t X m (X.getD m 0)) := by
  unfold mA eA
  rw [take_snocL h, most_snoc]
theorem mA_all {t : NL} (he : formE t = 0) : mA t (theL t 0) (theL t 0).length = hgtA t := by
  obtain ⟨-, hf⟩ := formE_ok he
  obtain ⟨hT, hN, -⟩ := theL_form hf
  obtain ⟨b, hb, -⟩ := hT.abs
  unfold mA
  rw [List.take_length, most_dep hT b _ _ hN hb, hgt_abs he hb]
  omega
theorem bitAux_zero : ∀ f : Nat, Lib.bitLenAux f 0 = 0
  | 0 => rfl
  | f + 1 => by simp [Lib.bitLenAux]
end Go.Proofs.Ythdfpddijocfkaa

namespace Go.Proofs.Ythdfpddijocfkaa

open Go.RowKit

attribute [local go_sem ↓] Go.wp_at_zero Go.wp_at_succ

theorem min_same (L : List Int) (a : Int) : ∀ m, (∀ i, i ≤ m → L.getD i 0 = a) → minN L m = a ∧ maxN L m = a
  | 0, h => ⟨h 0 (Nat.le_refl _), h 0 (Nat.le_refl _)⟩
  | m + 1, h => by
    obtain ⟨h1, h2⟩ := min_same L a m (fun i hi => h i (by omega))
    have h3 := h (m + 1) (Nat.le_refl _)
    unfold minN maxN
    rw [h1, h2, h3]
    omega
theorem even_yes {L : List Int} (hl : 0 < L.length) (h : ∀ i, i < L.length → L.getD i 0 = L.getD 0 0) : evB L = true ∧ evS L = L.getD 0 0 := by
  obtain ⟨h1, h2⟩ := min_same L _ (L.length - 1) (fun i hi => h i (by omega))
  unfold evB evS
  rw [if_neg (by omega), if_neg (by omega), h1, h2]
  simp
theorem even_no {L : List Int} {j : Nat} (hj : j < L.length) (h : L.getD j 0 ≠ L.getD 0 0) : evB L = false ∧ evS L = 0 := by
  have hn : ¬ minN L (L.length - 1) = maxN L (L.length - 1) := fun q => by
    have a1 := minN_le L (L.length - 1) j (by omega)
    have a2 := le_maxN L (L.length - 1) j (by omega)
    have b1 := minN_le L (L.length - 1) 0 (by omega)
    have b2 := le_maxN L (L.length - 1) 0 (by omega)
    omega
  unfold evB evS
  rw [if_neg (by omega), if_neg (by omega), if_neg hn]
  exact ⟨decide_eq_false hn, rfl⟩
theorem sums_len {t : NL} {k : Option BT} (hk : Keyed t k) : (sumsO k).length ≤ 100000 := by
  cases k with
  | none => simp [sumsO]
  | some B =>
    obtain ⟨-, -, -, h⟩ := hk
    have := inh_len sumF sumO sumO_len B 0
    show (sumsB B).length ≤ _
    unfold sumsB
    omega
/-- A place at which Sound finds nothing wrong. -/
def sdOk (t : NL) (M : List Nat) (i : Nat) : Bool := !((decide (i = 0) && (ndAt t (M.getD i 0)).wt != 1) || (lfB t (M.getD i 0) && decide ((ndAt t (M.getD i 0)).wt < 1)))
theorem light_no {K : NL} : ∀ m, (∀ i, i < m → lightB (ndAt K i) = false) → lightN K m = false
  | 0, _ => rfl
  | m + 1, h => by
    show (lightN K m || lightB (ndAt K m)) = false
    rw [light_no m (fun i hi => h i (by omega)), h m (by omega)]
    rfl
theorem light_yes {K : NL} {m i : Nat} (hi : i < m) (h : lightB (ndAt K i) = true) : lightN K m = true := by
  cases q : lightN K m
  · have := light_each m q i hi
    rw [this] at h
    cases h
  · rfl
/-- Sound, by places. -/
theorem snd_facts {t : NL} {k : Option BT} (he : keyE t = 0) (hev : evB (sumsO k) = true) :
    ((∀ i, i < (kpL t).length → sdOk t (kpL t) i = true) → sndB t k = true) ∧ (∀ i, i < (kpL t).length → sdOk t (kpL t) i = false → sndB t k = false) := by
  obtain ⟨-, -, hl⟩ := kp_ok he
  have hwt := form_wt (formE_ok (keyE_form he)).2
  have hlb : ∀ i, i < (kpL t).length → lightB (ndAt (keysA t) i) = (lfB t ((kpL t).getD i 0) && decide ((ndAt t ((kpL t).getD i 0)).wt < 1)) := fun i hi => by
    obtain ⟨k1, k2, -⟩ := key_at he hi
    have w := hwt ((kpL t).getD i 0)
    unfold lightB
    rw [k1, k2]
    congr 1
    by_cases q : (ndAt t ((kpL t).getD i 0)).wt = 0
    · rw [q]; rfl
    · rw [decide_eq_false (by omega)]
      simpa using q
  unfold sndB
  rw [if_neg (by simp [he])]
  by_cases h0 : (keysA t).length = 0
  · rw [if_pos h0]
    exact ⟨fun _ => rfl, fun i hi => by omega⟩
  rw [if_neg h0, hev]
  have k0 := (key_at he (i := 0) (by omega)).1
  refine ⟨fun h => ?_, fun i hi h => ?_⟩
  · have h00 := h 0 (by omega)
    unfold sdOk at h00
    rw [Bool.not_eq_true', Bool.or_eq_false_iff] at h00
    have h1 : (ndAt t ((kpL t).getD 0 0)).wt = 1 := by simpa using h00.1
    rw [light_no _ (fun i hi => by
      rw [hlb i (by omega)]
      have hh := h i (by omega)
      unfold sdOk at hh
      rw [Bool.not_eq_true', Bool.or_eq_false_iff] at hh
      exact hh.2), k0, h1]
    rfl
  · unfold sdOk at h
    rw [Bool.not_eq_false', Bool.or_eq_true] at h
    rcases h with h | h
    · rw [Bool.and_eq_true] at h
      have e : i = 0 := of_decide_eq_true h.1
      subst e
      have h2 : (ndAt t ((kpL t).getD 0 0)).wt ≠ 1 := by simpa using h.2
      have h3 : ((ndAt t ((kpL t).getD 0 0)).wt == 1) = false := by rw [beq_eq_false_iff_ne]; exact h2
      rw [k0, h3]
      rfl
    · rw [light_yes (m := (keysA t).length) (i := i) (by omega) (by rw [hlb i hi]; exact h)]
      simp
end Go.Proofs.Ythdfpddijocfkaa
