
/- Layer 17: the document's example. -/

import Derived.Test.YthdfpddijocfkaaWSame

import Derived.Test.YthdfpddijocfkaaWHv

namespace Go.Proofs.Ythdfpddijocfkaa

open Go.RowKit

attribute [local go_sem ↓] Go.wp_at_zero Go.wp_at_succ

/-- The document's example with these weights. -/
def aB (p q r : Int) : BT := .node ⟨0, 1, 1, 0⟩ (.node ⟨0, 1, 1, 0⟩ (.node ⟨7, 0, p, 0⟩ (.leaf ⟨5, 0, q, 0⟩) (.leaf ⟨7, 0, r, 0⟩)) (.leaf ⟨0, 1, 1, 0⟩)) (.leaf ⟨0, 1, 1, 0⟩)
def aT (p q r : Int) : NL := [⟨0, 1, 1, 0, 1, 6⟩, ⟨0, 1, 1, 0, 2, 5⟩, ⟨7, 0, p, 0, 3, 4⟩, ⟨5, 0, q, 0, -1, -1⟩, ⟨7, 0, r, 0, -1, -1⟩, ⟨0, 1, 1, 0, -1, -1⟩, ⟨0, 1, 1, 0, -1, -1⟩]
def kB (p q r : Int) : BT := .node ⟨2, 0, p, 0⟩ (.leaf ⟨3, 0, q, 0⟩) (.leaf ⟨4, 0, r, 0⟩)
theorem a_lay (p q r : Int) : (aB p q r).lay 0 = aT p q r := rfl
def Wt (p : Int) : Prop := 0 ≤ p ∧ p ≤ 1000000
theorem aB_ok {p q r : Int} (hp : Wt p) (hq : Wt q) (hr : Wt r) : (aB p q r).ok := by
  have one : PD.ok ⟨0, 1, 1, 0⟩ := ⟨Or.inr ⟨rfl, rfl, rfl⟩, by decide, by decide⟩
  exact ⟨one, rfl, ⟨one, rfl, ⟨⟨Or.inl rfl, hp⟩, rfl, ⟨Or.inl rfl, hq⟩, ⟨Or.inl rfl, hr⟩⟩, one⟩, one⟩
theorem a_form {p q r : Int} (hp : Wt p) (hq : Wt q) (hr : Wt r) : formE (aT p q r) = 0 := by
  rw [← a_lay]
  exact lay_formE (aB_ok hp hq hr) (by show 7 ≤ 100000; omega)
theorem a_tree (p q r : Int) : Tree (aT p q r) 2 (2 :: ([3] ++ [4])) :=
  Tree.inner (l := 3) (r := 4) (by show 2 < 7; omega) rfl rfl (Tree.leaf (by show 3 < 7; omega) rfl rfl) (Tree.leaf (by show 4 < 7; omega) rfl rfl)
theorem a_root {p q r : Int} (hp : Wt p) (hq : Wt q) (hr : Wt r) : rootR (aT p q r) = (2, 0) := by
  have e1 : archB (aT p q r) 0 = true := rfl
  have e2 : endB (ndAt (aT p q r) 1) = false := rfl
  have e3 : archB (aT p q r) 1 = true := rfl
  have l0 : (ndAt (aT p q r) 0).l.toNat = 1 := rfl
  have l1 : (ndAt (aT p q r) 1).l = 2 := rfl
  unfold rootR
  rw [if_neg (by simp [a_form hp hq hr]), if_neg (by simp [e1]), l0, if_neg (by simp [e2]), if_neg (by simp [e3]), l1]
  rw [if_pos]
  have : theL (aT p q r) (2 : Int).toNat = 2 :: ([3] ++ [4]) := theL_of (a_tree p q r)
  rw [this]
  intro x hx
  simp at hx
  rcases hx with rfl | rfl | rfl <;> rfl
theorem a_keyed {p q r : Int} (hp : Wt p) (hq : Wt q) (hr : Wt r) : keyE (aT p q r) = 0 ∧ keysA (aT p q r) = (kB p q r).lay 0 ∧ (kB p q r).ok ∧ (kB p q r).size ≤ 100000 := by
  have hR := a_root hp hq hr
  have h2 : (rootR (aT p q r)).2 = 0 := by rw [hR]
  obtain ⟨x, b, hx, -, hb, hk, h5, h6⟩ := keys_lay h2
  have : x = 2 := by rw [hR] at hx; have := congrArg Prod.fst hx; simp only at this; omega
  subst this
  have n2 : ndAt (namL (aT p q r)) 2 = ⟨2, 0, p, 0, 3, 4⟩ := by rw [namL_at _ _ (by show 2 < 7; omega)]; rfl
  have n3 : ndAt (namL (aT p q r)) 3 = ⟨3, 0, q, 0, -1, -1⟩ := by rw [namL_at _ _ (by show 3 < 7; omega)]; rfl
  have n4 : ndAt (namL (aT p q r)) 4 = ⟨4, 0, r, 0, -1, -1⟩ := by rw [namL_at _ _ (by show 4 < 7; omega)]; rfl
  have hl : (namL (aT p q r)).length = 7 := by rw [namL_length]; rfl
  have a3 : Abs (namL (aT p q r)) 3 (.leaf ⟨3, 0, q, 0⟩) := by
    have := Abs.leaf (t := namL (aT p q r)) (p := 3) (by omega) (by rw [n3]) (by rw [n3])
    rw [n3] at this
    exact this
  have a4 : Abs (namL (aT p q r)) 4 (.leaf ⟨4, 0, r, 0⟩) := by
    have := Abs.leaf (t := namL (aT p q r)) (p := 4) (by omega) (by rw [n4]) (by rw [n4])
    rw [n4] at this
    exact this
  have a2 : Abs (namL (aT p q r)) 2 (kB p q r) := by
    have := Abs.node (t := namL (aT p q r)) (p := 2) (l := 3) (r := 4) (by omega) (by rw [n2]; rfl) (by rw [n2]; rfl) a3 a4
    rw [n2] at this
    exact this
  have e := hb.det a2
  subst e
  exact ⟨by unfold keyE; rw [if_neg (by omega), h2], hk, h5, h6⟩
theorem a_norm {p q r : Int} (hp : Wt p) (hq : Wt q) (hr : Wt r) : normL (aT p q r) = aT p q r := by
  have he := a_form hp hq hr
  obtain ⟨-, hf⟩ := formE_ok he
  obtain ⟨h1, h2, -⟩ := theL_form hf
  rw [normL_ok he]
  have := part_lay h1 h2 (lay_abs0 (aB p q r))
  rw [a_lay] at this
  exact this
theorem one_wt : Wt 1 := ⟨by decide, by decide⟩
theorem zero_wt : Wt 0 := ⟨by decide, by decide⟩
theorem three_wt : Wt 3 := ⟨by decide, by decide⟩
theorem a_sums : sumsO (some (kB 1 1 1)) = [2, 2] := rfl
theorem a_heavyE : heavyE (aT 1 1 1) [0, 0, 3] = 0 := by
  obtain ⟨h1, h2, -, -⟩ := a_keyed one_wt one_wt one_wt
  unfold heavyE
  rw [if_neg (by simp [h1]), h2, if_neg (by decide)]
theorem a_heavyA : heavyA (aT 1 1 1) [0, 0, 3] = aT 0 0 3 := by
  unfold heavyA
  rw [if_pos a_heavyE, a_norm one_wt one_wt one_wt]
  rfl
theorem a_vio : vioO (some (kB 0 0 3)) = 3 := by decide
theorem a_way : Way (aT 0 0 3) 9 0 [0, 1, 2, 4] :=
  Way.inner (l := 1) (r := 6) (q := 1) (by decide) rfl rfl (by rw [if_pos]; exact Or.inl rfl)
    (Way.inner (l := 2) (r := 5) (q := 2) (by decide) rfl rfl (by rw [if_pos]; exact Or.inl rfl)
      (Way.inner (l := 3) (r := 4) (q := 4) (by decide) rfl rfl (by rw [if_neg]; unfold goesL; decide)
        (Way.leaf (by decide) rfl rfl)))
theorem a_first : firstA (aT 0 0 3) 9 = 4 := by
  unfold firstA
  rw [if_pos (a_keyed zero_wt zero_wt three_wt).1, wayL_of (a_form zero_wt zero_wt three_wt) a_way]
  decide
end Go.Proofs.Ythdfpddijocfkaa
