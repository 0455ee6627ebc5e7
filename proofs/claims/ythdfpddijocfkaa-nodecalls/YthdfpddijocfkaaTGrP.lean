
/- Layer 16, pure: a tree grafted into another, however both are laid. -/

import Derived.Test.YthdfpddijocfkaaTBt

namespace Go.Proofs.Ythdfpddijocfkaa

/-- The tree from p on, with another one in the place of what stands at q. -/
inductive GraftR (t : NL) (q : Nat) (u : BT) : Nat → BT → Prop
  | here : GraftR t q u q u
  | leaf {p : Nat} : p ≠ q → p < t.length → (ndAt t p).l = -1 → (ndAt t p).r = -1 → GraftR t q u p (.leaf (ndP (ndAt t p)))
  | node {p l r : Nat} {a b : BT} : p ≠ q → p < t.length → (ndAt t p).l = (l : Int) → (ndAt t p).r = (r : Int) → GraftR t q u l a → GraftR t q u r b → GraftR t q u p (.node (ndP (ndAt t p)) a b)
theorem GraftR.det {t : NL} {q : Nat} {u : BT} {p : Nat} {b : BT} (h : GraftR t q u p b) : ∀ {b' : BT}, GraftR t q u p b' → b = b' := by
  induction h with
  | here =>
    intro b' h'
    cases h' with
    | here => rfl
    | leaf hn => exact absurd rfl hn
    | node hn => exact absurd rfl hn
  | leaf hn hp hl hr =>
    intro b' h'
    cases h' with
    | here => exact absurd rfl hn
    | leaf => rfl
    | node _ _ hl' => omega
  | node hn hp hl hr _ _ ih1 ih2 =>
    intro b' h'
    cases h' with
    | here => exact absurd rfl hn
    | leaf _ _ hl' => omega
    | node _ _ hl' hr' h1 h2 =>
      obtain rfl := Int.ofNat.inj (hl.symm.trans hl')
      obtain rfl := Int.ofNat.inj (hr.symm.trans hr')
      rw [ih1 h1, ih2 h2]
/-- Places renamed. -/
def Ren (u T : NL) (f : Nat → Nat) : Prop := ∀ x, x < u.length → f x < T.length ∧ ndP (ndAt T (f x)) = ndP (ndAt u x) ∧ ((ndAt u x).l = -1 → (ndAt u x).r = -1 → (ndAt T (f x)).l = -1 ∧ (ndAt T (f x)).r = -1) ∧ ∀ l r : Nat, (ndAt u x).l = (l : Int) → (ndAt u x).r = (r : Int) → (ndAt T (f x)).l = (f l : Int) ∧ (ndAt T (f x)).r = (f r : Int)
theorem ren_tree {u T : NL} {f : Nat → Nat} (hR : Ren u T f) {p : Nat} {M : List Nat} (h : Tree u p M) : Tree T (f p) (M.map f) := by
  induction h with
  | @leaf p hp hl hr =>
    obtain ⟨a, -, c, -⟩ := hR p hp
    exact Tree.leaf a (c hl hr).1 (c hl hr).2
  | @inner p l r L R hp hl hr _ _ ih1 ih2 =>
    obtain ⟨a, -, -, d⟩ := hR p hp
    rw [List.map_cons, List.map_append]
    exact Tree.inner a (d l r hl hr).1 (d l r hl hr).2 ih1 ih2
theorem ren_abs {u T : NL} {f : Nat → Nat} (hR : Ren u T f) {p : Nat} {b : BT} (h : Abs u p b) : Abs T (f p) b := by
  induction h with
  | @leaf p hp hl hr =>
    obtain ⟨a, e, c, -⟩ := hR p hp
    rw [← e]
    exact Abs.leaf a (c hl hr).1 (c hl hr).2
  | @node p l r x y hp hl hr _ _ ih1 ih2 =>
    obtain ⟨a, e, -, d⟩ := hR p hp
    rw [← e]
    exact Abs.node a (d l r hl hr).1 (d l r hl hr).2 ih1 ih2
/-- T is t, but that q' stands where q stood. -/
def Repl (t T : NL) (q q' : Nat) : Prop := ∀ p, p < t.length → p ≠ q → p < T.length ∧ ndP (ndAt T p) = ndP (ndAt t p) ∧ (ndAt T p).l = (if (ndAt t p).l = (q : Int) then (q' : Int) else (ndAt t p).l) ∧ (ndAt T p).r = (if (ndAt t p).r = (q : Int) then (q' : Int) else (ndAt t p).r)
def sig (q q' p : Nat) : Nat := if p = q then q' else p
theorem repl_tree {t T : NL} {q q' : Nat} (hR : Repl t T q q') {Lu : List Nat} {bu : BT} (hL : Tree T q' Lu) (hB : Abs T q' bu) {p : Nat} {M : List Nat} (h : Tree t p M) : M.Nodup →
    ∃ L b, Tree T (sig q q' p) L ∧ Abs T (sig q q' p) b ∧ GraftR t q bu p b ∧ ((q ∉ M ∧ L = M) ∨ ∃ A Mq B, M = A ++ (Mq ++ B) ∧ Tree t q Mq ∧ L = A ++ (Lu ++ B)) := by
  induction h with
  | @leaf p hp hl hr =>
    intro hN
    by_cases e : p = q
    · subst e
      have hs : sig p q' p = q' := if_pos rfl
      exact ⟨Lu, bu, by rw [hs]; exact hL, by rw [hs]; exact hB, GraftR.here, Or.inr ⟨[], [p], [], by simp, Tree.leaf hp hl hr, by simp⟩⟩
    · have hs : sig q q' p = p := if_neg e
      obtain ⟨a, b, c, d⟩ := hR p hp e
      rw [hl, if_neg (by omega)] at c
      rw [hr, if_neg (by omega)] at d
      rw [hs]
      exact ⟨[p], _, Tree.leaf a c d, Abs.leaf a c d, by rw [b]; exact GraftR.leaf e hp hl hr, Or.inl ⟨by simpa using Ne.symm e, rfl⟩⟩
  | @inner p l r M1 M2 hp hl hr t1 t2 ih1 ih2 =>
    intro hN
    by_cases e : p = q
    · subst e
      have hs : sig p q' p = q' := if_pos rfl
      exact ⟨Lu, bu, by rw [hs]; exact hL, by rw [hs]; exact hB, GraftR.here, Or.inr ⟨[], _, [], by simp, Tree.inner hp hl hr t1 t2, by simp⟩⟩
    · have hs : sig q q' p = p := if_neg e
      obtain ⟨a, b, c, d⟩ := hR p hp e
      have hc : (ndAt T p).l = ((sig q q' l : Nat) : Int) := by
        rw [c, hl]; unfold sig
        by_cases x : l = q
        · rw [if_pos (by omega), if_pos x]
        · rw [if_neg (by omega), if_neg x]
      have hd : (ndAt T p).r = ((sig q q' r : Nat) : Int) := by
        rw [d, hr]; unfold sig
        by_cases x : r = q
        · rw [if_pos (by omega), if_pos x]
        · rw [if_neg (by omega), if_neg x]
      rw [List.nodup_cons] at hN
      obtain ⟨hN0, hN⟩ := hN
      obtain ⟨hN1, hN2, hN3⟩ := List.nodup_append.1 hN
      obtain ⟨L1, b1, x1, y1, g1, o1⟩ := ih1 hN1
      obtain ⟨L2, b2, x2, y2, g2, o2⟩ := ih2 hN2
      rw [hs]
      refine ⟨p :: (L1 ++ L2), _, Tree.inner a hc hd x1 x2, Abs.node a hc hd y1 y2, by rw [b]; exact GraftR.node e hp hl hr g1 g2, ?_⟩
      have inq : ∀ {Mq : List Nat}, Tree t q Mq → q ∈ Mq := fun h => by obtain ⟨L', rfl⟩ := h.head; simp
      rcases o1 with ⟨n1, rfl⟩ | ⟨A1, Q1, B1, m1, k1, rfl⟩
      · rcases o2 with ⟨n2, rfl⟩ | ⟨A2, Q2, B2, m2, k2, rfl⟩
        · exact Or.inl ⟨by simp [n1, n2, Ne.symm e], rfl⟩
        · exact Or.inr ⟨p :: (L1 ++ A2), Q2, B2, by rw [m2]; simp, k2, by simp⟩
      · rcases o2 with ⟨n2, rfl⟩ | ⟨A2, Q2, B2, m2, k2, rfl⟩
        · exact Or.inr ⟨p :: A1, Q1, B1 ++ L2, by rw [m1]; simp, k1, by simp⟩
        · exact absurd rfl (hN3 q (by rw [m1]; simp [inq k1]) q (by rw [m2]; simp [inq k2]))
theorem repl_nodup {A B Mq Lu : List Nat} (h : (A ++ (Mq ++ B)).Nodup) (hu : Lu.Nodup) (h1 : ∀ x ∈ Lu, x ∉ A ∧ x ∉ B) : (A ++ (Lu ++ B)).Nodup := by
  obtain ⟨a, b, c⟩ := List.nodup_append.1 h
  obtain ⟨d, e, f⟩ := List.nodup_append.1 b
  refine List.nodup_append.2 ⟨a, List.nodup_append.2 ⟨hu, e, fun x hx y hy q => (h1 x hx).2 (q ▸ hy)⟩, fun x hx y hy q => ?_⟩
  rcases List.mem_append.1 hy with hy | hy
  · exact (h1 y hy).1 (q ▸ hx)
  · exact c x hx y (List.mem_append_right _ hy) q
theorem map_nodup {f : Nat → Nat} {M : List Nat} (hf : ∀ x y, x ∈ M → y ∈ M → f x = f y → x = y) (hM : M.Nodup) : (M.map f).Nodup := by
  induction M with
  | nil => simp
  | cons a M ih =>
    rw [List.nodup_cons] at hM
    rw [List.map_cons, List.nodup_cons]
    refine ⟨fun h => ?_, ih (fun x y hx hy => hf x y (List.mem_cons_of_mem _ hx) (List.mem_cons_of_mem _ hy)) hM.2⟩
    obtain ⟨x, hx, e⟩ := List.mem_map.1 h
    exact hM.1 (hf x a (List.mem_cons_of_mem _ hx) List.mem_cons_self e ▸ hx)
/-- A grafted tree, numbered from its root on. -/
theorem graft_lay {t u T : NL} {q q' : Nat} {f : Nat → Nat} (hf : InForm t) (hu : InForm u) (hq : q < t.length) (hR : Repl t T q q') (hf0 : f 0 = q') (hRn : Ren u T f) (hinj : ∀ x y, x < u.length → y < u.length → f x = f y → x = y) (hfar : ∀ x, x < u.length → f x = q ∨ t.length ≤ f x) (hz : q = 0 → q' = 0) :
    ∃ L b bu Mq, Tree T 0 L ∧ L.Nodup ∧ Abs u 0 bu ∧ GraftR t q bu 0 b ∧ partL T L = b.lay 0 ∧ L.length = b.size ∧ Tree t q Mq ∧ L.length + Mq.length = t.length + u.length := by
  obtain ⟨M, hM, hMN, hMl⟩ := hf.tree
  obtain ⟨N, hN, hNN, hNl⟩ := hu.tree
  obtain ⟨bu, hbu, -⟩ := hN.abs
  have hT := ren_tree hRn hN
  have hA := ren_abs hRn hbu
  rw [hf0] at hT hA
  have hLuN : (N.map f).Nodup := map_nodup (fun x y hx hy => hinj x y (hN.all x hx) (hN.all y hy)) hNN
  obtain ⟨L, b, x1, x2, x3, x4⟩ := repl_tree hR hT hA hM hMN
  have hs : sig q q' 0 = 0 := by
    unfold sig
    by_cases e : 0 = q
    · rw [if_pos e]; exact hz e.symm
    · rw [if_neg e]
  rw [hs] at x1 x2
  rcases x4 with ⟨n, -⟩ | ⟨A, Mq, B, m, k, rfl⟩
  · exact absurd (all_in hMN hM.all hMl q hq) n
  · have hqM : q ∈ Mq := by obtain ⟨L', rfl⟩ := k.head; simp
    have hAB : ∀ x ∈ N.map f, x ∉ A ∧ x ∉ B := by
      intro x hx
      obtain ⟨y, hy, rfl⟩ := List.mem_map.1 hx
      rw [m] at hMN
      obtain ⟨a, b', c⟩ := List.nodup_append.1 hMN
      obtain ⟨d, e, g⟩ := List.nodup_append.1 b'
      rcases hfar y (hN.all y hy) with h | h
      · rw [h]
        exact ⟨fun z => c q z q (List.mem_append_left _ hqM) rfl, fun z => g q hqM q z rfl⟩
      · exact ⟨fun z => by have := hM.all (f y) (by rw [m]; simp [z]); omega, fun z => by have := hM.all (f y) (by rw [m]; simp [z]); omega⟩
    have hLN : (A ++ (N.map f ++ B)).Nodup := repl_nodup (by rw [← m]; exact hMN) hLuN hAB
    obtain ⟨L', t1, t2⟩ := x2.tree
    refine ⟨_, b, bu, Mq, x1, hLN, hbu, x3, part_lay x1 hLN x2, by rw [x1.det t1]; exact t2, k, ?_⟩
    rw [← hMl, m, ← hNl]
    simp only [List.length_append, List.length_map]
    omega
def shiftD (k : Nat) (n : NdD) : NdD := if n.l = -1 then n else ⟨n.key, n.inf, n.wt, n.val, n.l + k, n.r + k⟩
def bothL (t u : NL) : NL := t ++ u.map (shiftD t.length)
theorem both_length (t u : NL) : (bothL t u).length = t.length + u.length := by simp [bothL]
theorem both_left (t u : NL) (p : Nat) (h : p < t.length) : ndAt (bothL t u) p = ndAt t p := by
  unfold ndAt bothL
  rw [List.getD_eq_getElem?_getD, List.getD_eq_getElem?_getD, List.getElem?_append_left h]
theorem both_right (t u : NL) (x : Nat) (h : x < u.length) : ndAt (bothL t u) (t.length + x) = shiftD t.length (ndAt u x) := by
  unfold ndAt bothL
  rw [List.getD_eq_getElem?_getD, List.getElem?_append_right (by omega), Nat.add_sub_cancel_left, List.getElem?_map, List.getElem?_eq_getElem h]
  simp [List.getD_eq_getElem?_getD, List.getElem?_eq_getElem h]
theorem shift_ren {u T : NL} {k : Nat} (h : ∀ x, x < u.length → k + x < T.length ∧ ndAt T (k + x) = shiftD k (ndAt u x)) : Ren u T (fun x => k + x) := by
  intro x hx
  obtain ⟨a, b⟩ := h x hx
  refine ⟨a, ?_, ?_, ?_⟩
  · rw [b]; unfold shiftD; split <;> rfl
  · intro hl hr
    rw [b]; unfold shiftD; rw [if_pos hl]; exact ⟨hl, hr⟩
  · intro l r hl hr
    rw [b]; unfold shiftD; rw [if_neg (by omega)]
    simp only [hl, hr]
    exact ⟨by omega, by omega⟩
end Go.Proofs.Ythdfpddijocfkaa
