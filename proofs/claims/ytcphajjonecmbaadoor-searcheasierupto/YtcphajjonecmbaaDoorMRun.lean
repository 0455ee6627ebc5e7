
/- Layer 6: operations and answers in memory; the reference's Run. -/

import Derived.Test.YtcphajjonecmbaaDoorMS1

namespace Go.Proofs.YtcphajjonecmbaaDoor

open Go.RowKit

def opAt (ops : List OpD) (i : Nat) : OpD := ops.getD i ⟨0, 0, 0, 0⟩
def retAt (rs : List RetD) (i : Nat) : RetD := rs.getD i RetD.zero
theorem op_take (ops : List OpD) {j : Nat} (hj : j < ops.length) : ops.take (j + 1) = ops.take j ++ [opAt ops j] := by
  rw [List.take_add_one, List.getElem?_eq_getElem hj]
  simp [opAt, List.getD_eq_getElem?_getD, List.getElem?_eq_getElem hj]
theorem retAt_left (a b : List RetD) (i : Nat) (hi : i < a.length) : retAt (a ++ b) i = retAt a i := by
  simp [retAt, List.getD_eq_getElem?_getD, List.getElem?_append_left hi]
theorem retAt_last (a : List RetD) (r : RetD) : retAt (a ++ [r]) a.length = r := by
  simp [retAt, List.getD_eq_getElem?_getD]
/-- The operations lie in memory. -/
structure OpsAt (w : World) (base : Option Addr) (b o : Nat) (ops : List OpD) : Prop where
  base : ops.length ≠ 0 → base = some ⟨b, o, none⟩
  lt : ops.length ≠ 0 → b < w.heap.size
  cells : ∀ i, i < ops.length → w.cell? ⟨b, o + i * 4, none⟩ = some (.int .i64 (opAt ops i).kind) ∧ w.cell? ⟨b, o + i * 4 + 1, none⟩ = some (.int .i64 (opAt ops i).key) ∧ w.cell? ⟨b, o + i * 4 + 2, none⟩ = some (.int .i64 (opAt ops i).val) ∧ w.cell? ⟨b, o + i * 4 + 3, none⟩ = some (.int .i64 (opAt ops i).hi)
  len : ops.length ≤ maxLen
theorem OpsAt.below {w w' : World} {base : Option Addr} {b o : Nat} {ops : List OpD} (h : OpsAt w base b o ops) (hb : Below w.heap.size w w') : OpsAt w' base b o ops := by
  refine ⟨h.base, fun hn => Nat.lt_of_lt_of_le (h.lt hn) hb.size, fun i hi => ?_, h.len⟩
  have hl := h.lt (by omega)
  obtain ⟨c0, c1, c2, c3⟩ := h.cells i hi
  exact ⟨(hb.cell (p := ⟨b, o + i * 4, none⟩) hl).trans c0, (hb.cell (p := ⟨b, o + i * 4 + 1, none⟩) hl).trans c1, (hb.cell (p := ⟨b, o + i * 4 + 2, none⟩) hl).trans c2, (hb.cell (p := ⟨b, o + i * 4 + 3, none⟩) hl).trans c3⟩
/-- The answers lie in memory, with their pairs. -/
structure RetsAtM (w : World) (base : Option Addr) (b o : Nat) (rs : List RetD) : Prop where
  base : rs.length ≠ 0 → base = some ⟨b, o, none⟩
  lt : rs.length ≠ 0 → b < w.heap.size
  cells : ∀ i, i < rs.length → ∃ a g p c, w.cell? ⟨b, o + i * 4, none⟩ = some (.bool (retAt rs i).ok) ∧ w.cell? ⟨b, o + i * 4 + 1, none⟩ = some (.int .i64 (retAt rs i).key) ∧ w.cell? ⟨b, o + i * 4 + 2, none⟩ = some (.int .i64 (retAt rs i).val) ∧ w.cell? ⟨b, o + i * 4 + 3, none⟩ = some (.slice a (retAt rs i).pairs.length c) ∧ PairsAt w a g p (retAt rs i).pairs
  len : rs.length ≤ maxLen
theorem RetsAtM.below {w w' : World} {base : Option Addr} {b o : Nat} {rs : List RetD} (h : RetsAtM w base b o rs) (hb : Below w.heap.size w w') : RetsAtM w' base b o rs := by
  refine ⟨h.base, fun hn => Nat.lt_of_lt_of_le (h.lt hn) hb.size, fun i hi => ?_, h.len⟩
  have hl := h.lt (by omega)
  obtain ⟨a, g, p, c, c0, c1, c2, c3, hp⟩ := h.cells i hi
  exact ⟨a, g, p, c, (hb.cell (p := ⟨b, o + i * 4, none⟩) hl).trans c0, (hb.cell (p := ⟨b, o + i * 4 + 1, none⟩) hl).trans c1, (hb.cell (p := ⟨b, o + i * 4 + 2, none⟩) hl).trans c2, (hb.cell (p := ⟨b, o + i * 4 + 3, none⟩) hl).trans c3, hp.below hb⟩
theorem RetsAtM.nil (w : World) : RetsAtM w none 0 0 [] := ⟨fun h => absurd rfl h, fun h => absurd rfl h, fun i hi => by simp at hi, by simp⟩

/-- Are the first j kinds right? -/
def kN (ops : List OpD) : Nat → Bool
  | 0 => true
  | j + 1 => kN ops j && decide (kdErr (opAt ops j).kind = 0)
theorem kN_not {ops : List OpD} : ∀ {n j : Nat}, j < n → ¬ kdErr (opAt ops j).kind = 0 → kN ops n = false
  | 0, j, h, _ => by omega
  | n + 1, j, h, hk => by
    by_cases e : j = n
    · subst e; simp [kN, hk]
    · simp [kN, kN_not (n := n) (j := j) (by omega) hk]
theorem kN_at {ops : List OpD} {n j : Nat} (h : kN ops n = true) (hj : j < n) : kdErr (opAt ops j).kind = 0 := by
  by_cases q : kdErr (opAt ops j).kind = 0
  · exact q
  · rw [kN_not hj q] at h; cases h
/-- The error of a run; what is answered beside it. -/
def kErr (ops : List OpD) : Int := if kN ops ops.length then 0 else 5
def runErr (ps : PL) (ops : List OpD) : Int := if ckErr ps = 0 then kErr ops else 11
def runLd (ps : PL) (ops : List OpD) : PL := if runErr ps ops = 0 then runL ps ops else []
def runRd (ps : PL) (ops : List OpD) : List RetD := if runErr ps ops = 0 then runR ps ops else []
theorem ckErr_cases (ps : PL) : ckErr ps = 0 ∨ ckErr ps = 11 := by unfold ckErr; split <;> simp

/-- The cells of answers. -/
def retC (r : RetD) (u : Value) : List Value := [.bool r.ok, .int .i64 r.key, .int .i64 r.val, u]
def retsC : List RetD → List Value → List Value
  | r :: rs, u :: us => retC r u ++ retsC rs us
  | _, _ => []
theorem retsC_snoc (r : RetD) (u : Value) : ∀ (rs : List RetD) (us : List Value), us.length = rs.length → retsC (rs ++ [r]) (us ++ [u]) = retsC rs us ++ retC r u
  | [], [], _ => by simp [retsC]
  | r' :: rs, u' :: us, h => by
    simp only [List.cons_append, retsC, retsC_snoc r u rs us (by simpa using h), List.append_assoc]
  | [], _ :: _, h => by simp at h
  | _ :: _, [], h => by simp at h
theorem retsC_get : ∀ (rs : List RetD) (us : List Value) (i : Nat), us.length = rs.length → i < rs.length → (retsC rs us)[i * 4]? = some (.bool (retAt rs i).ok) ∧ (retsC rs us)[i * 4 + 1]? = some (.int .i64 (retAt rs i).key) ∧ (retsC rs us)[i * 4 + 2]? = some (.int .i64 (retAt rs i).val) ∧ (retsC rs us)[i * 4 + 3]? = us[i]?
  | [], _, i, _, h => by simp at h
  | _ :: _, [], _, h, _ => by simp at h
  | r :: rs, u :: us, 0, _, _ => by simp [retsC, retC, retAt]
  | r :: rs, u :: us, i + 1, h, hi => by
    obtain ⟨a, b, c, d⟩ := retsC_get rs us i (by simpa using h) (by simpa using hi)
    have e : (i + 1) * 4 = i * 4 + 1 + 1 + 1 + 1 := by omega
    rw [e]
    refine ⟨?_, ?_, ?_, ?_⟩
    · simpa [retsC, retC, retAt] using a
    · simpa [retsC, retC, retAt] using b
    · simpa [retsC, retC, retAt] using c
    · simpa [retsC, retC, retAt] using d
/-- The pairs of answers, none of them in block x. -/
structure RetsM (w : World) (B : Nat) (x : Option Nat) (rs : List RetD) (us : List Value) : Prop where
  len : us.length = rs.length
  pairs : ∀ i, i < rs.length → ∃ a g c, us[i]? = some (.slice a (retAt rs i).pairs.length c) ∧ PairsAt w a g 0 (retAt rs i).pairs ∧ ((retAt rs i).pairs.length ≠ 0 → B ≤ g ∧ x ≠ some g)
theorem PairsAt.grown {w w' : World} {a : Option Addr} {g o : Nat} {ps : PL} {x : Option Nat} (h : PairsAt w a g o ps) (hg : w.grownBy w' x) (hx : ps.length ≠ 0 → x ≠ some g) : PairsAt w' a g o ps := by
  refine ⟨h.base, fun hn => Nat.lt_of_lt_of_le (h.lt hn) hg.size, fun i hi => ?_, h.len, fun i hi => (hg.frozen_far ⟨g, _, none⟩ (h.lt (by omega)) (fun q => hx (by omega) q.symm)).trans (h.thaw i hi)⟩
  have hl := h.lt (by omega)
  have hk : ∀ p, w'.cell? ⟨g, p, none⟩ = w.cell? ⟨g, p, none⟩ := fun p => World.cell?_of_block (a := ⟨g, p, none⟩) (hg.block g hl (fun q => hx (by omega) q.symm))
  exact ⟨(hk _).trans (h.cells i hi).1, (hk _).trans (h.cells i hi).2⟩
theorem RetsM.below {w w' : World} {B : Nat} {x : Option Nat} {rs : List RetD} {us : List Value} (h : RetsM w B x rs us) (hb : Below w.heap.size w w') : RetsM w' B x rs us :=
  ⟨h.len, fun i hi => by obtain ⟨a, g, c, e, hp, hq⟩ := h.pairs i hi; exact ⟨a, g, c, e, hp.below hb, hq⟩⟩
theorem RetsM.snoc {w w' : World} {B : Nat} {x x' : Option Nat} {rs : List RetD} {us : List Value} {r : RetD} {u : Value} (h : RetsM w B x rs us) (hg : w.grownBy w' x) (hx : ∀ k, x' = some k → x = some k ∨ w.heap.size ≤ k) {C : Nat} (ho : OwnPM w C r.pairs u) (hC : B ≤ C) (hxC : ∀ k, x = some k → k < C) : RetsM w' B x' (rs ++ [r]) (us ++ [u]) := by
  have hfar : ∀ {g : Nat}, x ≠ some g → g < w.heap.size → x' ≠ some g := fun q ql e => by rcases hx _ e with e' | e' <;> first | exact q e' | omega
  refine ⟨by simp [h.len], fun i hi => ?_⟩
  by_cases hlt : i < rs.length
  · rw [retAt_left _ _ _ hlt]
    obtain ⟨a, g, c, e, hp, hq⟩ := h.pairs i hlt
    refine ⟨a, g, c, by rw [List.getElem?_append_left (by rw [h.len]; exact hlt)]; exact e, hp.grown hg (fun q => (hq q).2), fun q => ⟨(hq q).1, hfar (hq q).2 (hp.lt q)⟩⟩
  · obtain rfl : i = rs.length := by simp at hi; omega
    rw [retAt_last]
    obtain ⟨a, g, c, rfl, h1, hp, _⟩ := ho
    have hne : r.pairs.length ≠ 0 → x ≠ some g := fun q e => by have := h1 q; have := hxC _ e; omega
    refine ⟨a, g, c, by rw [← h.len]; simp, hp.grown hg hne, fun q => ⟨Nat.le_trans hC (h1 q), hfar (hne q) (hp.lt q)⟩⟩
theorem rets_of_owns {w : World} {B : Nat} {e : TypeId} {v : Value} {rs : List RetD} {us : List Value} {x : Option Nat} (h : w.ownsRow B e 4 v rs.length (retsC rs us)) (hm : RetsM w B x rs us) (hn : rs.length ≤ maxLen) :
    ∃ base cap g, v = .slice base rs.length cap ∧ RetsAtM w base g 0 rs := by
  obtain ⟨_, h⟩ := h
  rcases h with ⟨rfl, h0⟩ | ⟨g, cap, cur, rfl, hg, hh, h1, h2, h3, h4⟩
  · exact ⟨none, 0, 0, by rw [h0], fun h => absurd h0 h, fun h => absurd h0 h, fun i hi => by omega, hn⟩
  · refine ⟨_, _, g, rfl, fun _ => rfl, fun _ => (Array.getElem?_eq_some_iff.1 hh).1, fun i hi => ?_, hn⟩
    have hc : ∀ j, j < rs.length * 4 → w.cell? ⟨g, 0 + j, none⟩ = (retsC rs us)[j]? := by
      intro j hj
      rw [← h4, List.getElem?_take, if_pos hj, Nat.zero_add]
      simp [World.cell?, hh]
    obtain ⟨a, b, c, d⟩ := retsC_get rs us i hm.len hi
    obtain ⟨ap, gp, cp, eu, hp, _⟩ := hm.pairs i hi
    refine ⟨ap, gp, 0, cp, (hc _ (by omega)).trans a, ?_, ?_, ?_, hp⟩
    · exact (hc (i * 4 + 1) (by omega)).trans b
    · exact (hc (i * 4 + 2) (by omega)).trans c
    · exact (hc (i * 4 + 3) (by omega)).trans (d.trans eu)
theorem owns_belowM {w w' : World} {B sz : Nat} {e : TypeId} {v : Value} {n : Nat} {xs : List Value} (h : w.ownsRow B e sz v n xs) (hb : Below w.heap.size w w') : w'.ownsRow B e sz v n xs := by
  obtain ⟨h0, h⟩ := h
  rcases h with h | ⟨g, cap, cur, hv, hg, hh, h1, h2, h3, h4⟩
  · exact ⟨h0, Or.inl h⟩
  · have hl : g < w.heap.size := (Array.getElem?_eq_some_iff.1 hh).1
    exact ⟨h0, Or.inr ⟨g, cap, cur, hv, hg, by rw [hb.block g hl]; exact hh, h1, h2, h3, h4⟩⟩
theorem owns_ltM {w : World} {B sz : Nat} {e : TypeId} {v : Value} {n : Nat} {xs : List Value} (h : w.ownsRow B e sz v n xs) : ∀ b, v.ownBlock = some b → B ≤ b ∧ b < w.heap.size := by
  intro b hb
  obtain ⟨_, h⟩ := h
  rcases h with ⟨rfl, _⟩ | ⟨g, cap, cur, rfl, hg, hh, _⟩
  · cases hb
  · simp [Value.ownBlock] at hb
    subst hb
    exact ⟨hg, (Array.getElem?_eq_some_iff.1 hh).1⟩
theorem OwnPM.parts {w : World} {B : Nat} {ps : PL} {v : Value} (h : OwnPM w B ps v) : ∃ a g c, v = .slice a ps.length c ∧ PairsAt w a g 0 ps ∧ (a = none → ps.length = 0 ∧ c = 0) := by
  obtain ⟨a, g, c, e, _, hp, hn⟩ := h
  refine ⟨a, g, c, e, hp, fun q => ⟨?_, hn q⟩⟩
  by_cases z : ps.length = 0
  · exact z
  · have := hp.base z
    rw [q] at this
    cases this
theorem OwnPM.grown {w w' : World} {B : Nat} {ps : PL} {v : Value} {x : Option Nat} (h : OwnPM w B ps v) (hg : w.grownBy w' x) (hx : ∀ k, x = some k → k < B) : OwnPM w' B ps v := by
  obtain ⟨a, g, c, e, h1, hp, hn⟩ := h
  exact ⟨a, g, c, e, h1, hp.grown hg (fun q e => by have := h1 q; have := hx _ e; omega), hn⟩
theorem rt_info : (Tryd.prog.info? 45).map (fun i => (i.zero, i.size, i.bytes)) = some (some (.agg #[.bool false, .int .i64 0, .int .i64 0, .slice none 0 0]), 4, 48) := by kernel_rfl
theorem rts_under : Tryd.prog.underlying 34 = some (.slice 45) := by kernel_rfl
end Go.Proofs.YtcphajjonecmbaaDoor
