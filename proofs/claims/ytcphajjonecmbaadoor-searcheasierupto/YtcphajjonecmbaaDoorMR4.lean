
/- Layer 6: append of a slice that may be nil; lists of pairs of one's own; slices.Clone. -/

import Derived.Test.YtcphajjonecmbaaDoorMR3

import Derived.Lib.SmallJoins

import Derived.Shelf.SlicesE.Clone

namespace Go.Proofs.YtcphajjonecmbaaDoor

open Go.RowKit

theorem pairs_noneM (w : World) : PairsAt w none 0 0 [] := ⟨fun h => absurd rfl h, fun h => absurd rfl h, fun i hi => by simp at hi, by simp, fun i hi => by simp at hi⟩
theorem grown_reflM (w : World) (r : Option Nat) : w.grownBy w r := by constructor <;> simp

/-- append of a slice, nil or not, empty or not, to an own row. -/
theorem wpList_append_allM {P : Program} {w : World} {ops : Array Oper} {rest : List Oper} {o : Oper} {a : Act} {Q : Exit → Act → World → Prop} (hgd : o.guard = none) (s x : Operand) (t : TypeId)
    (ho : o.op = .call { callee := .builtin .append, args := #[s, x], argTypes := #[t, t] })
    (base : Nat) (e : TypeId) (i : TypeInfo) (z : Value) (size bytes : Nat) (ht : P.underlying t = some (.slice e)) (hi : P.info? e = some i) (hz : i.zero = some z)
    (hsize : i.size = size) (hby : i.bytes = bytes) (hzs : z.cells.size = size) (hsz : 0 < size)
    (v : Value) (n : Nat) (xs : List Value) (hs : a.eval s = v) (hown : w.ownsRow base e size v n xs)
    (sd : Option Addr) (m c : Nat) (news : List Value) (hx : a.eval x = .slice sd m c) (hnone : sd = none → m = 0 ∧ c = 0) (hl : news.length = m * size) (hnews : ∀ ad, sd = some ad → ∀ j u, news[j]? = some u → w.cell? (ad.add j) = some u) (h1 : ∀ u ∈ news, u.oneCell' = true)
    (h63 : n + m ≤ maxLen) (hbytes : (n + m) * bytes ≤ 140737488355328) (hbase : base ≤ w.heap.size)
    (h : ∀ v' w', w'.ownsRow base e size v' (n + m) (xs ++ news) → w.grownBy w' v.ownBlock → (v' = .slice none 0 0 ↔ v = .slice none 0 0 ∧ m = 0) → wpList P ops Q rest (a.put o.dst v') w') : wpList P ops Q (o :: rest) a w := by
  refine wpList_plain hgd fun K hK => ?_
  cases sd with
  | none =>
    obtain ⟨rfl, rfl⟩ := hnone rfl
    have hrun := run_append_owned_none (P := P) (w := w) base t o.type e i size ht hi v n xs hown
    obtain rfl : news = [] := List.length_eq_zero_iff.1 (by simpa using hl)
    unfold Oper.wp
    simp [execOp, ho, resolve, invoke, builtin, hs, hx, hrun, Result.andThen]
    exact hK _ _ (h v w (by simpa using hown) (grown_reflM _ _) (by simp))
  | some ad =>
    obtain ⟨v', w', hr, h2, h3, h4, _⟩ := run_append_own_at (P := P) w base t o.type e i z size bytes ht hi hz hsize hby hzs hsz v n xs hown ad m c news hl (hnews ad rfl) h1 h63 hbytes hbase
    unfold Oper.wp
    simp [execOp, ho, resolve, invoke, builtin, hs, hx, hr, Result.andThen]
    exact hK _ _ (h v' w' h2 h3 h4)


theorem pairCells_atM (ps : PL) (j : Nat) (u : Value) (h : (pairCells ps)[j]? = some u) : j / 2 < ps.length ∧ (j % 2 = 0 → u = .int .i64 (keyAt ps (j / 2))) ∧ (j % 2 = 1 → u = .int .i64 (valAt ps (j / 2))) := by
  have hl : j < ps.length * 2 := by
    obtain ⟨q, _⟩ := List.getElem?_eq_some_iff.1 h
    rwa [pairCells_length] at q
  have hj : j / 2 < ps.length := by omega
  obtain ⟨a, b⟩ := pairCells_get ps (j / 2) hj
  refine ⟨hj, fun e => ?_, fun e => ?_⟩
  · rw [show j / 2 * 2 = j by omega, h] at a; exact Option.some.inj a
  · rw [show j / 2 * 2 + 1 = j by omega, h] at b; exact Option.some.inj b
theorem addr_add'M (b o i : Nat) : (⟨b, o, none⟩ : Addr).add i = ⟨b, o + i, none⟩ := by
  unfold Addr.add
  by_cases h : i = 0 <;> simp [h]
theorem pairs_newsM {w : World} {base : Option Addr} {b o : Nat} {ps : PL} (h : PairsAt w base b o ps) : ∀ ad, base = some ad → ∀ j u, (pairCells ps)[j]? = some u → w.cell? (ad.add j) = some u := by
  intro ad had j u hu
  obtain ⟨hj, h0, h1⟩ := pairCells_atM ps j u hu
  have hb := h.base (by omega)
  rw [had] at hb
  cases hb
  rw [addr_add'M]
  obtain ⟨a, c⟩ := h.cells (j / 2) hj
  rcases Nat.mod_two_eq_zero_or_one j with e | e
  · rw [h0 e, ← a, show o + j / 2 * 2 = o + j by omega]
  · rw [h1 e, ← c, show o + j / 2 * 2 + 1 = o + j by omega]
theorem pairCells_oneM (ps : PL) : ∀ u ∈ pairCells ps, u.oneCell' = true := by
  induction ps with
  | nil => simp [pairCells]
  | cons p t ih => intro u hu; simp [pairCells] at hu; rcases hu with rfl | rfl | hu; rfl; rfl; exact ih u hu

theorem owned_pairsM {w : World} {B : Nat} {e : TypeId} {v : Value} {ps : PL} (h : w.ownsRow B e 2 v (0 + ps.length) ([] ++ pairCells ps)) (hv : v ≠ .slice none 0 0) :
    ∃ g cap, v = .slice (some ⟨g, 0, none⟩) ps.length cap ∧ B ≤ g ∧ g < w.heap.size ∧ (ps.length ≤ maxLen → PairsAt w (some ⟨g, 0, none⟩) g 0 ps) := by
  rw [Nat.zero_add, List.nil_append] at h
  obtain ⟨_, h⟩ := h
  rcases h with ⟨h, _⟩ | ⟨g, cap, cur, rfl, hg, hh, h1, h2, h3, h4⟩
  · exact absurd h hv
  · refine ⟨g, cap, rfl, hg, (Array.getElem?_eq_some_iff.1 hh).1, fun hn => ⟨fun _ => rfl, fun _ => (Array.getElem?_eq_some_iff.1 hh).1, fun i hi => ?_, hn, fun i hi => by simp [World.frozen?, hh]⟩⟩
    have hc : ∀ j, j < ps.length * 2 → w.cell? ⟨g, j, none⟩ = (pairCells ps)[j]? := by
      intro j hj
      rw [← h4, List.getElem?_take, if_pos hj]
      simp [World.cell?, hh]
    obtain ⟨a, b⟩ := pairCells_get ps i hi
    exact ⟨by rw [Nat.zero_add, hc _ (by omega)]; exact a, by rw [Nat.zero_add, hc _ (by omega)]; exact b⟩
theorem grown_cellsM {W w1 : World} {g : Nat} {n c : Nat} (h : W.grownBy w1 (Value.ownBlock (.slice (some ⟨g, 0, none⟩) n c))) : (∀ b o, b < W.heap.size → b ≠ g → w1.cell? ⟨b, o, none⟩ = W.cell? ⟨b, o, none⟩) ∧ (∀ b o, b < W.heap.size → b ≠ g → w1.frozen? ⟨b, o, none⟩ = W.frozen? ⟨b, o, none⟩) :=
  ⟨fun b o hb hn => h.cell_far ⟨b, o, none⟩ hb (fun q => hn (by simpa [Value.ownBlock] using q)), fun b o hb hn => h.frozen_far ⟨b, o, none⟩ hb (fun q => hn (by simpa [Value.ownBlock] using q))⟩

theorem PairsAt.apartM {w : World} {base : Option Addr} {b o : Nat} {ps : PL} (h : PairsAt w base b o ps) {g j : Nat} {v : Value} (hg : g < b) : PairsAt (w.setCell ⟨g, j, none⟩ v) base b o ps := by
  refine ⟨h.base, fun hn => by simpa using h.lt hn, fun i hi => ?_, h.len, fun i hi => by simpa using h.thaw i hi⟩
  exact ⟨by rw [World.cell?_setCell_other _ _ _ _ (fun q => by have := congrArg Addr.block q; simp at this; omega)]; exact (h.cells i hi).1, by rw [World.cell?_setCell_other _ _ _ _ (fun q => by have := congrArg Addr.block q; simp at this; omega)]; exact (h.cells i hi).2⟩
theorem PairsAt.apartM' {w : World} {base : Option Addr} {b o : Nat} {ps : PL} (h : PairsAt w base b o ps) {g j : Nat} {v : Value} (hg : g ≠ b) : PairsAt (w.setCell ⟨g, j, none⟩ v) base b o ps := by
  refine ⟨h.base, fun hn => by simpa using h.lt hn, fun i hi => ?_, h.len, fun i hi => by simpa using h.thaw i hi⟩
  exact ⟨by rw [World.cell?_setCell_other _ _ _ _ (fun q => hg (congrArg Addr.block q))]; exact (h.cells i hi).1, by rw [World.cell?_setCell_other _ _ _ _ (fun q => hg (congrArg Addr.block q))]; exact (h.cells i hi).2⟩
def OwnPM (w : World) (B : Nat) (ps : PL) (v : Value) : Prop := ∃ a g cap, v = .slice a ps.length cap ∧ (ps.length ≠ 0 → B ≤ g) ∧ PairsAt w a g 0 ps ∧ (a = none → cap = 0)
theorem OwnPM.below {w w' : World} {B : Nat} {ps : PL} {v : Value} (h : OwnPM w B ps v) (hb : Below w.heap.size w w') : OwnPM w' B ps v := by
  obtain ⟨a, g, cap, e, h1, h2, h3⟩ := h
  exact ⟨a, g, cap, e, h1, h2.below hb, h3⟩
theorem OwnPM.set {w : World} {B : Nat} {ps : PL} {v : Value} (h : OwnPM w B ps v) {g j : Nat} {u : Value} (hg : g < B) : OwnPM (w.setCell ⟨g, j, none⟩ u) B ps v := by
  obtain ⟨a, g', cap, e, h1, h2, h3⟩ := h
  refine ⟨a, g', cap, e, h1, ?_, h3⟩
  by_cases hn : ps.length = 0
  · exact ⟨fun q => absurd hn q, fun q => absurd hn q, fun i hi => by omega, h2.len, fun i hi => by omega⟩
  · exact h2.apartM' (by have := h1 hn; omega)
theorem OwnPM.down {w : World} {B B' : Nat} {ps : PL} {v : Value} (h : OwnPM w B ps v) (hB : B' ≤ B) : OwnPM w B' ps v := by
  obtain ⟨a, g, cap, e, h1, h2, h3⟩ := h
  exact ⟨a, g, cap, e, fun q => Nat.le_trans hB (h1 q), h2, h3⟩

set_option maxRecDepth 100000 in
set_option maxHeartbeats 1000000 in
theorem clone_anyM (bp : Option Addr) (gp op cp : Nat) (ps : PL) (w : World) (h : PairsAt w bp gp op ps) (hnil : bp = none → ps.length = 0 ∧ cp = 0) (hbig : ps.length * 16 ≤ 140737488355328) :
    Calls Tryd.prog 77 #[.slice bp ps.length cp] w fun e w' => ∃ v, e = .returned v ∧ OwnPM w' w.heap.size ps v ∧ Below w.heap.size w w' := by
  have hlen := h.len
  have qn : ∀ (w : World) (a : Option Addr) (n c n' c' : Nat), (binOp .eql 23 (.slice a n c) (.slice none n' c')).run Tryd.prog w = .ok (.bool a.isNone) w := fun w a n c n' c' => Lib.run_eql_slice_nil w _ _ a n c n' c' prs_underM
  cases bp with
  | none =>
    obtain ⟨h0, rfl⟩ := hnil rfl
    clear hnil h
    obtain rfl : ps = [] := List.length_eq_zero_iff.1 h0
    clear hlen h0 hbig
    show Calls Tryd.prog 77 #[.slice none 0 0] w _
    go_enter Tryd.func77, Tryd.ntmps77
    go_wp2_with fail
    go_ret
    exact ⟨_, rfl, ⟨none, 0, 0, rfl, fun h => absurd rfl h, ⟨fun h => absurd rfl h, fun h => absurd rfl h, fun i hi => by simp at hi, by simp, fun i hi => by simp at hi⟩, fun _ => rfl⟩, Below.refl _ _⟩
  | some ad =>
    obtain ⟨i0, hi0, hz0, hz1, hz2⟩ := info_parts pr_infoM
    have HA : Hid _ := h
    clear hnil h
    have ho : (w.alloc (.cells #[] 93)).ownsRow w.heap.size 93 2 (.slice (some ⟨w.heap.size, 0, none⟩) 0 0) 0 [] := ⟨rfl, Or.inr ⟨w.heap.size, 0, #[], rfl, Nat.le_refl _, heap_alloc_at _ _ _ rfl, Nat.le_refl _, by unfold maxLen; omega, rfl, rfl⟩⟩
    have HO : Hid (World.ownsRow _ _ _ _ _ _ _) := ho
    have hnews : ∀ a, some ad = some a → ∀ j u, (pairCells ps)[j]? = some u → (w.alloc (.cells #[] 93)).cell? (a.add j) = some u := pairs_newsM (HA.out.below (below_allocM _ _))
    have HW : Hid _ := hnews
    clear ho hnews
    go_enter Tryd.func77, Tryd.ntmps77
    go_wp2_with (first | (at_builtin; (refine wpList_append_allM (by rfl) _ _ _ (by rfl) w.heap.size 93 i0 _ 2 16 prs_underM hi0 hz0 hz1 hz2 rfl (by omega) _ 0 [] (by rfl) HO.out (some ad) ps.length cp (pairCells ps) (by rfl) (fun h => by cases h) (pairCells_length _) HW.out (pairCells_oneM _) (by omega) (by omega) (by simp) ?_); intro v' w1 hown1 hgrow hnl))
    go_ret
    obtain ⟨g, cap, rfl, hg, hgl, hpa⟩ := owned_pairsM hown1 (fun q => by cases (hnl.1 q).1)
    exact ⟨_, rfl, ⟨_, g, cap, rfl, fun _ => hg, hpa hlen, (fun q => by cases q)⟩, Below.grown (below_allocM _ _) hgrow (by simp) (by intro k hk; simp [Value.ownBlock] at hk; omega)⟩
end Go.Proofs.YtcphajjonecmbaaDoor
