
/- Layer 5: append of a slice that may be nil; the reference's CopyRet. -/

import Derived.Test.YtcphajjonecmbaaDoorERef1

import Derived.Deep.AppendLies

import Derived.Laws.OwnMore

namespace Go.Proofs.YtcphajjonecmbaaDoor

open Go.RowKit

attribute [local go_sem ↓] Go.wp_at_zero Go.wp_at_succ

theorem grown_refl (w : World) (r : Option Nat) : w.grownBy w r := by constructor <;> simp

/-- append of a slice, nil or not, empty or not, to an own row. -/
theorem wpList_append_all {P : Program} {w : World} {ops : Array Oper} {rest : List Oper} {o : Oper} {a : Act} {Q : Exit → Act → World → Prop} (hgd : o.guard = none) (s x : Operand) (t : TypeId)
    (ho : o.op = .call { callee := .builtin .append, args := #[s, x], argTypes := #[t, t] })
    (base : Nat) (e : TypeId) (i : TypeInfo) (z : Value) (size bytes : Nat) (ht : P.underlying t = some (.slice e)) (hi : P.info? e = some i) (hz : i.zero = some z)
    (hsize : i.size = size) (hby : i.bytes = bytes) (hzs : z.cells.size = size) (hsz : 0 < size)
    (v : Value) (n : Nat) (xs : List Value) (hs : a.eval s = v) (hown : w.ownsRow base e size v n xs)
    (sd : Option Addr) (m c : Nat) (news : List Value) (hx : a.eval x = .slice sd m c) (hnone : sd = none → m = 0 ∧ c = 0) (hl : news.length = m * size) (hnews : ∀ ad, sd = some ad → ∀ j u, news[j]? = some u → w.cell? (ad.add j) = some u) (h1 : ∀ u ∈ news, u.oneCell' = true)
    (h63 : n + m ≤ maxLen) (hbytes : (n + m) * bytes ≤ 140737488355328) (hbase : base ≤ w.heap.size)
    (h : ∀ v' w', w'.ownsRow base e size v' (n + m) (xs ++ news) → w.grownBy w' v.ownBlock → (v' = .slice none 0 0 ↔ v = .slice none 0 0 ∧ m = 0) → wpList P ops Q rest (a.put o.dst v') w') : wpList P ops Q (o :: rest) a w := by
  refine wpList_plain hgd fun K hK => ?_
  cases sd with
  | none =>
    obtain ⟨rfl, rfl⟩ := hnone rfl
    have hrun := run_append_owned_none (P := P) (w := w) base t o.type e i size ht hi v n xs hown
    obtain rfl : news = [] := List.length_eq_zero_iff.1 (by simpa using hl)
    unfold Oper.wp
    simp [execOp, ho, resolve, invoke, builtin, hs, hx, hrun, Result.andThen]
    exact hK _ _ (h v w (by simpa using hown) (grown_refl _ _) (by simp))
  | some ad =>
    obtain ⟨v', w', hr, h2, h3, h4, _⟩ := run_append_own_at (P := P) w base t o.type e i z size bytes ht hi hz hsize hby hzs hsz v n xs hown ad m c news hl (hnews ad rfl) h1 h63 hbytes hbase
    unfold Oper.wp
    simp [execOp, ho, resolve, invoke, builtin, hs, hx, hr, Result.andThen]
    exact hK _ _ (h v' w' h2 h3 h4)


theorem pairCells_at (ps : PL) (j : Nat) (u : Value) (h : (pairCells ps)[j]? = some u) : j / 2 < ps.length ∧ (j % 2 = 0 → u = .int .i64 (keyAt ps (j / 2))) ∧ (j % 2 = 1 → u = .int .i64 (valAt ps (j / 2))) := by
  have hl : j < ps.length * 2 := by
    obtain ⟨q, _⟩ := List.getElem?_eq_some_iff.1 h
    rwa [pairCells_length] at q
  have hj : j / 2 < ps.length := by omega
  obtain ⟨a, b⟩ := pairCells_get ps (j / 2) hj
  refine ⟨hj, fun e => ?_, fun e => ?_⟩
  · rw [show j / 2 * 2 = j by omega, h] at a; exact Option.some.inj a
  · rw [show j / 2 * 2 + 1 = j by omega, h] at b; exact Option.some.inj b
theorem addr_add' (b o i : Nat) : (⟨b, o, none⟩ : Addr).add i = ⟨b, o + i, none⟩ := by
  unfold Addr.add
  by_cases h : i = 0 <;> simp [h]
theorem pairs_news {w : World} {base : Option Addr} {b o : Nat} {ps : PL} (h : PairsAt w base b o ps) : ∀ ad, base = some ad → ∀ j u, (pairCells ps)[j]? = some u → w.cell? (ad.add j) = some u := by
  intro ad had j u hu
  obtain ⟨hj, h0, h1⟩ := pairCells_at ps j u hu
  have hb := h.base (by omega)
  rw [had] at hb
  cases hb
  rw [addr_add']
  obtain ⟨a, c⟩ := h.cells (j / 2) hj
  rcases Nat.mod_two_eq_zero_or_one j with e | e
  · rw [h0 e, ← a, show o + j / 2 * 2 = o + j by omega]
  · rw [h1 e, ← c, show o + j / 2 * 2 + 1 = o + j by omega]
theorem pairCells_one (ps : PL) : ∀ u ∈ pairCells ps, u.oneCell' = true := by
  induction ps with
  | nil => simp [pairCells]
  | cons p t ih => intro u hu; simp [pairCells] at hu; rcases hu with rfl | rfl | hu; rfl; rfl; exact ih u hu

theorem owned_pairs {w : World} {B : Nat} {e : TypeId} {v : Value} {ps : PL} (h : w.ownsRow B e 2 v (0 + ps.length) ([] ++ pairCells ps)) (hv : v ≠ .slice none 0 0) :
    ∃ g cap, v = .slice (some ⟨g, 0, none⟩) ps.length cap ∧ B ≤ g ∧ g < w.heap.size ∧ (ps.length ≤ maxLen → PairsAt w (some ⟨g, 0, none⟩) g 0 ps) := by
  rw [Nat.zero_add, List.nil_append] at h
  obtain ⟨_, h⟩ := h
  rcases h with ⟨h, _⟩ | ⟨g, cap, cur, rfl, hg, hh, h1, h2, h3, h4⟩
  · exact absurd h hv
  · refine ⟨g, cap, rfl, hg, (Array.getElem?_eq_some_iff.1 hh).1, fun hn => ⟨fun _ => rfl, fun _ => (Array.getElem?_eq_some_iff.1 hh).1, fun i hi => ?_, hn, fun i hi => by simp [World.frozen?, hh]⟩⟩
    have hc : ∀ j, j < ps.length * 2 → w.cell? ⟨g, j, none⟩ = (pairCells ps)[j]? := by
      intro j hj
      rw [← h4, List.getElem?_take, if_pos hj]
      simp [World.cell?, hh]
    obtain ⟨a, b⟩ := pairCells_get ps i hi
    exact ⟨by rw [Nat.zero_add, hc _ (by omega)]; exact a, by rw [Nat.zero_add, hc _ (by omega)]; exact b⟩
theorem grown_cells {W w1 : World} {g : Nat} {n c : Nat} (h : W.grownBy w1 (Value.ownBlock (.slice (some ⟨g, 0, none⟩) n c))) : (∀ b o, b < W.heap.size → b ≠ g → w1.cell? ⟨b, o, none⟩ = W.cell? ⟨b, o, none⟩) ∧ (∀ b o, b < W.heap.size → b ≠ g → w1.frozen? ⟨b, o, none⟩ = W.frozen? ⟨b, o, none⟩) :=
  ⟨fun b o hb hn => h.cell_far ⟨b, o, none⟩ hb (fun q => hn (by simpa [Value.ownBlock] using q)), fun b o hb hn => h.frozen_far ⟨b, o, none⟩ hb (fun q => hn (by simpa [Value.ownBlock] using q))⟩

theorem PairsAt.apart {w : World} {base : Option Addr} {b o : Nat} {ps : PL} (h : PairsAt w base b o ps) {g j : Nat} {v : Value} (hg : g < b) : PairsAt (w.setCell ⟨g, j, none⟩ v) base b o ps := by
  refine ⟨h.base, fun hn => by simpa using h.lt hn, fun i hi => ?_, h.len, fun i hi => by simpa using h.thaw i hi⟩
  exact ⟨by rw [World.cell?_setCell_other _ _ _ _ (fun q => by have := congrArg Addr.block q; simp at this; omega)]; exact (h.cells i hi).1, by rw [World.cell?_setCell_other _ _ _ _ (fun q => by have := congrArg Addr.block q; simp at this; omega)]; exact (h.cells i hi).2⟩
theorem three_cells {w w1 : World} {A B C : Obj} {n c : Nat} (h : (((w.alloc A).alloc B).alloc C).grownBy w1 (Value.ownBlock (.slice (some ⟨w.heap.size + 1 + 1, 0, none⟩) n c))) :
    (∀ o, w1.cell? ⟨w.heap.size, o, none⟩ = (w.alloc A).cell? ⟨w.heap.size, o, none⟩) ∧ (∀ o, w1.frozen? ⟨w.heap.size, o, none⟩ = (w.alloc A).frozen? ⟨w.heap.size, o, none⟩) ∧
    (∀ o, w1.cell? ⟨w.heap.size + 1, o, none⟩ = ((w.alloc A).alloc B).cell? ⟨w.heap.size + 1, o, none⟩) ∧ (∀ o, w1.frozen? ⟨w.heap.size + 1, o, none⟩ = ((w.alloc A).alloc B).frozen? ⟨w.heap.size + 1, o, none⟩) := by
  obtain ⟨hc, hf⟩ := grown_cells h
  have b1 : Below (w.alloc A).heap.size (w.alloc A) (((w.alloc A).alloc B).alloc C) := (below_alloc _ _).alloc (by simp) _
  have b2 : Below ((w.alloc A).alloc B).heap.size ((w.alloc A).alloc B) (((w.alloc A).alloc B).alloc C) := below_alloc _ _
  refine ⟨fun o => (hc _ _ (by simp; omega) (by omega)).trans (b1.cell (p := ⟨w.heap.size, o, none⟩) (by simp)), fun o => (hf _ _ (by simp; omega) (by omega)).trans (b1.frozen (p := ⟨w.heap.size, o, none⟩) (by simp)), fun o => (hc _ _ (by simp) (by omega)).trans (b2.cell (p := ⟨w.heap.size + 1, o, none⟩) (by simp)), fun o => (hf _ _ (by simp) (by omega)).trans (b2.frozen (p := ⟨w.heap.size + 1, o, none⟩) (by simp))⟩

set_option maxRecDepth 100000 in
set_option maxHeartbeats 1000000 in
theorem copyRet_any (bp : Option Addr) (gp op cp : Nat) (r : RetD) (w : World) (h : PairsAt w bp gp op r.pairs) (hnil : bp = none → r.pairs.length = 0 ∧ cp = 0) (hbig : r.pairs.length * 16 ≤ 140737488355328) :
    Calls Tryd.prog 72 #[.agg #[.bool r.ok, .int .i64 r.key, .int .i64 r.val, .slice bp r.pairs.length cp]] w fun e w' => ∃ g cap, e = .returned (.agg #[.bool r.ok, .int .i64 r.key, .int .i64 r.val, .slice (some ⟨g, 0, none⟩) r.pairs.length cap]) ∧ w.heap.size ≤ g ∧ g < w'.heap.size ∧ PairsAt w' (some ⟨g, 0, none⟩) g 0 r.pairs ∧ Below w.heap.size w w' := by
  obtain ⟨i0, hi0, hz0, hz1, hz2⟩ := info_parts pr_info
  have hlen := h.len
  have HA : Hid _ := h
  have HN : Hid _ := hnil
  clear h hnil
  have ho : ∀ (A B : Obj), (((w.alloc A).alloc B).alloc (.cells #[] 93)).ownsRow (w.heap.size + 2) 93 2 (.slice (some ⟨w.heap.size + 1 + 1, 0, none⟩) 0 0) 0 [] := fun A B => ⟨rfl, Or.inr ⟨w.heap.size + 1 + 1, 0, #[], rfl, by omega, heap_alloc_at _ _ _ (by simp), Nat.le_refl _, by unfold maxLen; omega, rfl, rfl⟩⟩
  have HO : Hid _ := ho
  have hnews : ∀ (A B C : Obj), ∀ ad, bp = some ad → ∀ j u, (pairCells r.pairs)[j]? = some u → (((w.alloc A).alloc B).alloc C).cell? (ad.add j) = some u := fun A B C => pairs_news (HA.out.below (((below_alloc _ _).alloc (by simp) _).alloc (by simp; omega) _))
  have HW : Hid _ := hnews
  clear ho hnews
  go_enter Tryd.func72, Tryd.ntmps72
  go_wp2_with (first | (at_builtin; go_must (refine wpList_append_all (by rfl) _ _ _ (by rfl) (w.heap.size + 2) 93 i0 _ 2 16 prs_under hi0 hz0 hz1 hz2 rfl (by omega) _ 0 [] (by rfl) (HO.out _ _) bp r.pairs.length cp (pairCells r.pairs) (by rfl) HN.out (pairCells_length _) (HW.out _ _ _) (pairCells_one _) (by omega) (by omega) (by simp) ?_); intro v' w1 hown1 hgrow hnl; obtain ⟨g, cap, rfl, hg, hgl, hpa⟩ := owned_pairs hown1 (fun q => by cases (hnl.1 q).1); obtain ⟨q0, q1, q2, q3⟩ := three_cells hgrow; have HG : Hid _ := hgrow; clear hgrow))
  have P1 := hpa hlen
  have B1 : Below w.heap.size w w1 := Below.grown (((below_alloc _ _).alloc (by simp) _).alloc (by simp; omega) _) HG.out (by simp; omega) (by intro k hk; simp [Value.ownBlock] at hk; omega)
  refine bodyPost_ret (v := .agg #[.bool r.ok, .int .i64 r.key, .int .i64 r.val, .slice (some ⟨g, 0, none⟩) r.pairs.length cap]) (by simp [results, Tryd.results72, go_sem, q2]) rfl ⟨g, cap, rfl, by omega, by simpa using hgl, ?_, ?_⟩
  · repeat (refine PairsAt.apart ?_ (by omega))
    exact P1
  · repeat (refine Below.setCell ?_ (by simp) _)
    exact B1
end Go.Proofs.YtcphajjonecmbaaDoor
