/- Layer 2: the reference's Bad, kinds and Copy. -/
import Derived.Test.YtlbfkgecckdlgaaCNums2
import Derived.Test.YtlbfkgecckdlgaaCRef
import Derived.Deep.AppendLies
import Derived.Laws.OwnMore
namespace Go.Proofs.Ytlbfkgecckdlgaa
open Go.RowKit

theorem grown_refl (w : World) (r : Option Nat) : w.grownBy w r := by constructor <;> simp

/-- append of a slice, nil or not, empty or not, to an own row. -/
theorem wpList_append_all {P : Program} {w : World} {ops : Array Oper} {rest : List Oper} {o : Oper} {a : Act} {Q : Exit → Act → World → Prop} (hgd : o.guard = none) (s x : Operand) (t : TypeId)
    (ho : o.op = .call { callee := .builtin .append, args := #[s, x], argTypes := #[t, t] })
    (base : Nat) (e : TypeId) (i : TypeInfo) (z : Value) (size bytes : Nat) (ht : P.underlying t = some (.slice e)) (hi : P.info? e = some i) (hz : i.zero = some z)
    (hsize : i.size = size) (hby : i.bytes = bytes) (hzs : z.cells.size = size) (hsz : 0 < size)
    (v : Value) (n : Nat) (xs : List Value) (hs : a.eval s = v) (hown : w.ownsRow base e size v n xs)
    (sd : Option Addr) (m c : Nat) (news : List Value) (hx : a.eval x = .slice sd m c) (hnone : sd = none → m = 0 ∧ c = 0) (hl : news.length = m * size) (hnews : ∀ ad, sd = some ad → ∀ j u, news[j]? = some u → w.cell? (ad.add j) = some u) (h1 : ∀ u ∈ news, u.oneCell' = true)
    (h63 : n + m ≤ maxLen) (hbytes : (n + m) * bytes ≤ 140737488355328) (hbase : base ≤ w.heap.size)
    (h : ∀ v' w', w'.ownsRow base e size v' (n + m) (xs ++ news) → w.grownBy w' v.ownBlock → (v' = .slice none 0 0 ↔ v = .slice none 0 0 ∧ m = 0) → wpList P ops Q rest (a.put o.dst v') w') : wpList P ops Q (o :: rest) a w := by
  refine wpList_plain hgd fun K hK => ?_
  cases sd with
  | none =>
    obtain ⟨rfl, rfl⟩ := hnone rfl
    have hrun := run_append_owned_none (P := P) (w := w) base t o.type e i size ht hi v n xs hown
    obtain rfl : news = [] := List.length_eq_zero_iff.1 (by simpa using hl)
    unfold Oper.wp
    simp [execOp, ho, resolve, invoke, builtin, hs, hx, hrun, Result.andThen]
    exact hK _ _ (h v w (by simpa using hown) (grown_refl _ _) (by simp))
  | some ad =>
    obtain ⟨v', w', hr, h2, h3, h4, _⟩ := run_append_own_at (P := P) w base t o.type e i z size bytes ht hi hz hsize hby hzs hsz v n xs hown ad m c news hl (hnews ad rfl) h1 h63 hbytes hbase
    unfold Oper.wp
    simp [execOp, ho, resolve, invoke, builtin, hs, hx, hr, Result.andThen]
    exact hK _ _ (h v' w' h2 h3 h4)

theorem owns_ints {w : World} {B n : Nat} {v : Value} {f : Nat → Int} (h : w.ownsRow B 3 1 v n ((List.range n).map fun j => .int .i64 (f j))) (hv : v ≠ .slice none 0 0) : ∃ g c, v = .slice (some ⟨g, 0, none⟩) n c ∧ B ≤ g ∧ g < w.heap.size ∧ IntsTo w g n n f := by
  obtain ⟨hl, h⟩ := h
  rcases h with ⟨rfl, _⟩ | ⟨g, cap, cur, rfl, hg, hh, h1, h2, h3, h4⟩
  · exact absurd rfl hv
  · refine ⟨g, cap, rfl, hg, (Array.getElem?_eq_some_iff.1 hh).1, fun j hj => ?_⟩
    have e : (cur.toList.take (n * 1))[j]? = some (.int .i64 (f j)) := by rw [h4]; simp [hj]
    rw [List.getElem?_take, if_pos (by omega)] at e
    refine ⟨?_, ?_⟩
    · rw [if_pos hj, ← e]; simp [World.cell?, hh]
    · simp [World.frozen?, hh]

set_option maxRecDepth 100000 in
set_option maxHeartbeats 1000000 in
theorem copy_any (b o n c : Nat) (x : Option Addr) (f : Nat → Int) (w : World) (h : NumsAt w x b o n f) (hx : x = none → n = 0 ∧ c = 0) (hn : n * 8 ≤ 140737488355328) :
    Calls Try.prog 49 #[.slice x n c] w fun e w' => ∃ g cap, e = .returned (.slice (some ⟨g, 0, none⟩) n cap) ∧ w.heap.size ≤ g ∧ g < w'.heap.size ∧ IntsTo w' g n n f ∧ Below w.heap.size w w' := by
  obtain ⟨i0, hi0, hz0, hz1, hz2⟩ := info_parts int_info
  have hB : Below w.heap.size w (w.alloc (.cells #[] 3)) := (Below.refl _ _).alloc (Nat.le_refl _) _
  have ho : (w.alloc (.cells #[] 3)).ownsRow w.heap.size 3 1 (.slice (some ⟨w.heap.size, 0, none⟩) 0 0) 0 [] := ⟨rfl, Or.inr ⟨w.heap.size, 0, #[], rfl, Nat.le_refl _, heap_alloc_at _ _ _ rfl, Nat.le_refl _, by unfold maxLen; omega, rfl, rfl⟩⟩
  have hnews : ∀ ad, x = some ad → ∀ j u, ((List.range n).map fun j => Value.int .i64 (f j))[j]? = some u → (w.alloc (.cells #[] 3)).cell? (ad.add j) = some u := by
    intro ad hxa j u hu
    have hj : j < n := by
      have := List.getElem?_eq_some_iff.1 hu
      obtain ⟨q, _⟩ := this
      simpa using q
    have h0 := (h.below hB).base (by omega)
    rw [hxa] at h0
    cases h0
    have := (h.below hB).cells j hj
    rw [List.getElem?_map, List.getElem?_range hj] at hu
    simp at hu
    rw [← hu]
    unfold Addr.add
    split
    · rename_i q; subst q; simpa using this
    · exact this
  have HO : Hid (World.ownsRow _ _ _ _ _ _ _) := ho
  have HN : Hid _ := hnews
  have hlen := h.len
  clear ho hnews
  go_enter Try.func49, Try.ntmps49
  go_wp2_with (first | (at_builtin; (refine wpList_append_all (by rfl) _ _ _ (by rfl) w.heap.size 3 i0 _ 1 8 ints_under hi0 hz0 hz1 hz2 rfl (by omega) _ 0 [] (by rfl) HO.out x n c ((List.range n).map fun j => Value.int .i64 (f j)) (by rfl) hx (by simp) HN.out (by simp [Value.oneCell']) (by omega) (by omega) (by simp) ?_); intro v' w1 hown1 hgrow hnil))
  go_ret
  have hown2 : w1.ownsRow w.heap.size 3 1 v' n ((List.range n).map fun j => Value.int .i64 (f j)) := by simpa using hown1
  obtain ⟨g, cap, rfl, q1, q2, q3⟩ := owns_ints hown2 (fun e => by have := hnil.1 e; cases this.1)
  refine ⟨g, cap, rfl, q1, q2, q3, ?_⟩
  exact Below.grown hB hgrow (by simp) (by intro b hb; simp [Value.ownBlock] at hb; omega)
end Go.Proofs.Ytlbfkgecckdlgaa
