/- Layer 6: the law's copied and few; what Do says. -/
import Derived.Test.YtjpfgfcggekklaaMG15
import Derived.Test.YtjpfgfcggekklaaMRun2
import Derived.Test.YtjpfgfcggekklaaMSame
namespace Go.Proofs.Ytjpfgfcggekklaa
open Go.RowKit

set_option maxRecDepth 100000 in
set_option maxHeartbeats 1000000 in
theorem copied_any (bp : Option Addr) (gp op cp : Nat) (ps : PL) (w : World) (h : PairsAt w bp gp op ps) (hnil : NilOk bp ps.length cp) (hbig : ps.length * 16 ≤ 140737488355328) :
    Calls Try.prog 11 #[.slice bp ps.length cp] w fun e w' => ∃ base cap g, e = .returned (.slice base ps.length cap) ∧ Below w.heap.size w w' ∧ PairsAt w' base g 0 ps ∧ NilOk base ps.length cap ∧ ps.length ≤ cap ∧ cap ≤ maxLen ∧ (ps.length ≠ 0 → w.heap.size ≤ g) := by
  have hlen := h.len
  obtain ⟨i0, hi0, hz0, hz1, hz2⟩ := info_parts pr_info
  have HA : Hid _ := h
  have HNIL : Hid (bp = none → ps.length = 0 ∧ cp = 0) := hnil
  clear hnil h
  have ho : (w.alloc (.cells #[] 59)).ownsRow w.heap.size 59 2 (.slice (some ⟨w.heap.size, 0, none⟩) 0 0) 0 [] := ⟨rfl, Or.inr ⟨w.heap.size, 0, #[], rfl, Nat.le_refl _, heap_alloc_at _ _ _ rfl, Nat.le_refl _, by unfold maxLen; omega, rfl, rfl⟩⟩
  have HO : Hid (World.ownsRow _ _ _ _ _ _ _) := ho
  have hnews : ∀ a, bp = some a → ∀ j u, (pairCells ps)[j]? = some u → (w.alloc (.cells #[] 59)).cell? (a.add j) = some u := pairs_news (HA.out.below (below_alloc _ _))
  have HW : Hid _ := hnews
  clear ho hnews
  go_enter Try.func11, Try.ntmps11
  go_wp2_with (first | (at_builtin; (refine wpList_append_all (by rfl) _ _ _ (by rfl) w.heap.size 59 i0 _ 2 16 prs_under hi0 hz0 hz1 hz2 rfl (by omega) _ 0 [] (by rfl) HO.out bp ps.length cp (pairCells ps) (by rfl) HNIL.out (pairCells_length _) HW.out (pairCells_one _) (by omega) (by omega) (by simp) ?_); intro v' w1 hown1 hgrow hnl))
  go_ret
  rw [Nat.zero_add, List.nil_append] at hown1
  obtain ⟨base', cap', g', e', hge, _, hp'⟩ := pairs_of_owns hown1 hlen
  obtain ⟨base, cap, g, rfl, hp, h1, h2, h3⟩ := row_parts hown1 hlen
  simp only [Value.slice.injEq] at e'
  obtain ⟨rfl, _, rfl⟩ := e'
  exact ⟨base, cap, g', rfl, Below.grown (below_alloc _ _) hgrow (by simp) (by intro k hk; simp [Value.ownBlock] at hk; omega), hp', h1, h2, h3, hge⟩

/-- The cells of operations. -/
def opC (o : OpD) : List Value := [.int .i64 o.kind, .int .i64 o.key, .int .i64 o.val, .int .i64 o.hi]
def opsC : List OpD → List Value
  | [] => []
  | o :: t => opC o ++ opsC t
theorem opsC_length : ∀ l : List OpD, (opsC l).length = l.length * 4
  | [] => rfl
  | o :: t => by simp [opsC, opC, opsC_length t]; omega
theorem opsC_get : ∀ (l : List OpD) (i : Nat), i < l.length → (opsC l)[i * 4]? = some (.int .i64 (opAt l i).kind) ∧ (opsC l)[i * 4 + 1]? = some (.int .i64 (opAt l i).key) ∧ (opsC l)[i * 4 + 2]? = some (.int .i64 (opAt l i).val) ∧ (opsC l)[i * 4 + 3]? = some (.int .i64 (opAt l i).hi)
  | [], i, h => by simp at h
  | o :: t, 0, _ => by simp [opsC, opC, opAt]
  | o :: t, i + 1, h => by
    obtain ⟨a, b, c, d⟩ := opsC_get t i (by simpa using h)
    have e : (i + 1) * 4 = i * 4 + 1 + 1 + 1 + 1 := by omega
    rw [e]
    refine ⟨?_, ?_, ?_, ?_⟩
    · simpa [opsC, opC, opAt] using a
    · simpa [opsC, opC, opAt] using b
    · simpa [opsC, opC, opAt] using c
    · simpa [opsC, opC, opAt] using d
theorem opsC_one (l : List OpD) : ∀ u ∈ opsC l, u.oneCell' = true := by
  induction l with
  | nil => simp [opsC]
  | cons p t ih => intro u hu; simp [opsC, opC] at hu; rcases hu with rfl | rfl | rfl | rfl | hu; rfl; rfl; rfl; rfl; exact ih u hu
theorem ops_news {w : World} {base : Option Addr} {b o : Nat} {l : List OpD} (h : OpsAt w base b o l) : ∀ ad, base = some ad → ∀ j u, (opsC l)[j]? = some u → w.cell? (ad.add j) = some u := by
  intro ad had j u hu
  have hl : j < l.length * 4 := by
    obtain ⟨q, _⟩ := List.getElem?_eq_some_iff.1 hu
    rwa [opsC_length] at q
  have hb := h.base (by omega)
  rw [had] at hb
  cases hb
  rw [addr_add']
  obtain ⟨a, b', c, d⟩ := h.cells (j / 4) (by omega)
  obtain ⟨a', b'', c', d'⟩ := opsC_get l (j / 4) (by omega)
  have hm : j % 4 = 0 ∨ j % 4 = 1 ∨ j % 4 = 2 ∨ j % 4 = 3 := by omega
  rcases hm with e | e | e | e
  · rw [show j / 4 * 4 = j by omega] at a a'; rw [hu] at a'; rw [a, ← a']
  · rw [show o + j / 4 * 4 + 1 = o + j by omega] at b'; rw [show j / 4 * 4 + 1 = j by omega, hu] at b''; rw [b', ← b'']
  · rw [show o + j / 4 * 4 + 2 = o + j by omega] at c; rw [show j / 4 * 4 + 2 = j by omega, hu] at c'; rw [c, ← c']
  · rw [show o + j / 4 * 4 + 3 = o + j by omega] at d; rw [show j / 4 * 4 + 3 = j by omega, hu] at d'; rw [d, ← d']
theorem ops_of_owns {w : World} {B : Nat} {e : TypeId} {v : Value} {l : List OpD} (h : w.ownsRow B e 4 v l.length (opsC l)) (hn : l.length ≤ maxLen) :
    ∃ base cap g, v = .slice base l.length cap ∧ OpsAt w base g 0 l ∧ NilOk base l.length cap ∧ (l.length ≠ 0 → B ≤ g) := by
  obtain ⟨_, h⟩ := h
  rcases h with ⟨rfl, h0⟩ | ⟨g, cap, cur, rfl, hg, hh, h1, h2, h3, h4⟩
  · exact ⟨none, 0, 0, by rw [h0], ⟨fun h => absurd h0 h, fun h => absurd h0 h, fun i hi => by omega, hn⟩, fun _ => ⟨h0, rfl⟩, fun q => absurd h0 q⟩
  · refine ⟨_, _, g, rfl, ⟨fun _ => rfl, fun _ => (Array.getElem?_eq_some_iff.1 hh).1, fun i hi => ?_, hn⟩, (fun h => by cases h), fun _ => hg⟩
    have hc : ∀ j, j < l.length * 4 → w.cell? ⟨g, 0 + j, none⟩ = (opsC l)[j]? := by
      intro j hj
      rw [← h4, List.getElem?_take, if_pos hj, Nat.zero_add]
      simp [World.cell?, hh]
    obtain ⟨a, b, c, d⟩ := opsC_get l i hi
    exact ⟨(hc _ (by omega)).trans a, (hc (i * 4 + 1) (by omega)).trans b, (hc (i * 4 + 2) (by omega)).trans c, (hc (i * 4 + 3) (by omega)).trans d⟩
theorem OpsAt.take {w : World} {base : Option Addr} {b o : Nat} {l : List OpD} (h : OpsAt w base b o l) (k : Nat) : OpsAt w base b o (l.take k) := by
  have hl : (l.take k).length ≤ l.length := List.length_take_le' _ _
  refine ⟨fun q => h.base (by omega), fun q => h.lt (by omega), fun i hi => ?_, by have := h.len; omega⟩
  have e : opAt (l.take k) i = opAt l i := by
    have hk : i < k := by rw [List.length_take] at hi; omega
    simp [opAt, List.getD_eq_getElem?_getD, hk]
  rw [e]
  exact h.cells i (by omega)
theorem PairsAt.take {w : World} {base : Option Addr} {b o : Nat} {l : PL} (h : PairsAt w base b o l) (k : Nat) : PairsAt w base b o (l.take k) := by
  have hl : (l.take k).length ≤ l.length := List.length_take_le' _ _
  refine ⟨fun q => h.base (by omega), fun q => h.lt (by omega), fun i hi => ?_, by have := h.len; omega⟩
  have e : keyAt (l.take k) i = keyAt l i ∧ valAt (l.take k) i = valAt l i := by
    have hk : i < k := by rw [List.length_take] at hi; omega
    simp [keyAt, valAt, List.getD_eq_getElem?_getD, hk]
  rw [e.1, e.2]
  exact h.cells i (by omega)
theorem op_info : (Try.prog.info? 25).map (fun i => (i.zero, i.size, i.bytes)) = some (some (.agg #[.int .i64 0, .int .i64 0, .int .i64 0, .int .i64 0]), 4, 32) := by kernel_rfl
theorem ops_under : Try.prog.underlying 23 = some (.slice 25) := by kernel_rfl

set_option maxRecDepth 100000 in
set_option maxHeartbeats 1000000 in
theorem few_any (bp : Option Addr) (gp op cp : Nat) (l : List OpD) (w : World) (h : OpsAt w bp gp op l) (hnil : NilOk bp l.length cp) (hcap : l.length ≤ cp) :
    Calls Try.prog 34 #[.slice bp l.length cp] w fun e w' => ∃ base cap g, e = .returned (.slice base (l.take 300).length cap) ∧ Below w.heap.size w w' ∧ OpsAt w' base g 0 (l.take 300) ∧ NilOk base (l.take 300).length cap ∧ (l.take 300).length ≤ cap ∧ ((l.take 300).length ≠ 0 → w.heap.size ≤ g) := by
  have hlen := h.len
  unfold maxLen at hlen
  obtain ⟨i0, hi0, hz0, hz1, hz2⟩ := info_parts op_info
  obtain ⟨T, hT⟩ : ∃ T, l.take 300 = T := ⟨_, rfl⟩
  have HA : Hid (OpsAt w bp gp op T) := by show OpsAt w bp gp op T; rw [← hT]; exact h.take 300
  rw [hT]
  have hl3 : T.length ≤ 300 := by rw [← hT, List.length_take]; omega
  have hll : T.length ≤ l.length := by rw [← hT]; exact List.length_take_le' _ _
  have HNIL : Hid (bp = none → T.length = 0 ∧ cp = 0) := fun q => ⟨by have := (hnil q).1; omega, (hnil q).2⟩
  clear hnil h
  have ho : (w.alloc (.cells #[] 25)).ownsRow w.heap.size 25 4 (.slice (some ⟨w.heap.size, 0, none⟩) 0 0) 0 [] := ⟨rfl, Or.inr ⟨w.heap.size, 0, #[], rfl, Nat.le_refl _, heap_alloc_at _ _ _ rfl, Nat.le_refl _, by unfold maxLen; omega, rfl, rfl⟩⟩
  have HO : Hid (World.ownsRow _ _ _ _ _ _ _) := ho
  have hnews : ∀ a, bp = some a → ∀ j u, (opsC T)[j]? = some u → (w.alloc (.cells #[] 25)).cell? (a.add j) = some u := ops_news (HA.out.below (below_alloc _ _))
  have HW : Hid _ := hnews
  have n1 : 0 + T.length ≤ maxLen := by unfold maxLen; omega
  have n2 : (0 + T.length) * 32 ≤ 140737488355328 := by omega
  clear ho hnews
  have FIN : Hid (∀ (v' : Value) (w1 : World), w1.ownsRow w.heap.size 25 4 v' (0 + T.length) ([] ++ opsC T) → (w.alloc (.cells #[] 25)).grownBy w1 (Value.ownBlock (.slice (some ⟨w.heap.size, 0, none⟩) 0 0)) → ∃ base cap g, Ending.returned v' = .returned (.slice base T.length cap) ∧ Below w.heap.size w w1 ∧ OpsAt w1 base g 0 T ∧ NilOk base T.length cap ∧ T.length ≤ cap ∧ (T.length ≠ 0 → w.heap.size ≤ g)) := by
    intro v' w1 h1 h2
    rw [Nat.zero_add, List.nil_append] at h1
    obtain ⟨base, cap, g, e, hp, hn, hge⟩ := ops_of_owns h1 (by unfold maxLen; omega)
    refine ⟨base, cap, g, by rw [e], Below.grown (below_alloc _ _) h2 (by simp) (by intro k hk; simp [Value.ownBlock] at hk; omega), hp, hn, ?_, hge⟩
    obtain ⟨_, h1⟩ := h1
    rcases h1 with ⟨e', h0⟩ | ⟨g', cap', cur, e', _, _, h3, _⟩
    · omega
    · rw [e'] at e; cases e; exact h3
  by_cases hc : l.length ≤ 300
  · have e3 : T.length = l.length := by rw [← hT, List.length_take]; omega
    have hc1 : (l.length : Int) ≤ 300 := by omega
    have E3 : Hid _ := e3
    have m1 : min (l.length : Int) 300 = (l.length : Int) := by omega
    rw [e3] at n1 n2 HNIL
    have hnl : (opsC T).length = l.length * 4 := by rw [opsC_length, e3]
    have HNL : Hid _ := hnl
    clear e3 hl3 hll hnl hT
    go_enter Try.func34, Try.ntmps34
    go_wp2_with (first | (at_builtin; (refine wpList_append_all (by rfl) _ _ _ (by rfl) w.heap.size 25 i0 _ 4 32 ops_under hi0 hz0 hz1 hz2 rfl (by omega) _ 0 [] (by rfl) HO.out bp l.length cp (opsC T) (by rfl) HNIL.out HNL.out HW.out (opsC_one _) n1 n2 (by simp) ?_); intro v' w1 hown1 hgrow hnl))
    go_ret
    exact FIN.out _ _ (by rw [E3.out]; exact hown1) hgrow
  · have e3 : T.length = 300 := by rw [← hT, List.length_take]; omega
    have hc1 : ¬ (l.length : Int) ≤ 300 := by omega
    have E3 : Hid _ := e3
    have m1 : min (l.length : Int) 300 = 300 := by omega
    rw [e3] at n1 n2 HNIL
    have hnl : (opsC T).length = 300 * 4 := by rw [opsC_length, e3]
    have HNL : Hid _ := hnl
    have c3 : 300 ≤ cp := by omega
    have c4 : (300 : Int) ≤ (cp : Int) := by omega
    clear e3 hl3 hll hnl hT
    go_enter Try.func34, Try.ntmps34
    go_wp2_with (first | (at_builtin; (refine wpList_append_all (by rfl) _ _ _ (by rfl) w.heap.size 25 i0 _ 4 32 ops_under hi0 hz0 hz1 hz2 rfl (by omega) _ 0 [] (by rfl) HO.out bp 300 cp (opsC T) (by rfl) HNIL.out HNL.out HW.out (opsC_one _) n1 n2 (by simp) ?_); intro v' w1 hown1 hgrow hnl))
    go_ret
    obtain ⟨base, cap, g, r0, r1, r2, r3, r4, r5⟩ := FIN.out _ _ (by rw [E3.out]; exact hown1) hgrow
    exact ⟨base, cap, r0, r1, g, r2, r3, r4, fun q => r5 (by simpa using q)⟩

/-- What Do says, with its answer read back. -/
def DoQ (f : FuncId) (base : Option Addr) (c : Nat) (ps : PL) (o : OpD) (E : Int) (L : PL) (r : RetD) (w : World) : Prop :=
  Calls Try.prog f #[.slice base ps.length c, .agg #[.int .i64 o.kind, .int .i64 o.key, .int .i64 o.val, .int .i64 o.hi]] w fun e w' => ∃ a1 c1 g1 a2 c2 g2, e = .returned (.tuple #[.slice a1 L.length c1, .agg #[.bool r.ok, .int .i64 r.key, .int .i64 r.val, .slice a2 r.pairs.length c2], .int .i64 E]) ∧ Below w.heap.size w w' ∧ PairsAt w' a1 g1 0 L ∧ PairsAt w' a2 g2 0 r.pairs ∧ (L.length ≠ 0 → w.heap.size ≤ g1) ∧ (r.pairs.length ≠ 0 → w.heap.size ≤ g2)
theorem doQ_of {f : FuncId} {base : Option Addr} {c : Nat} {ps : PL} {o : OpD} {w : World} (h : DoP f base c ps o w) {E : Int} {L : PL} {r : RetD} (hE : doErr ps o = E) (hL : doL ps o = L) (hr : doR ps o = r) : DoQ f base c ps o E L r w := by
  subst hE hL hr
  unfold DoP at h
  unfold DoQ
  refine h.mono ?_
  rintro e w' ⟨v1, a2, n2, c2, rfl, hb, h1, h2⟩
  obtain ⟨a1, g1, c1, rfl, hg1, hp1, _⟩ := h1
  obtain ⟨a2', g2, c2', e2, hg2, hp2, _⟩ := h2
  simp only [Value.slice.injEq] at e2
  obtain ⟨rfl, rfl, rfl⟩ := e2
  exact ⟨a1, c1, g1, a2, c2, g2, rfl, hb, hp1, hp2, hg1, hg2⟩
end Go.Proofs.Ytjpfgfcggekklaa
