/- Layer 5: slices.Clone at events, slices.SortStableFunc at none, the program's byThread. -/
import Derived.Test.YtniognoapcaliaaEByTh
namespace Go.Proofs.Ytniognoapcaliaa
open Go.RowKit Go.Deep
attribute [local go_sem ↓] Go.wp_at_zero Go.wp_at_succ

def evM (hs : List EvD) (pb : Nat → Option Addr) (pc : Nat → Nat) : List (EvD × Value) := (List.range hs.length).map (fun i => (evAt hs i, .slice (pb i) (evAt hs i).rt.pairs.length (pc i)))
theorem evM_length (hs : List EvD) (pb : Nat → Option Addr) (pc : Nat → Nat) : (evM hs pb pc).length = hs.length := by unfold evM; rw [List.length_map, List.length_range]
theorem evM_at (hs : List EvD) (pb : Nat → Option Addr) (pc : Nat → Nat) {k : Nat} (hk : k < hs.length) : (evM hs pb pc)[k]? = some (evAt hs k, .slice (pb k) (evAt hs k).rt.pairs.length (pc k)) := by
  unfold evM
  rw [List.getElem?_map, List.getElem?_range hk]
  rfl
theorem evsC_one : ∀ (m : List (EvD × Value)), (∀ x ∈ m, x.2.oneCell' = true) → ∀ u ∈ evsC m, u.oneCell' = true
  | [], _, u, hu => by simp [evsC] at hu
  | x :: t, h, u, hu => by
    simp only [evsC, List.mem_append] at hu
    rcases hu with hu | hu
    · simp only [evC, List.mem_cons, List.not_mem_nil, or_false] at hu
      rcases hu with rfl | rfl | rfl | rfl | rfl | rfl | rfl | rfl | rfl | rfl
      all_goals first | rfl | exact h x (List.mem_cons_self ..)
    · exact evsC_one t (fun y hy => h y (List.mem_cons_of_mem _ hy)) u hu
theorem evs_cells {w : World} {base : Option Addr} {b o : Nat} {hs : List EvD} {pb : Nat → Option Addr} {pc pg po : Nat → Nat} (h : EvsAt w base b o hs pb pc pg po) {k i : Nat} (hk : k < hs.length) (hi : i < 10) :
    w.cell? ⟨b, o + k * 10 + i, none⟩ = (evC (evAt hs k) (.slice (pb k) (evAt hs k).rt.pairs.length (pc k)))[i]? := by
  obtain ⟨d0, d1⟩ := h.c0 k hk
  obtain ⟨d2, d3, d4, d5⟩ := h.c1 k hk
  obtain ⟨d6, d7, d8, d9⟩ := h.c2 k hk
  match i, hi with
  | 0, _ => exact d0
  | 1, _ => exact d1
  | 2, _ => exact d2
  | 3, _ => exact d3
  | 4, _ => exact d4
  | 5, _ => exact d5
  | 6, _ => exact d6
  | 7, _ => exact d7
  | 8, _ => exact d8
  | 9, _ => exact d9
  | i + 10, hi => omega
theorem evs_news {w : World} {base : Option Addr} {b o : Nat} {hs : List EvD} {pb : Nat → Option Addr} {pc pg po : Nat → Nat} (h : EvsAt w base b o hs pb pc pg po) : ∀ ad, base = some ad → ∀ j u, (evsC (evM hs pb pc))[j]? = some u → w.cell? (ad.add j) = some u := by
  intro ad had j u hu
  have hj := (List.getElem?_eq_some_iff.1 hu).1
  rw [evsC_length, evM_length] at hj
  have hb := h.base (by omega)
  rw [had] at hb
  cases hb
  rw [addr_add', ← hu, show j = j / 10 * 10 + j % 10 by omega, evsC_get _ _ _ _ (evM_at hs pb pc (k := j / 10) (by omega)) (by omega), ← evs_cells h (by omega) (by omega), Nat.add_assoc]
theorem owns_rowE {w : World} {B : Nat} {T : TypeId} {v : Value} {hs : List EvD} {pb : Nat → Option Addr} {pc : Nat → Nat} (h : w.ownsRow B T 10 v (0 + hs.length) ([] ++ evsC (evM hs pb pc))) (hv : v ≠ .slice none 0 0) :
    ∃ g cap, v = .slice (some ⟨g, 0, none⟩) hs.length cap ∧ B ≤ g ∧ g < w.heap.size ∧ RowE w g hs.length (d0E hs pb pc) := by
  rw [Nat.zero_add, List.nil_append] at h
  by_cases hn : hs.length = 0
  · obtain ⟨_, h⟩ := h
    rcases h with ⟨h, _⟩ | ⟨g, cap, cur, rfl, hg, hh, h1, h2, h3, h4⟩
    · exact absurd h hv
    · exact ⟨g, cap, rfl, hg, (Array.getElem?_eq_some_iff.1 hh).1, fun _ => .bool false, fun j hj => by omega, fun i hi => by omega⟩
  · obtain ⟨g, cap, e, h1, h2, h3, h4, h5, h6⟩ := owns_some h (by omega)
    refine ⟨g, cap, e, h1, h2, fun j => ((evsC (evM hs pb pc))[j]?).getD (.bool false), fun j hj => ⟨?_, h6 j⟩, fun i hi c hc => ?_⟩
    · have : j < (evsC (evM hs pb pc)).length := by rw [evsC_length, evM_length]; exact hj
      simp only
      rw [h5 j hj, List.getElem?_eq_getElem this]
      rfl
    · have e1 := evsC_get _ _ _ _ (evM_at hs pb pc hi) hc
      simp only
      rw [e1]
      show some (((encE (d0E hs pb pc i))[c]?).getD (.bool false)) = (encE (d0E hs pb pc i))[c]?
      rw [List.getElem?_eq_getElem (show c < (encE (d0E hs pb pc i)).length by rw [encE_length]; exact hc)]
      rfl

set_option maxRecDepth 100000 in
set_option maxHeartbeats 1000000 in
theorem cloneE_any (base : Option Addr) (b o c : Nat) (hs : List EvD) (pb : Nat → Option Addr) (pc pg po : Nat → Nat) (w : World) (h : EvsAt w base b o hs pb pc pg po) (hn : hs.length ≤ 100000) :
    Calls Try.prog 92 #[.slice base hs.length c] w fun e w' => ∃ v, e = .returned v ∧ Below w.heap.size w w' ∧ ((hs.length = 0 ∧ v = .slice none 0 0) ∨ ∃ g cap, v = .slice (some ⟨g, 0, none⟩) hs.length cap ∧ w.heap.size ≤ g ∧ g < w'.heap.size ∧ RowE w' g hs.length (d0E hs pb pc)) := by
  have qn : ∀ (w : World) (a : Option Addr) (n c n' c' : Nat), (binOp .eql 22 (.slice a n c) (.slice none n' c')).run Try.prog w = .ok (.bool a.isNone) w := fun w a n c n' c' => Lib.run_eql_slice_nil w _ _ a n c n' c' evs_under
  cases base with
  | none =>
    have h0 : Hid (hs.length = 0) := by
      show hs.length = 0
      refine Decidable.byContradiction fun q => ?_
      have := h.base q
      cases this
    clear h
    go_enter Try.func92, Try.ntmps92
    go_wp2_with fail
    go_ret
    exact ⟨_, rfl, Below.refl _ _, Or.inl ⟨h0.out, rfl⟩⟩
  | some ad =>
    obtain ⟨i0, hi0, hz0, hz1, hz2⟩ := info_parts ev_info
    have HA : Hid _ := h
    clear h
    have ho : (w.alloc (.cells #[] 70)).ownsRow w.heap.size 70 10 (.slice (some ⟨w.heap.size, 0, none⟩) 0 0) 0 [] := ⟨rfl, Or.inr ⟨w.heap.size, 0, #[], rfl, Nat.le_refl _, heap_alloc_at _ _ _ rfl, Nat.le_refl _, by unfold maxLen; omega, rfl, rfl⟩⟩
    have HO : Hid (World.ownsRow _ _ _ _ _ _ _) := ho
    clear ho
    have hnews : ∀ a, some ad = some a → ∀ j u, (evsC (evM hs pb pc))[j]? = some u → (w.alloc (.cells #[] 70)).cell? (a.add j) = some u := evs_news (HA.out.below (below_alloc _ _))
    have HW : Hid _ := hnews
    have HL : Hid ((evsC (evM hs pb pc)).length = hs.length * 10) := by
      show (evsC (evM hs pb pc)).length = hs.length * 10
      rw [evsC_length, evM_length]
    have H1 : Hid (∀ u ∈ evsC (evM hs pb pc), u.oneCell' = true) := evsC_one _ (fun x hx => by unfold evM at hx; obtain ⟨i, _, rfl⟩ := List.mem_map.1 hx; rfl)
    clear hnews
    go_enter Try.func92, Try.ntmps92
    go_wp2_with (first | (at_builtin; (refine wpList_append_all (by rfl) _ _ _ (by rfl) w.heap.size 70 i0 _ 10 96 evs_under hi0 hz0 hz1 hz2 rfl (by omega) _ 0 [] (by rfl) HO.out (some ad) hs.length c (evsC (evM hs pb pc)) (by rfl) (fun h => by cases h) HL.out HW.out H1.out (by unfold maxLen; omega) (by omega) (by simp) ?_); intro v' w1 hown1 hgrow hnl))
    go_ret
    obtain ⟨g, cap, rfl, hg, hgl, hpa⟩ := owns_rowE hown1 (fun q => by cases (hnl.1 q).1)
    exact ⟨_, rfl, Below.grown (below_alloc _ _) hgrow (by simp) (by intro k hk; simp [Value.ownBlock] at hk; omega), Or.inr ⟨g, cap, rfl, hg, hgl, hpa⟩⟩

set_option maxRecDepth 100000 in
set_option maxHeartbeats 1000000 in
theorem insNil_any (fv : Value) (w : World) : Calls Try.prog 129 #[.slice none 0 0, .int .i64 0, .int .i64 0, fv] w fun e w' => e = .returned (.tuple #[]) ∧ w' = w := by
  go_enter Try.func129, Try.ntmps129
  go_wp2_with fail
  go_loopw [8] (fun iv wr => iv = .int .i64 1 ∧ wr = w) (fun _ _ => 0)
  case atStart => exact ⟨rfl, rfl⟩
  case round =>
    obtain ⟨rfl, rfl⟩ := hrel
    go_wp2_with fail
    go_end0
    exact ⟨rfl, rfl⟩
set_option maxRecDepth 100000 in
set_option maxHeartbeats 1000000 in
theorem stableNil_any (fv : Value) (w : World) : Calls Try.prog 108 #[.slice none 0 0, .int .i64 0, fv] w fun e w' => e = .returned (.tuple #[]) ∧ w' = w := by
  go_enter Try.func108, Try.ntmps108
  go_wp2_with fail
  go_loopw [7, 8] (fun av bv wr => av = .int .i64 0 ∧ bv = .int .i64 20 ∧ wr = w) (fun _ _ _ => 0)
  case atStart => exact ⟨rfl, rfl, rfl⟩
  case round =>
    obtain ⟨rfl, rfl, rfl⟩ := hrel
    go_wp2_with fail
    refine (insNil_any _ _).mono ?_
    rintro e w1 ⟨rfl, rfl⟩
    go_wp2_with fail
    go_loopw [6, 7, 8, 9] (fun sv _ _ _ wr => sv = .int .i64 20 ∧ wr = w1) (fun _ _ _ _ _ => 0)
    case atStart => exact ⟨rfl, rfl⟩
    case round =>
      obtain ⟨rfl, hwr⟩ := hrel
      go_wp2_with fail
      go_end0
      exact ⟨rfl, by first | rfl | exact hwr⟩
set_option maxRecDepth 100000 in
set_option maxHeartbeats 1000000 in
theorem sortNil_any (fv : Value) (w : World) : Calls Try.prog 93 #[.slice none 0 0, fv] w fun e w' => e = .returned (.tuple #[]) ∧ w' = w := by
  go_enter Try.func93, Try.ntmps93
  go_wp2_with fail
  refine (stableNil_any _ _).mono ?_
  rintro e w1 ⟨rfl, rfl⟩
  go_wp2_with fail
  go_end0
  exact ⟨rfl, rfl⟩

/-- What byThread answers: the events by their thread, each thread's in its order. -/
def ByTh (hs l : List EvD) : Prop := l.length = hs.length ∧ l.Pairwise (fun x y => x.th ≤ y.th) ∧ ∀ t, thF t l = thN hs t hs.length
theorem evAt_range {n : Nat} (f : Nat → EvD) {i : Nat} (hi : i < n) : evAt ((List.range n).map f) i = f i := by
  unfold evAt
  rw [List.getD_eq_getElem?_getD, List.getElem?_map, List.getElem?_range hi]
  rfl
/-- The sorted row: events in memory, their pairs where they were. -/
theorem row_evs {w W w' : World} {base : Option Addr} {b o g : Nat} {hs : List EvD} {pb : Nat → Option Addr} {pc pg po : Nat → Nat} (h : EvsAt w base b o hs pb pc pg po) (hb : Below w.heap.size w W) (hg : w.heap.size ≤ g) (hgW : g < W.heap.size) {d : Nat → EvX} (hr : RowE w' g hs.length d) (hgr : W.grownBy w' (some g)) (s : Swaps 0 hs.length (d0E hs pb pc) d) :
    ∃ qb qc qg qo, EvsAt w' (some ⟨g, 0, none⟩) g 0 ((List.range hs.length).map (fun i => (d i).e)) qb qc qg qo := by
  have hl : ((List.range hs.length).map (fun i => (d i).e)).length = hs.length := by rw [List.length_map, List.length_range]
  have bl : Below w.heap.size w w' := Below.grown hb hgr (by omega) (by intro k hk; cases hk; exact hg)
  have key : ∀ i, i < hs.length → ∃ k, k < hs.length ∧ (d i).e = evAt hs k ∧ (d i).a = pb k ∧ (d i).c = pc k := by
    intro i hi
    obtain ⟨y, _, h2, h3⟩ := s.of i (Nat.zero_le _) hi
    exact ⟨y, h2, by rw [h3]; rfl, by rw [h3]; rfl, by rw [h3]; rfl⟩
  obtain ⟨f, hf⟩ := choose_lt key
  refine ⟨fun i => (d i).a, fun i => (d i).c, fun i => pg (f i), fun i => po (f i), ⟨fun _ => rfl, fun _ => Nat.lt_of_lt_of_le hgW hgr.size, by rw [hl]; exact h.len, fun i hi => ?_, fun i hi => ?_, fun i hi => ?_, fun i hi => ?_⟩⟩
  · rw [hl] at hi
    rw [evAt_range _ hi, Nat.zero_add]
    exact ⟨(hr.cell hi (c := 0) (by omega)).1, (hr.cell hi (c := 1) (by omega)).1⟩
  · rw [hl] at hi
    rw [evAt_range _ hi, Nat.zero_add]
    exact ⟨(hr.cell hi (c := 2) (by omega)).1, (hr.cell hi (c := 3) (by omega)).1, (hr.cell hi (c := 4) (by omega)).1, (hr.cell hi (c := 5) (by omega)).1⟩
  · rw [hl] at hi
    rw [evAt_range _ hi, Nat.zero_add]
    exact ⟨(hr.cell hi (c := 6) (by omega)).1, (hr.cell hi (c := 7) (by omega)).1, (hr.cell hi (c := 8) (by omega)).1, (hr.cell hi (c := 9) (by omega)).1⟩
  · rw [hl] at hi
    obtain ⟨h1, h2, h3, h4⟩ := hf i hi
    obtain ⟨p1, p2, p3⟩ := h.prs (f i) h1
    simp only [evAt_range _ hi]
    rw [h2, h3, h4]
    exact ⟨p1.below bl, p2, p3⟩

set_option maxRecDepth 100000 in
set_option maxHeartbeats 1000000 in
theorem byThread_any (base : Option Addr) (b o c : Nat) (hs : List EvD) (pb : Nat → Option Addr) (pc pg po : Nat → Nat) (w : World) (h : EvsAt w base b o hs pb pc pg po) (hn : hs.length ≤ 100000) :
    Calls Try.prog 70 #[.slice base hs.length c] w fun e w' => ∃ v l a cc g pb' pc' pg' po', e = .returned v ∧ Below w.heap.size w w' ∧ ByTh hs l ∧ v = .slice a l.length cc ∧ EvsAt w' a g 0 l pb' pc' pg' po' := by
  have HA : Hid _ := h
  clear h
  go_enter Try.func70, Try.ntmps70
  go_wp2_with fail
  refine (cloneE_any base b o c hs pb pc pg po _ HA.out hn).mono ?_
  rintro e w1 ⟨v, rfl, hb, hv⟩
  have HB : Hid _ := hb
  clear hb
  rcases hv with ⟨h0, rfl⟩ | ⟨g, cap, rfl, hg, hgl, hrow⟩
  · have H0 : Hid _ := h0
    clear h0
    go_wp2_with fail
    refine (sortNil_any _ _).mono ?_
    rintro e w2 ⟨rfl, rfl⟩
    go_wp2_with fail
    go_ret
    obtain rfl : hs = [] := List.length_eq_zero_iff.1 H0.out
    exact ⟨_, [], none, 0, 0, fun _ => none, fun _ => 0, fun _ => 0, fun _ => 0, rfl, HB.out, ⟨rfl, List.Pairwise.nil, fun _ => rfl⟩, rfl, ⟨fun q => absurd rfl q, fun q => absurd rfl q, by simp, fun i hi => by simp at hi, fun i hi => by simp at hi, fun i hi => by simp at hi, fun i hi => by simp at hi⟩⟩
  · have C1 : Hid (Calls _ _ _ _ _) := sortStableE_any g hs.length cap (d0E hs pb pc) w1 hrow hgl (by omega) (fun x y h1 _ => h1)
    clear hrow
    go_wp2_with fail
    refine C1.out.mono ?_
    rintro e w2 ⟨rfl, d, hr, hgr, hs1, ho1⟩
    have HR : Hid (RowE _ _ _ _) := hr
    have HG : Hid _ := hgr
    have HS : Hid _ := hs1
    have HO : Hid (SortedOn _ _ _ _ _) := ho1
    clear hr hgr hs1 ho1
    go_wp2_with fail
    go_ret
    obtain ⟨qb, qc, qg, qo, he⟩ := row_evs HA.out HB.out hg hgl HR.out HG.out HS.out
    have hl : ((List.range hs.length).map (fun i => (d i).e)).length = hs.length := by rw [List.length_map, List.length_range]
    exact ⟨_, _, _, cap, g, qb, qc, qg, qo, rfl, Below.grown HB.out HG.out (by omega) (by intro k hk; cases hk; exact hg), ⟨hl, sorted_th HO.out, fun t => sorted_filter HS.out HO.out t⟩, by rw [hl]; rfl, he⟩
end Go.Proofs.Ytniognoapcaliaa
