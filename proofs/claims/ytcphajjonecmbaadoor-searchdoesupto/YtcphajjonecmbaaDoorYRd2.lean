/- Layer 7: the document's do of rows and of maps. Layer 7: the document's number and row. Layer 7: the document's do. -/
import Derived.Test.YtcphajjonecmbaaDoorYFind
import Derived.Test.YtcphajjonecmbaaDoorYAwk
import Derived.Test.YtcphajjonecmbaaDoorYAgr
import Derived.Test.YtcphajjonecmbaaDoorMD1
import Derived.Deep.RegionHeld3
import Derived.Deep.CutRange


namespace Go.Proofs.YtcphajjonecmbaaDoor

open Go.RowKit Go.Deep

attribute [local go_sem ↓] Go.wp_at_zero Go.wp_at_succ

set_option maxRecDepth 100000 in
set_option maxHeartbeats 1000000 in
theorem rnumber_any (t v k a b c : Int) (w : World) (ht : t = 1 ∨ t = 2) (hk : kOk t k = true) :
    Calls Tryd.prog 88 #[.int .i64 t, .int .i64 v, .agg #[.int .i64 k, .int .i64 a, .int .i64 b, .int .i64 c]] w fun e w' => ∃ n', vStep t [v] ⟨k, a, b, c⟩ = [n'] ∧ e = .returned (.tuple #[.int .i64 n', retZ (vRet t [v] ⟨k, a, b, c⟩)]) ∧ Below w.heap.size w w' := by
  have BW : Hid _ := two_blocks w #[.int .i64 k, .int .i64 a, .int .i64 b, .int .i64 c] #[.bool false, .int .i64 0, .int .i64 0, .slice none 0 0] 43 45
  by_cases h1 : k = 1
  · subst h1
    have e1 : Hid (vRet t [v] ⟨1, a, b, c⟩ = ⟨true, 0, v, []⟩) := by
      show vRet t [v] ⟨1, a, b, c⟩ = ⟨true, 0, v, []⟩
      rcases ht with rfl | rfl <;> rfl
    have e2 : Hid (vStep t [v] ⟨1, a, b, c⟩ = [v]) := by
      show vStep t [v] ⟨1, a, b, c⟩ = [v]
      rcases ht with rfl | rfl <;> rfl
    clear ht hk
    go_enter Tryd.func88, Tryd.ntmps88
    go_wp2_with fail
    refine bodyPost_ret (v := .tuple #[.int .i64 v, retZ ⟨true, 0, v, []⟩]) ?_ rfl ⟨v, e2.out, by rw [e1.out], two_blocks _ _ _ _ _⟩
    rw [results_tc rfl]
    simp only [retZ]
    go_simp
  · have n1 : (k == 1) = false := beq_eq_false_iff_ne.2 h1
    rcases ht with rfl | rfl
    · by_cases h2 : k = 2
      · subst h2
        have e1 : Hid (vRet 1 [v] ⟨2, a, b, c⟩ = ⟨true, 0, 0, []⟩) := by
          show vRet 1 [v] ⟨2, a, b, c⟩ = ⟨true, 0, 0, []⟩
          simp [vRet]
        have e2 : Hid (vStep 1 [v] ⟨2, a, b, c⟩ = [b]) := by
          show vStep 1 [v] ⟨2, a, b, c⟩ = [b]
          simp [vStep]
        clear hk h1
        go_enter Tryd.func88, Tryd.ntmps88
        go_wp2_with fail
        refine bodyPost_ret (v := .tuple #[.int .i64 b, retZ ⟨true, 0, 0, []⟩]) ?_ rfl ⟨b, e2.out, by rw [e1.out], two_blocks _ _ _ _ _⟩
        rw [results_tc rfl]
        simp only [retZ]
        go_simp
      · have h3 : k = 3 := by
          simp [kOk, kMax] at hk
          omega
        subst h3
        clear hk h1 h2
        by_cases hva : v = a
        · subst hva
          have e1 : Hid (vRet 1 [v] ⟨3, v, b, c⟩ = ⟨true, 0, 0, []⟩) := by
            show vRet 1 [v] ⟨3, v, b, c⟩ = ⟨true, 0, 0, []⟩
            simp [vRet]
          have e2 : Hid (vStep 1 [v] ⟨3, v, b, c⟩ = [b]) := by
            show vStep 1 [v] ⟨3, v, b, c⟩ = [b]
            simp [vStep]
          have n2 : (v == v) = true := by simp
          go_enter Tryd.func88, Tryd.ntmps88
          go_wp2_with fail
          refine bodyPost_ret (v := .tuple #[.int .i64 b, retZ ⟨true, 0, 0, []⟩]) ?_ rfl ⟨b, e2.out, by rw [e1.out], two_blocks _ _ _ _ _⟩
          rw [results_tc rfl]
          simp only [retZ]
          go_simp
        · have e1 : Hid (vRet 1 [v] ⟨3, a, b, c⟩ = RetD.zero) := by
            show vRet 1 [v] ⟨3, a, b, c⟩ = RetD.zero
            simp [vRet, hva]
          have e2 : Hid (vStep 1 [v] ⟨3, a, b, c⟩ = [v]) := by
            show vStep 1 [v] ⟨3, a, b, c⟩ = [v]
            simp [vStep, hva]
          have n2 : (v == a) = false := beq_eq_false_iff_ne.2 hva
          clear hva
          go_enter Tryd.func88, Tryd.ntmps88
          go_wp2_with fail
          refine bodyPost_ret (v := .tuple #[.int .i64 v, retZ RetD.zero]) ?_ rfl ⟨v, e2.out, by rw [e1.out], two_blocks _ _ _ _ _⟩
          rw [results_tc rfl]
          simp only [retZ, RetD.zero]
          go_simp
    · have e1 : Hid (vRet 2 [v] ⟨k, a, b, c⟩ = ⟨true, 0, wrap64 (v + b), []⟩) := by
        show vRet 2 [v] ⟨k, a, b, c⟩ = ⟨true, 0, wrap64 (v + b), []⟩
        simp [vRet, vStep, h1]
      have e2 : Hid (vStep 2 [v] ⟨k, a, b, c⟩ = [wrap64 (v + b)]) := by
        show vStep 2 [v] ⟨k, a, b, c⟩ = [wrap64 (v + b)]
        simp [vStep, h1]
      clear hk h1
      go_enter Tryd.func88, Tryd.ntmps88
      go_wp2_with fail
      go_region
      go_wp2_with fail
      refine bodyPost_ret (v := .tuple #[.int .i64 (wrap64 (v + b)), retZ ⟨true, 0, wrap64 (v + b), []⟩]) ?_ rfl ⟨_, e2.out, by rw [e1.out], (two_blocks _ _ _ _ _).drew⟩
      rw [results_tc rfl]
      simp only [retZ]
      go_simp
/-- What row leaves. -/
def RowP (w : World) (t : Int) (vs : List Int) (op : OpD) (e : Ending) (w' : World) : Prop :=
  ∃ g' o' c', e = .returned (.tuple #[.slice (some ⟨g', o', none⟩) (vStep t vs op).length c', retZ (vRet t vs op)]) ∧ RoO w' w.heap.size g' o' c' (vStep t vs op) ∧ Below w.heap.size w w'
theorem ord_news7 {w : World} {ba : Option Addr} {g o : Nat} {xs : List Int} (h : OrdAt w ba g o xs) : ∀ a, ba = some a → ∀ j u, (intC xs)[j]? = some u → w.cell? (a.add j) = some u := by
  rintro a ha j u hj
  have hl : j < xs.length := by have := (List.getElem?_eq_some_iff.1 hj).1; simpa [intC] using this
  have := h.base (by omega)
  rw [ha] at this
  obtain rfl := Option.some.inj this
  rw [intC_get xs j hl] at hj
  rw [Addr.add_lit, h.cells j hl]
  exact hj
theorem roO_four {wr : World} {B g o c N : Nat} {xs : List Int} (h : RoO wr B g o c xs) (hN : N ≠ g) (v0 v1 v2 v3 : Value) : RoO ((((wr.setCell ⟨N, 0, none⟩ v0).setCell ⟨N, 1, none⟩ v1).setCell ⟨N, 2, none⟩ v2).setCell ⟨N, 3, none⟩ v3) B g o c xs := h.four hN _ _ _ _
theorem below_four {w wr : World} {N : Nat} (h : Below w.heap.size w wr) (hN : w.heap.size ≤ N) (v0 v1 v2 v3 : Value) : Below w.heap.size w ((((wr.setCell ⟨N, 0, none⟩ v0).setCell ⟨N, 1, none⟩ v1).setCell ⟨N, 2, none⟩ v2).setCell ⟨N, 3, none⟩ v3) :=
  (((h.setCell (p := ⟨N, 0, none⟩) hN _).setCell (p := ⟨N, 1, none⟩) hN _).setCell (p := ⟨N, 2, none⟩) hN _).setCell (p := ⟨N, 3, none⟩) hN _
set_option maxRecDepth 100000 in
set_option maxHeartbeats 2000000 in
theorem rrow_any (T : Int) (hT : T = 3 ∨ T = 4) (ba : Option Addr) (g o c : Nat) (vs : List Int) (op : OpD) (w : World) (h : OrdAt w ba g o vs) (hnil : ba = none → vs.length = 0 ∧ c = 0) (hby : (vs.length + 1) * 8 ≤ 140737488355328) :
    Calls Tryd.prog 90 #[.int .i64 T, .slice ba vs.length c, .agg #[.int .i64 op.kind, .int .i64 op.key, .int .i64 op.val, .int .i64 op.hi]] w (RowP w T vs op) := by
  obtain ⟨k, a, b, d⟩ := op
  have hlen := h.len
  unfold maxLen at hlen
  obtain ⟨W0, hW0⟩ : ∃ W0, W0 = (w.alloc (.cells #[.int .i64 k, .int .i64 a, .int .i64 b, .int .i64 d] 43)).alloc (.cells #[.bool false, .int .i64 0, .int .i64 0, .slice none 0 0] 45) := ⟨_, rfl⟩
  have BW := two_blocks w #[.int .i64 k, .int .i64 a, .int .i64 b, .int .i64 d] #[.bool false, .int .i64 0, .int .i64 0, .slice none 0 0] 43 45
  rw [← hW0] at BW
  have HB : Hid (Below w.heap.size w W0) := BW
  have z0 : W0.heap.size = w.heap.size + 2 := by rw [hW0]; simp
  have R0 : Hid (W0.heap[w.heap.size]? = some (.cells #[.int .i64 k, .int .i64 a, .int .i64 b, .int .i64 d] 43)) := by
    show W0.heap[w.heap.size]? = _
    rw [hW0]
    exact (heap_alloc_old _ _ (by simp)).trans (heap_alloc_at _ _ _ rfl)
  have R1 : Hid (W0.heap[w.heap.size + 1]? = some (.cells #[.bool false, .int .i64 0, .int .i64 0, .slice none 0 0] 45)) := by
    show W0.heap[w.heap.size + 1]? = _
    rw [hW0]
    exact heap_alloc_at _ _ _ (by simp)
  obtain ⟨i0, hi0, hz0, hz1, hz2⟩ := info_parts int_info
  have HN : Hid (ba = none → vs.length = 0 ∧ c = 0) := hnil
  have HO : Hid ((W0.alloc (.cells #[] 3)).ownsRow W0.heap.size 3 1 (.slice (some ⟨W0.heap.size, 0, none⟩) 0 0) 0 []) := ⟨rfl, Or.inr ⟨W0.heap.size, 0, #[], rfl, Nat.le_refl _, heap_alloc_at _ _ _ rfl, Nat.le_refl _, by unfold maxLen; omega, rfl, rfl⟩⟩
  have HW : Hid (∀ ad, ba = some ad → ∀ j u, (intC vs)[j]? = some u → (W0.alloc (.cells #[] 3)).cell? (ad.add j) = some u) := ord_news7 ((h.below BW).below (below_alloc _ _))
  have HBY : Hid ((vs.length + 1) * 8 ≤ 140737488355328) := hby
  have HV : Hid (∀ g1 c1 w1, RoO w1 (w.heap.size + 2) g1 0 c1 vs → Below W0.heap.size W0 w1 → (w1.heap[w.heap.size]? = some (.cells #[.int .i64 k, .int .i64 a, .int .i64 b, .int .i64 d] 43) ∧ w1.heap[w.heap.size + 1]? = some (.cells #[.bool false, .int .i64 0, .int .i64 0, .slice none 0 0] 45))) := fun g1 c1 w1 h1 h2 => ⟨(h2.block _ (by omega)).trans R0.out, (h2.block _ (by omega)).trans R1.out⟩
  rw [z0] at HO
  clear h hnil BW
  go_enter Tryd.func90, Tryd.ntmps90
  go_upto_region 1 with fail
  rw [← hW0]
  clear hW0
  go_upto_region 2 with (first | (at_builtin; go_loud (refine wpList_append_all (by rfl) _ _ _ (by rfl) (w.heap.size + 2) 3 i0 _ 1 8 ints_under hi0 hz0 hz1 hz2 rfl (by omega) _ 0 [] (by rfl) HO.out ba vs.length c (intC vs) (by rfl) HN.out (by rw [intC_length]; omega) HW.out (intC_cl _) (by unfold maxLen; omega) (by omega) (by simp; omega) ?_); intro v' w1 hown1 hgrow hnl; obtain ⟨g1, c1, rfl, hR⟩ := roO_of_owns hown1 (by simp) (fun q => by cases (hnl.1 q).1); have hB1 : Below W0.heap.size W0 w1 := Below.grown (below_alloc _ _) hgrow (by simp only [World.size_alloc]; omega) (by intro k hk; simp [Value.ownBlock] at hk; omega); clear hnl hown1 hgrow))
  obtain ⟨Q0, Q1⟩ := HV.out g1 c1 w1 hR hB1
  obtain ⟨⟨a0, _⟩, ⟨a1, _⟩, ⟨a2, _⟩, ⟨a3, _⟩⟩ := cells4 Q0
  obtain ⟨⟨p0, p1⟩, ⟨p2, p3⟩, ⟨p4, p5⟩, ⟨p6, p7⟩⟩ := cells4 Q1
  have z1 := hB1.size
  have BB : Hid (Below w.heap.size w w1) := HB.out.trans (hB1.mono HB.out.size)
  have RR : Hid (RoO w1 (w.heap.size + 2) g1 0 c1 vs) := hR
  have RQ : Hid (w1.heap[w.heap.size + 1]? = some (.cells #[.bool false, .int .i64 0, .int .i64 0, .slice none 0 0] 45)) := Q1
  have gB : w.heap.size + 2 ≤ g1 := hR.gB
  have gL : g1 < w1.heap.size := hR.lt
  have gC : vs.length ≤ c1 := hR.le
  have gM : c1 ≤ 9223372036854775807 := Nat.le_trans hR.max (by unfold maxLen; omega)
  clear HO HW HN HV hB1 Q0 Q1 R0 R1
  by_cases hk : k = 1
  · subst hk
    have HR : Hid (vStep T vs ⟨1, a, b, d⟩ = vs ++ [b] ∧ vRet T vs ⟨1, a, b, d⟩ = ⟨true, 0, 0, []⟩) := vStep_row1 hT vs _ rfl
    have CN : Hid ((w1.alloc (.cells #[.int .i64 b] 3)).cell? ⟨w1.heap.size, 0, none⟩ = some (.int .i64 b)) := cell_new _ _ _ 0
    clear hR
    go_wp2_with (first | (at_builtin; go_loud (refine wpList_append_off (by rfl) _ _ (by rfl) (RR.out.alloc _) (by simp; omega) (by rfl) w1.heap.size 1 b (by rfl) CN.out HBY.out ?_); rintro v' w2 ⟨g', o', c', rfl, hR2, hgg, hgr⟩; have R1' := (hgr.block (w.heap.size + 1) (by simp; omega) (fun q => by cases q; omega)).trans ((heap_alloc_old _ _ (by omega)).trans RQ.out); obtain ⟨⟨p0, p1⟩, ⟨p2, p3⟩, ⟨p4, p5⟩, ⟨p6, p7⟩⟩ := cells4 R1'))
    refine bodyPost_ret (v := .tuple #[.slice (some ⟨g', o', none⟩) (vs.length + 1) c', .agg #[.bool true, .int .i64 0, .int .i64 0, .slice none 0 0]]) ?_ rfl ⟨g', o', c', ?_, ?_, ?_⟩
    · rw [results_tc rfl]; go_simp
    · rw [HR.out.1, HR.out.2, List.length_append]; rfl
    · rw [HR.out.1]
      refine (hR2.down (by omega)).four (fun q => ?_) _ _ _ _
      rcases hgg with e | e
      · omega
      · simp at e; omega
    · exact below_four (Below.grown (BB.out.alloc BB.out.size _) hgr (Nat.le_trans BB.out.size (by simp)) (by intro k hk; cases hk; omega)) (by omega) _ _ _ _
  · have k1 : (k == 1) = false := beq_eq_false_iff_ne.2 hk
    cases vs with
    | nil =>
      have HR : Hid (vStep T [] ⟨k, a, b, d⟩ = [] ∧ vRet T [] ⟨k, a, b, d⟩ = RetD.zero) := vStep_row0 hT _ hk
      clear hR hk hT
      simp only [List.length_nil] at *
      go_wp2_with fail
      refine bodyPost_ret (v := .tuple #[.slice (some ⟨g1, 0, none⟩) 0 c1, .agg #[.bool false, .int .i64 0, .int .i64 0, .slice none 0 0]]) ?_ rfl ⟨g1, 0, c1, ?_, ?_, ?_⟩
      · rw [results_tc rfl]; go_simp
      · rw [HR.out.1, HR.out.2]; rfl
      · rw [HR.out.1]
        exact (RR.out.down (by omega)).four (by omega) _ _ _ _
      · exact below_four BB.out (by omega) _ _ _ _
    | cons x xs =>
      obtain ⟨n, hn⟩ : ∃ n, n = xs.length := ⟨_, rfl⟩
      have hcl : (x :: xs).length = n + 1 := by simp [hn]
      have n0 : (0 : Int) ≤ (n : Int) := Int.natCast_nonneg _
      have e0 : (((n + 1 : Nat) : Int) == 0) = false := by rw [beq_eq_false_iff_ne]; omega
      have hl : n + 1 ≤ c1 := by omega
      have HN : Hid (n = xs.length) := hn
      rcases hT with rfl | rfl
      · have HR : Hid (vStep 3 (x :: xs) ⟨k, a, b, d⟩ = (x :: xs).take n ∧ vRet 3 (x :: xs) ⟨k, a, b, d⟩ = ⟨true, 0, oAt (x :: xs) n, []⟩) := by
          have := vStep_stack (vs := x :: xs) ⟨k, a, b, d⟩ hk (by omega)
          rw [show (x :: xs).length - 1 = n by omega] at this
          exact this
        have c0 : w1.cell? ⟨g1, n, none⟩ = some (.int .i64 (oAt (x :: xs) n)) := by
          have := hR.cells n (by omega)
          rwa [Nat.zero_add] at this
        have q1 : wrap64 ((n : Int) + 1 - 1) = (n : Int) := by rw [show (n : Int) + 1 - 1 = (n : Int) by omega]; unfold wrap64; omega
        have HL : Hid ((x :: xs).length = n + 1) := hcl
        rw [hcl] at gC hby ⊢
        generalize oAt (x :: xs) n = y at *
        clear hR hk hn hcl hlen
        go_wp2_with fail
        go_region
        go_wp2_with fail
        refine bodyPost_ret (v := .tuple #[.slice (some ⟨g1, 0, none⟩) n c1, .agg #[.bool true, .int .i64 0, .int .i64 y, .slice none 0 0]]) ?_ rfl ⟨g1, 0, c1, ?_, ?_, ?_⟩
        · rw [results_tc rfl]; go_simp
        · rw [HR.out.1, HR.out.2, List.length_take, HL.out, Nat.min_eq_left (Nat.le_succ _)]; rfl
        · rw [HR.out.1]
          exact (((RR.out.take n).down (by omega)).kept (w' := w1.drew) (Nat.le_refl _) rfl).four (by omega) _ _ _ _
        · exact below_four BB.out.drew (by omega) _ _ _ _
      · have HR : Hid (vStep 4 (x :: xs) ⟨k, a, b, d⟩ = xs ∧ vRet 4 (x :: xs) ⟨k, a, b, d⟩ = ⟨true, 0, x, []⟩) := vStep_queue x xs _ hk
        have c0 : w1.cell? ⟨g1, 0, none⟩ = some (.int .i64 x) := by
          have := hR.cells 0 (by omega)
          simpa [oAt] using this
        obtain ⟨o', ho'⟩ : ∃ o' : Nat, (if c1 = 1 then (some (⟨g1, 0, none⟩ : Addr)) else some ⟨g1, 1, none⟩) = some ⟨g1, o', none⟩ ∧ (c1 ≠ 1 → o' = 1) := by
          by_cases q : c1 = 1
          · exact ⟨0, by rw [if_pos q], fun z => absurd q z⟩
          · exact ⟨1, by rw [if_neg q], fun _ => rfl⟩
        have RO : Hid (RoO w1 (w.heap.size + 2) g1 o' (c1 - 1) xs) := by
          by_cases q : c1 = 1
          · have hx : xs = [] := List.length_eq_zero_iff.1 (by omega)
            subst hx
            exact ⟨RR.out.gB, RR.out.lt, Nat.zero_le _, by unfold maxLen; omega, fun j hj => by simp at hj, fun j hj => by omega⟩
          · have e := ho'.2 q
            subst e
            exact RR.out.drop
        have ho2 := ho'.1
        rw [hcl] at gC hby ⊢
        clear hR hk hn hcl hlen ho'
        go_wp2_with fail
        go_region
        go_wp2_with fail
        refine bodyPost_ret (v := .tuple #[.slice (some ⟨g1, o', none⟩) n (c1 - 1), .agg #[.bool true, .int .i64 0, .int .i64 x, .slice none 0 0]]) ?_ rfl ⟨g1, o', c1 - 1, ?_, ?_, ?_⟩
        · rw [results_tc rfl]; go_simp
        · rw [HR.out.1, HR.out.2, HN.out]; rfl
        · rw [HR.out.1]
          exact ((RO.out.down (by omega)).kept (w' := w1.drew) (Nat.le_refl _) rfl).four (by omega) _ _ _ _
        · exact below_four BB.out.drew (by omega) _ _ _ _
end Go.Proofs.YtcphajjonecmbaaDoor





namespace Go.Proofs.YtcphajjonecmbaaDoor

open Go.RowKit Go.Deep

attribute [local go_sem ↓] Go.wp_at_zero Go.wp_at_succ

theorem results_c2 {fn : Func} {p q : Tmp} {ty ty' : TypeId} (h : fn.results = #[.cell p ty, .cell q ty']) (tmps : Array Value) (P : Program) (w : World) :
    (results fn tmps).run P w = ((asAddr (tmps.getD p undef)).run P w).andThen fun ad w₁ => ((loadVar ty ad).run P w₁).andThen fun v w₂ => ((asAddr (tmps.getD q undef)).run P w₂).andThen fun ad' w₃ => ((loadVar ty' ad').run P w₃).andThen fun v' w₄ => .ok (.tuple #[v, v']) w₄ := by
  simp only [results, h]
  simp [Sem.run_bind, Result.andThen]
/-- What do leaves. -/
def RdP (w : World) (t : Int) (s : SD) (o : OpD) (e : Ending) (w' : World) : Prop :=
  ∃ x' a2 g2 c2, e = .returned (.tuple #[x'.v (sStep t s o), .agg #[.bool (sRet t s o).ok, .int .i64 (sRet t s o).key, .int .i64 (sRet t s o).val, .slice a2 (sRet t s o).pairs.length c2]]) ∧ Below w.heap.size w w' ∧ StNew w' w.heap.size x' (sStep t s o) ∧ PairsAt w' a2 g2 0 (sRet t s o).pairs ∧ ((sRet t s o).pairs.length ≠ 0 → w.heap.size ≤ g2) ∧ (a2 = none → c2 = 0)
/-- The four boxes of do. -/
structure Bx7 (w W0 : World) (x : SX) (s : SD) (o : OpD) : Prop where
  b : Below w.heap.size w W0
  z : W0.heap.size = w.heap.size + 4
  r0 : W0.heap[w.heap.size]? = some (.cells #[.slice x.va s.vals.length x.vc, .slice x.pa s.prs.length x.pc] 25)
  r1 : W0.heap[w.heap.size + 1]? = some (.cells #[.int .i64 o.kind, .int .i64 o.key, .int .i64 o.val, .int .i64 o.hi] 43)
  r2 : W0.heap[w.heap.size + 1 + 1]? = some (.cells #[.slice none 0 0, .slice none 0 0] 25)
  r3 : W0.heap[w.heap.size + 1 + 1 + 1]? = some (.cells #[.bool false, .int .i64 0, .int .i64 0, .slice none 0 0] 45)
theorem bx7 (w : World) (x : SX) (s : SD) (o : OpD) : ∃ W0, W0 = (((w.alloc (.cells #[.slice x.va s.vals.length x.vc, .slice x.pa s.prs.length x.pc] 25)).alloc (.cells #[.int .i64 o.kind, .int .i64 o.key, .int .i64 o.val, .int .i64 o.hi] 43)).alloc (.cells #[.slice none 0 0, .slice none 0 0] 25)).alloc (.cells #[.bool false, .int .i64 0, .int .i64 0, .slice none 0 0] 45) ∧ Bx7 w W0 x s o := by
  refine ⟨_, rfl, ((two_blocks _ _ _ _ _).alloc (by simp; omega) _).alloc (by simp; omega) _, by simp, ?_, ?_, ?_, ?_⟩
  · exact (heap_alloc_old _ _ (by simp; omega)).trans ((heap_alloc_old _ _ (by simp; omega)).trans ((heap_alloc_old _ _ (by simp)).trans (heap_alloc_at _ _ _ rfl)))
  · exact (heap_alloc_old _ _ (by simp)).trans ((heap_alloc_old _ _ (by simp)).trans (heap_alloc_at _ _ _ (by simp)))
  · exact (heap_alloc_old _ _ (by simp)).trans (heap_alloc_at _ _ _ (by simp))
  · exact heap_alloc_at _ _ _ (by simp)
theorem new_one {W : World} {B b : Nat} (hb : W.heap.size = b) (hB : B ≤ b) (n' : Int) (T : TypeId) : StNew (W.alloc (.cells #[.int .i64 n'] T)).drew B ⟨some ⟨b, 0, none⟩, b, 0, 1, none, 0, 0, 0⟩ ⟨[n'], []⟩ := by
  subst hb
  have hz : (W.alloc (.cells #[.int .i64 n'] T)).drew.heap.size = W.heap.size + 1 := World.size_alloc _ _
  refine ⟨⟨⟨fun _ => rfl, fun _ => (by show W.heap.size < _; omega), by simp [maxLen], fun i hi => ?_⟩, pairs_empty _ _ _ _, fun q => (by cases q), fun _ => ⟨rfl, rfl⟩⟩, fun _ => hB, fun q => absurd rfl q, fun i hi => ?_⟩
  · obtain rfl : i = 0 := by simpa using hi
    exact cell_new W _ T 0
  · obtain rfl : i = 0 := by simpa using hi
    exact frozen_newM W _ T 0
theorem below_six {w wr : World} {N M : Nat} (h : Below w.heap.size w wr) (hN : w.heap.size ≤ N) (hM : w.heap.size ≤ M) (u0 u1 v0 v1 v2 v3 : Value) : Below w.heap.size w ((((((wr.setCell ⟨N, 0, none⟩ u0).setCell ⟨N, 1, none⟩ u1).setCell ⟨M, 0, none⟩ v0).setCell ⟨M, 1, none⟩ v1).setCell ⟨M, 2, none⟩ v2).setCell ⟨M, 3, none⟩ v3) :=
  below_four ((h.setCell (p := ⟨N, 0, none⟩) hN _).setCell (p := ⟨N, 1, none⟩) hN _) hM _ _ _ _
set_option maxRecDepth 100000 in
set_option maxHeartbeats 2000000 in
theorem rdo1_any (t : Int) (ht : t = 1 ∨ t = 2) (x : SX) (s : SD) (o : OpD) (w : World) (h : StAt w x s) (hf : inFm t s = true) (hk : kOk t o.kind = true) :
    Calls Tryd.prog 56 #[.int .i64 t, x.v s, .agg #[.int .i64 o.kind, .int .i64 o.key, .int .i64 o.val, .int .i64 o.hi]] w (RdP w t s o) := by
  rw [inFm_one ht, Bool.and_eq_true, decide_eq_true_eq, decide_eq_true_eq] at hf
  obtain ⟨W0, hW0, BX⟩ := bx7 w x s o
  have HX : Hid (Bx7 w W0 x s o) := BX
  have z0 := BX.z
  obtain ⟨⟨a0, _⟩, ⟨a1, _⟩⟩ := cells2 BX.r0
  obtain ⟨⟨b0, _⟩, ⟨b1, _⟩, ⟨b2, _⟩, ⟨b3, _⟩⟩ := cells4 BX.r1
  obtain ⟨⟨vs, ps⟩, rfl⟩ : ∃ s', s = s' := ⟨s, rfl⟩
  simp only at hf
  obtain ⟨v, rfl⟩ := List.length_eq_one_iff.1 hf.1
  have HA : Hid (StAt w x ⟨[v], ps⟩) := h
  have eb := h.vals.base (by simp)
  have c0 : W0.cell? ⟨x.vg, x.vo, none⟩ = some (.int .i64 v) := by
    have := (h.vals.below BX.b).cells 0 (by simp)
    simpa [oAt] using this
  have E1 : Hid (sStep t ⟨[v], ps⟩ o = ⟨vStep t [v] o, []⟩ ∧ sRet t ⟨[v], ps⟩ o = vRet t [v] o) := ⟨if_neg (by omega), if_neg (by omega)⟩
  have hp0 : (vRet t [v] o).pairs = [] := by
    unfold vRet
    rcases ht with rfl | rfl
    · simp; split
      · rfl
      · split <;> rfl
    · simp
  have NB : Hid (∀ W, Calls Tryd.prog 88 #[.int .i64 t, .int .i64 v, .agg #[.int .i64 o.kind, .int .i64 o.key, .int .i64 o.val, .int .i64 o.hi]] W fun e w' => ∃ n', vStep t [v] o = [n'] ∧ e = .returned (.tuple #[.int .i64 n', retZ (vRet t [v] o)]) ∧ Below W.heap.size W w') := fun W => rnumber_any t v o.kind o.key o.val o.hi W ht hk
  obtain ⟨r, hr⟩ : ∃ r, r = vRet t [v] o := ⟨_, rfl⟩
  simp only [← hr] at NB
  have HR : Hid (r = vRet t [v] o) := hr
  rw [← hr] at hp0
  obtain ⟨r1, r2, r3, r4⟩ := r
  simp only at hp0
  subst hp0
  unfold SX.v
  obtain ⟨va, vg, vo, vc, pa, pg, po, pc⟩ := x
  simp only at eb c0 a0 a1 HA HX hW0 ⊢
  subst eb
  have e1 : (t == 1 || t == 2) = true := by rcases ht with rfl | rfl <;> rfl
  clear h hf hk BX hr
  simp only [retZ] at NB
  have l0 : w.heap.size < W0.heap.size := by omega
  have l1 : w.heap.size + 1 < W0.heap.size := by omega
  have l2 : vg < W0.heap.size := World.block_lt_of_cell? W0 _ c0
  simp only [List.length_cons, List.length_nil, Nat.zero_add] at *
  have KB1 : Hid (∀ w1, Below W0.drew.heap.size W0.drew w1 → Below W0.heap.size W0 w1) := fun w1 hb => (Below.refl _ W0).drew.trans hb
  have KB2 : Hid (∀ w1, Below (W0.alloc (.cells #[.bool false, .int .i64 0, .int .i64 0, .slice none 0 0] 45)).drew.heap.size (W0.alloc (.cells #[.bool false, .int .i64 0, .int .i64 0, .slice none 0 0] 45)).drew w1 → Below W0.heap.size W0 w1 ∧ w1.heap[w.heap.size + 4]? = some (.cells #[.bool false, .int .i64 0, .int .i64 0, .slice none 0 0] 45) ∧ w.heap.size + 4 < w1.heap.size) := fun w1 hb => by
    have hz : (W0.alloc (.cells #[.bool false, .int .i64 0, .int .i64 0, .slice none 0 0] 45)).drew.heap.size = W0.heap.size + 1 := World.size_alloc _ _
    have h1 := hb.size
    exact ⟨(below_alloc W0 _).drew.trans (hb.mono (by omega)), (hb.block _ (by omega)).trans (heap_alloc_at W0 _ _ z0.symm), by omega⟩
  have KS : Hid (∀ w', Below W0.heap.size W0 w' → (w'.cell? ⟨w.heap.size, 0, none⟩ = some (.slice (some ⟨vg, vo, none⟩) 1 vc) ∧ w'.cell? ⟨w.heap.size + 1, 0, none⟩ = some (.int .i64 o.kind) ∧ w'.cell? ⟨w.heap.size + 1, 1, none⟩ = some (.int .i64 o.key) ∧ w'.cell? ⟨w.heap.size + 1, 2, none⟩ = some (.int .i64 o.val) ∧ w'.cell? ⟨w.heap.size + 1, 3, none⟩ = some (.int .i64 o.hi) ∧ w'.cell? ⟨vg, vo, none⟩ = some (.int .i64 v))) := fun w' hb => ⟨(hb.cell (p := ⟨_, 0, none⟩) l0).trans a0, (hb.cell (p := ⟨_, 0, none⟩) l1).trans b0, (hb.cell (p := ⟨_, 1, none⟩) l1).trans b1, (hb.cell (p := ⟨_, 2, none⟩) l1).trans b2, (hb.cell (p := ⟨_, 3, none⟩) l1).trans b3, (hb.cell (p := ⟨_, _, none⟩) l2).trans c0⟩
  rcases ht with rfl | rfl
  · go_enter Tryd.func56, Tryd.ntmps56
    go_upto_region 1 with fail
    rw [← hW0]
    clear hW0
    go_upto_region 4 with fail
    go_cut [8, 9] from 19 to 28 (fun v8 v9 wx => ∃ (n' : Int) (b9 : Nat), v8 = .int .i64 n' ∧ v9 = .pointer (some ⟨b9, 0, none⟩) ∧ vStep 1 [v] o = [n'] ∧ Below W0.heap.size W0 wx ∧ wx.heap[b9]? = some (.cells #[.bool r1, .int .i64 r2, .int .i64 r3, .slice none 0 0] 45) ∧ W0.heap.size ≤ b9)
    case first =>
      go_region_held3 (fun w' => w'.cell? ⟨w.heap.size, 0, none⟩ = some (.slice (some ⟨vg, vo, none⟩) 1 vc) ∧ w'.cell? ⟨w.heap.size + 1, 0, none⟩ = some (.int .i64 o.kind) ∧ w'.cell? ⟨w.heap.size + 1, 1, none⟩ = some (.int .i64 o.key) ∧ w'.cell? ⟨w.heap.size + 1, 2, none⟩ = some (.int .i64 o.val) ∧ w'.cell? ⟨w.heap.size + 1, 3, none⟩ = some (.int .i64 o.hi) ∧ w'.cell? ⟨vg, vo, none⟩ = some (.int .i64 v))
        (first | exact KS.out _ B1.out | exact KS.out _ (B1.out.alloc B1.out.size _) | exact KS.out _ (below_four B1.out (Nat.le_of_eq HX.out.z) _ _ _ _) | go_keep)
        (first | (go_at_call 88; refine (NB.out _).mono ?_; rintro e w1 ⟨n', hn', rfl, hb1⟩; have HN : Hid (vStep 1 [v] o = [n']) := hn'; (first | (have B1 : Hid (Below W0.heap.size W0 w1) := KB1.out _ hb1) | (have K2 := KB2.out _ hb1; have B1 : Hid (Below W0.heap.size W0 w1) := K2.1; have Y4 : Hid (w1.heap[w.heap.size + 4]? = some (.cells #[.bool false, .int .i64 0, .int .i64 0, .slice none 0 0] 45)) := K2.2.1; obtain ⟨⟨y0, y1⟩, ⟨y2, y3⟩, ⟨y4, y5⟩, ⟨y6, y7⟩⟩ := cells4 K2.2.1; have z2 := K2.2.2; clear K2)); clear hn' hb1))
      all_goals go_wp2_with fail
      all_goals go_meet
      all_goals first | exact ⟨_, _, rfl, rfl, HN.out, B1.out.alloc B1.out.size _, heap_alloc_at _ _ _ rfl, B1.out.size⟩ | exact ⟨_, _, rfl, rfl, HN.out, below_four B1.out (Nat.le_of_eq HX.out.z) _ _ _ _, cells4_set Y4.out _ _ _ _, Nat.le_of_eq HX.out.z⟩
    case rest =>
      obtain ⟨n', b9, rfl, rfl, hn', hb, h9, hz9⟩ := hcut
      have HN : Hid (vStep 1 [v] o = [n']) := hn'
      have HB : Hid (Below W0.heap.size W0 wc) := hb
      have zc := hb.size
      obtain ⟨⟨y0, _⟩, ⟨y1, _⟩, ⟨y2, _⟩, ⟨y3, _⟩⟩ := cells4 h9
      obtain ⟨⟨p0, p1⟩, ⟨p2, p3⟩⟩ := cells2 ((hb.block (w.heap.size + 1 + 1) (by omega)).trans HX.out.r2)
      obtain ⟨⟨s0, s1⟩, ⟨s2, s3⟩, ⟨s4, s5⟩, ⟨s6, s7⟩⟩ := cells4 ((hb.block (w.heap.size + 1 + 1 + 1) (by omega)).trans HX.out.r3)
      have x1 : b9 ≠ w.heap.size + 1 + 1 := by omega
      have x3 : w.heap.size + 1 + 1 < wc.heap.size := by omega
      have x4 : w.heap.size + 1 + 1 + 1 < wc.heap.size := by omega
      have x2 : b9 ≠ w.heap.size + 1 + 1 + 1 := by omega
      have l9 : b9 < wc.heap.size := (Array.getElem?_eq_some_iff.1 h9).1
      clear hn' hb h9 KB1 KB2 KS NB
      go_wp2_with fail
      go_region
      go_wp2_with fail
      have BW : Below w.heap.size w wc := HX.out.b.trans (HB.out.mono (by omega))
      refine bodyPost_ret (v := .tuple #[.agg #[.slice (some ⟨wc.heap.size, 0, none⟩) 1 1, .slice none 0 0], .agg #[.bool r1, .int .i64 r2, .int .i64 r3, .slice none 0 0]]) ?_ rfl ⟨⟨some ⟨wc.heap.size, 0, none⟩, wc.heap.size, 0, 1, none, 0, 0, 0⟩, none, 0, 0, ?_, ?_, ?_, ?_, ?_, fun _ => rfl⟩
      · rw [results_c2 rfl]; go_simp
      · rw [E1.out.1, E1.out.2, HN.out, ← HR.out]; rfl
      · exact ((below_six BW (by omega) (by omega) _ _ _ _ _ _).alloc (by simp; omega) _).drew
      · rw [E1.out.1, HN.out]
        exact new_one (by simp) (by omega) _ _
      · rw [E1.out.2, ← HR.out]
        exact pairs_empty _ _ _ _
      · rw [E1.out.2, ← HR.out]
        intro q; exact absurd rfl q
  · go_enter Tryd.func56, Tryd.ntmps56
    go_upto_region 1 with fail
    rw [← hW0]
    clear hW0
    go_upto_region 4 with fail
    go_cut [8, 9] from 19 to 28 (fun v8 v9 wx => ∃ (n' : Int) (b9 : Nat), v8 = .int .i64 n' ∧ v9 = .pointer (some ⟨b9, 0, none⟩) ∧ vStep 2 [v] o = [n'] ∧ Below W0.heap.size W0 wx ∧ wx.heap[b9]? = some (.cells #[.bool r1, .int .i64 r2, .int .i64 r3, .slice none 0 0] 45) ∧ W0.heap.size ≤ b9)
    case first =>
      go_region_held3 (fun w' => w'.cell? ⟨w.heap.size, 0, none⟩ = some (.slice (some ⟨vg, vo, none⟩) 1 vc) ∧ w'.cell? ⟨w.heap.size + 1, 0, none⟩ = some (.int .i64 o.kind) ∧ w'.cell? ⟨w.heap.size + 1, 1, none⟩ = some (.int .i64 o.key) ∧ w'.cell? ⟨w.heap.size + 1, 2, none⟩ = some (.int .i64 o.val) ∧ w'.cell? ⟨w.heap.size + 1, 3, none⟩ = some (.int .i64 o.hi) ∧ w'.cell? ⟨vg, vo, none⟩ = some (.int .i64 v))
        (first | exact KS.out _ B1.out | exact KS.out _ (B1.out.alloc B1.out.size _) | exact KS.out _ (below_four B1.out (Nat.le_of_eq HX.out.z) _ _ _ _) | go_keep)
        (first | (go_at_call 88; refine (NB.out _).mono ?_; rintro e w1 ⟨n', hn', rfl, hb1⟩; have HN : Hid (vStep 2 [v] o = [n']) := hn'; (first | (have B1 : Hid (Below W0.heap.size W0 w1) := KB1.out _ hb1) | (have K2 := KB2.out _ hb1; have B1 : Hid (Below W0.heap.size W0 w1) := K2.1; have Y4 : Hid (w1.heap[w.heap.size + 4]? = some (.cells #[.bool false, .int .i64 0, .int .i64 0, .slice none 0 0] 45)) := K2.2.1; obtain ⟨⟨y0, y1⟩, ⟨y2, y3⟩, ⟨y4, y5⟩, ⟨y6, y7⟩⟩ := cells4 K2.2.1; have z2 := K2.2.2; clear K2)); clear hn' hb1))
      all_goals go_wp2_with fail
      all_goals go_meet
      all_goals first | exact ⟨_, _, rfl, rfl, HN.out, B1.out.alloc B1.out.size _, heap_alloc_at _ _ _ rfl, B1.out.size⟩ | exact ⟨_, _, rfl, rfl, HN.out, below_four B1.out (Nat.le_of_eq HX.out.z) _ _ _ _, cells4_set Y4.out _ _ _ _, Nat.le_of_eq HX.out.z⟩
    case rest =>
      obtain ⟨n', b9, rfl, rfl, hn', hb, h9, hz9⟩ := hcut
      have HN : Hid (vStep 2 [v] o = [n']) := hn'
      have HB : Hid (Below W0.heap.size W0 wc) := hb
      have zc := hb.size
      obtain ⟨⟨y0, _⟩, ⟨y1, _⟩, ⟨y2, _⟩, ⟨y3, _⟩⟩ := cells4 h9
      obtain ⟨⟨p0, p1⟩, ⟨p2, p3⟩⟩ := cells2 ((hb.block (w.heap.size + 1 + 1) (by omega)).trans HX.out.r2)
      obtain ⟨⟨s0, s1⟩, ⟨s2, s3⟩, ⟨s4, s5⟩, ⟨s6, s7⟩⟩ := cells4 ((hb.block (w.heap.size + 1 + 1 + 1) (by omega)).trans HX.out.r3)
      have x1 : b9 ≠ w.heap.size + 1 + 1 := by omega
      have x3 : w.heap.size + 1 + 1 < wc.heap.size := by omega
      have x4 : w.heap.size + 1 + 1 + 1 < wc.heap.size := by omega
      have x2 : b9 ≠ w.heap.size + 1 + 1 + 1 := by omega
      have l9 : b9 < wc.heap.size := (Array.getElem?_eq_some_iff.1 h9).1
      clear hn' hb h9 KB1 KB2 KS NB
      go_wp2_with fail
      go_region
      go_wp2_with fail
      have BW : Below w.heap.size w wc := HX.out.b.trans (HB.out.mono (by omega))
      refine bodyPost_ret (v := .tuple #[.agg #[.slice (some ⟨wc.heap.size, 0, none⟩) 1 1, .slice none 0 0], .agg #[.bool r1, .int .i64 r2, .int .i64 r3, .slice none 0 0]]) ?_ rfl ⟨⟨some ⟨wc.heap.size, 0, none⟩, wc.heap.size, 0, 1, none, 0, 0, 0⟩, none, 0, 0, ?_, ?_, ?_, ?_, ?_, fun _ => rfl⟩
      · rw [results_c2 rfl]; go_simp
      · rw [E1.out.1, E1.out.2, HN.out, ← HR.out]; rfl
      · exact ((below_six BW (by omega) (by omega) _ _ _ _ _ _).alloc (by simp; omega) _).drew
      · rw [E1.out.1, HN.out]
        exact new_one (by simp) (by omega) _ _
      · rw [E1.out.2, ← HR.out]
        exact pairs_empty _ _ _ _
      · rw [E1.out.2, ← HR.out]
        intro q; exact absurd rfl q
end Go.Proofs.YtcphajjonecmbaaDoor

namespace Go.Proofs.YtcphajjonecmbaaDoor

open Go.RowKit Go.Deep

attribute [local go_sem ↓] Go.wp_at_zero Go.wp_at_succ

theorem vRet_row {t : Int} (ht : t = 3 ∨ t = 4) (vs : List Int) (o : OpD) : (vRet t vs o).pairs = [] := by
  unfold vRet
  rw [if_neg (by omega), if_neg (by omega)]
  split
  · rfl
  · split
    · rfl
    · split <;> rfl
theorem stnew_of_ro {w : World} {B g o c : Nat} {xs : List Int} (h : RoO w B g o c xs) : StNew w B ⟨some ⟨g, o, none⟩, g, o, c, none, 0, 0, 0⟩ ⟨xs, []⟩ :=
  ⟨⟨h.ord, pairs_empty _ _ _ _, fun q => (by cases q), fun _ => ⟨rfl, rfl⟩⟩, fun _ => h.gB, fun q => absurd rfl q, fun i hi => (h.there i (Nat.lt_of_lt_of_le hi h.le)).2⟩
set_option maxRecDepth 100000 in
set_option maxHeartbeats 2000000 in
theorem rdo3_any (t : Int) (ht : t = 3 ∨ t = 4) (x : SX) (s : SD) (o : OpD) (w : World) (h : StAt w x s) (hby : (s.vals.length + 1) * 8 ≤ 140737488355328) :
    Calls Tryd.prog 56 #[.int .i64 t, x.v s, .agg #[.int .i64 o.kind, .int .i64 o.key, .int .i64 o.val, .int .i64 o.hi]] w (RdP w t s o) := by
  obtain ⟨W0, hW0, BX⟩ := bx7 w x s o
  have HX : Hid (Bx7 w W0 x s o) := BX
  have z0 := BX.z
  obtain ⟨⟨a0, _⟩, ⟨a1, _⟩⟩ := cells2 BX.r0
  obtain ⟨⟨b0, _⟩, ⟨b1, _⟩, ⟨b2, _⟩, ⟨b3, _⟩⟩ := cells4 BX.r1
  have E1 : Hid (sStep t s o = ⟨vStep t s.vals o, []⟩ ∧ sRet t s o = vRet t s.vals o) := ⟨if_neg (by omega), if_neg (by omega)⟩
  have hp0 := vRet_row ht s.vals o
  have RW : Hid (Calls Tryd.prog 90 #[.int .i64 t, .slice x.va s.vals.length x.vc, .agg #[.int .i64 o.kind, .int .i64 o.key, .int .i64 o.val, .int .i64 o.hi]] W0 (RowP W0 t s.vals o)) := rrow_any t ht x.va x.vg x.vo x.vc s.vals o W0 (h.vals.below BX.b) h.vnil hby
  unfold RowP at RW
  obtain ⟨r, hr⟩ : ∃ r, r = vRet t s.vals o := ⟨_, rfl⟩
  simp only [← hr] at RW hp0
  have HR : Hid (r = vRet t s.vals o) := hr
  obtain ⟨r1, r2, r3, r4⟩ := r
  simp only at hp0
  subst hp0
  obtain ⟨N, hN⟩ : ∃ N, N = (vStep t s.vals o).length := ⟨_, rfl⟩
  have HN : Hid (N = (vStep t s.vals o).length) := hN
  simp only [← hN, retZ] at RW
  unfold SX.v
  have t1 : (t == 1) = false := by rcases ht with rfl | rfl <;> rfl
  have t2 : (t == 2) = false := by rcases ht with rfl | rfl <;> rfl
  have t5 : (t == 5) = false := by rcases ht with rfl | rfl <;> rfl
  clear h BX hr hN hby ht
  go_enter Tryd.func56, Tryd.ntmps56
  go_upto_region 1 with fail
  rw [← hW0]
  clear hW0
  go_wp2_with (first | (go_at_call 90; refine RW.out.mono ?_; rintro e w1 ⟨g', o', c', rfl, hro, hb1⟩; have RO : Hid (RoO w1 W0.heap.size g' o' c' (vStep t s.vals o)) := hro; have B1 : Hid (Below W0.heap.size W0 w1) := hb1; have z1 := hb1.size; have x3 : w.heap.size + 1 + 1 < w1.heap.size := (by omega); have x4 : w.heap.size + 1 + 1 + 1 < w1.heap.size := (by omega); have G2 := (hb1.block (w.heap.size + 1 + 1) (by omega)).trans HX.out.r2; have G3 := (hb1.block (w.heap.size + 1 + 1 + 1) (by omega)).trans HX.out.r3; obtain ⟨⟨p0, p1⟩, ⟨p2, p3⟩⟩ := cells2 G2; obtain ⟨⟨s0, s1⟩, ⟨s2, s3⟩, ⟨s4, s5⟩, ⟨s6, s7⟩⟩ := cells4 G3; clear hro hb1 G2 G3))
  go_region
  go_wp2_with fail
  have BW : Below w.heap.size w w1 := HX.out.b.trans (B1.out.mono (by omega))
  refine bodyPost_ret (v := .tuple #[.agg #[.slice (some ⟨g', o', none⟩) N c', .slice none 0 0], .agg #[.bool r1, .int .i64 r2, .int .i64 r3, .slice none 0 0]]) ?_ rfl ⟨⟨some ⟨g', o', none⟩, g', o', c', none, 0, 0, 0⟩, none, 0, 0, ?_, ?_, ?_, ?_, ?_, fun _ => rfl⟩
  · rw [results_c2 rfl]; go_simp
  · rw [E1.out.1, E1.out.2, HN.out, ← HR.out]; rfl
  · exact ((below_six BW (by omega) (by omega) _ _ _ _ _ _).alloc (by simp; omega) _).drew
  · rw [E1.out.1]
    have hg := RO.out.gB
    refine stnew_of_ro ((RO.out.kept (by simp) ?_).down (by omega))
    show (World.alloc _ _).heap[g']? = _
    rw [heap_alloc_old _ _ (by simpa using RO.out.lt), heap_four _ (by omega), heap_two _ (by omega)]
  · rw [E1.out.2, ← HR.out]
    exact pairs_empty _ _ _ _
  · rw [E1.out.2, ← HR.out]
    intro q; exact absurd rfl q
theorem kdErr_ok {k : Int} (h : kOk 5 k = true) : kdErr k = 0 := by
  simp [kOk, kMax] at h
  unfold kdErr
  rw [if_neg (by omega)]
set_option maxRecDepth 100000 in
set_option maxHeartbeats 2000000 in
theorem rdo5_any (x : SX) (s : SD) (o : OpD) (w : World) (h : StAt w x s) (hf : inFm 5 s = true) (hk : kOk 5 o.kind = true) (hby : (s.prs.length + 2) * 16 ≤ 140737488355328) :
    Calls Tryd.prog 56 #[.int .i64 5, x.v s, .agg #[.int .i64 o.kind, .int .i64 o.key, .int .i64 o.val, .int .i64 o.hi]] w (RdP w 5 s o) := by
  rw [inFm_map, Bool.and_eq_true, decide_eq_true_eq, decide_eq_true_eq] at hf
  obtain ⟨W0, hW0, BX⟩ := bx7 w x s o
  have HX : Hid (Bx7 w W0 x s o) := BX
  have z0 := BX.z
  obtain ⟨⟨a0, _⟩, ⟨a1, _⟩⟩ := cells2 BX.r0
  obtain ⟨⟨b0, _⟩, ⟨b1, _⟩, ⟨b2, _⟩, ⟨b3, _⟩⟩ := cells4 BX.r1
  have E1 : Hid (sStep 5 s o = ⟨[], stepL s.prs o⟩ ∧ sRet 5 s o = stepR s.prs o) := ⟨rfl, rfl⟩
  have E0 : doErr s.prs o = 0 := by unfold doErr; rw [if_pos hf.2]; exact kdErr_ok hk
  have DO := rDo_any x.pa x.pg x.po x.pc s.prs o W0 (h.prs.below BX.b) h.pnil hby
  unfold DoP at DO
  rw [show doL s.prs o = stepL s.prs o from if_pos E0, show doR s.prs o = stepR s.prs o from if_pos E0, E0] at DO
  obtain ⟨r, hr⟩ : ∃ r, r = stepR s.prs o := ⟨_, rfl⟩
  obtain ⟨L, hL⟩ : ∃ L, L = stepL s.prs o := ⟨_, rfl⟩
  simp only [← hr, ← hL] at DO
  have HR : Hid (r = stepR s.prs o) := hr
  have HL : Hid (L = stepL s.prs o) := hL
  obtain ⟨r1, r2, r3, r4⟩ := r
  simp only at DO
  have RW : Hid (Calls Tryd.prog 89 #[.slice x.pa s.prs.length x.pc, .agg #[.int .i64 o.kind, .int .i64 o.key, .int .i64 o.val, .int .i64 o.hi]] W0 fun e w' => ∃ a1 n1 c1 g1 a2 n2 c2 g2, e = .returned (.tuple #[.slice a1 n1 c1, .agg #[.bool r1, .int .i64 r2, .int .i64 r3, .slice a2 n2 c2], .int .i64 0]) ∧ Below W0.heap.size W0 w' ∧ (n1 = L.length ∧ (n1 ≠ 0 → W0.heap.size ≤ g1) ∧ PairsAt w' a1 g1 0 L ∧ (a1 = none → c1 = 0)) ∧ (n2 = r4.length ∧ (n2 ≠ 0 → W0.heap.size ≤ g2) ∧ PairsAt w' a2 g2 0 r4 ∧ (a2 = none → c2 = 0))) := DO.mono (fun e w' h => by
    obtain ⟨v1, a2, n2, c2, rfl, hb, ⟨a, g, cap, rfl, h1, h2, h3⟩, ⟨a', g', cap', h0, h4, h5, h6⟩⟩ := h
    injection h0 with q1 q2 q3
    subst q1 q2 q3
    exact ⟨a, _, cap, g, a2, _, c2, g', rfl, hb, ⟨rfl, h1, h2, h3⟩, ⟨rfl, h4, h5, h6⟩⟩)
  unfold SX.v
  clear h BX hr hL hby hf hk DO E0
  go_enter Tryd.func56, Tryd.ntmps56
  go_upto_region 1 with fail
  rw [← hW0]
  clear hW0
  go_wp2_with (first | (go_at_call 89; refine RW.out.mono ?_; rintro e w1 ⟨a1, n1, c1, g1, a2, n2, c2, g2, rfl, hb1, hp1, hp2⟩; have P1 : Hid (n1 = L.length ∧ (n1 ≠ 0 → W0.heap.size ≤ g1) ∧ PairsAt w1 a1 g1 0 L ∧ (a1 = none → c1 = 0)) := hp1; have P2 : Hid (n2 = r4.length ∧ (n2 ≠ 0 → W0.heap.size ≤ g2) ∧ PairsAt w1 a2 g2 0 r4 ∧ (a2 = none → c2 = 0)) := hp2; have B1 : Hid (Below W0.heap.size W0 w1) := hb1; have z1 := hb1.size; have x3 : w.heap.size + 1 + 1 < w1.heap.size := (by omega); have x4 : w.heap.size + 1 + 1 + 1 < w1.heap.size := (by omega); have G2 := (hb1.block (w.heap.size + 1 + 1) (by omega)).trans HX.out.r2; have G3 := (hb1.block (w.heap.size + 1 + 1 + 1) (by omega)).trans HX.out.r3; obtain ⟨⟨p0, p1⟩, ⟨p2, p3⟩⟩ := cells2 G2; obtain ⟨⟨s0, s1⟩, ⟨s2, s3⟩, ⟨s4, s5⟩, ⟨s6, s7⟩⟩ := cells4 G3; clear hp1 hp2 hb1 G2 G3))
  go_region
  go_wp2_with fail
  have BW : Below w.heap.size w w1 := HX.out.b.trans (B1.out.mono (by omega))
  refine bodyPost_ret (v := .tuple #[.agg #[.slice none 0 0, .slice a1 n1 c1], .agg #[.bool r1, .int .i64 r2, .int .i64 r3, .slice a2 n2 c2]]) ?_ rfl ⟨⟨none, 0, 0, 0, a1, g1, 0, c1⟩, a2, g2, c2, ?_, ?_, ?_, ?_, ?_, P2.out.2.2.2⟩
  · rw [results_c2 rfl]; go_simp
  · rw [E1.out.1, E1.out.2, ← HR.out, ← HL.out, P1.out.1, P2.out.1]; rfl
  · exact ((below_six BW (by omega) (by omega) _ _ _ _ _ _).alloc (by simp; omega) _).drew
  · rw [E1.out.1, ← HL.out]
    have hn : ∀ q : L.length ≠ 0, w.heap.size ≤ g1 := fun q => by
      have := P1.out.2.1 (by rw [P1.out.1]; exact q)
      omega
    refine ⟨⟨ord_empty _ _ _ _, P1.out.2.2.1.high (B := W0.heap.size) (by simp) (fun k hk hl => ?_) (fun q => P1.out.2.1 (by rw [P1.out.1]; exact q)), fun _ => ⟨rfl, rfl⟩, fun q => ⟨?_, P1.out.2.2.2 q⟩⟩, fun q => absurd rfl q, hn, fun i hi => by simp at hi⟩
    · show (World.alloc _ _).heap[k]? = _
      rw [heap_alloc_old _ _ (by simpa using hl), heap_four _ (by omega), heap_two _ (by omega)]
    · by_cases e : L.length = 0
      · exact e
      · have := P1.out.2.2.1.base e
        rw [show a1 = none from q] at this
        cases this
  · rw [E1.out.2, ← HR.out]
    refine P2.out.2.2.1.high (B := W0.heap.size) (by simp) (fun k hk hl => ?_) (fun q => P2.out.2.1 (by rw [P2.out.1]; exact q))
    show (World.alloc _ _).heap[k]? = _
    rw [heap_alloc_old _ _ (by simpa using hl), heap_four _ (by omega), heap_two _ (by omega)]
  · rw [E1.out.2, ← HR.out]
    intro q
    have := P2.out.2.1 (by rw [P2.out.1]; exact q)
    omega
/-- do of any thing. -/
theorem rdo_any (t : Int) (x : SX) (s : SD) (o : OpD) (w : World) (h : StAt w x s) (he : sErr t s = 0) (hk : kOk t o.kind = true) (hv : s.vals.length ≤ 2000000000) (hp : s.prs.length ≤ 2000000000) :
    Calls Tryd.prog 56 #[.int .i64 t, x.v s, .agg #[.int .i64 o.kind, .int .i64 o.key, .int .i64 o.val, .int .i64 o.hi]] w (RdP w t s o) := by
  obtain ⟨ht, hf⟩ := sErr_zero.1 he
  have hc : (t = 1 ∨ t = 2) ∨ (t = 3 ∨ t = 4) ∨ t = 5 := by omega
  rcases hc with hc | hc | rfl
  · exact rdo1_any t hc x s o w h hf hk
  · exact rdo3_any t hc x s o w h (by omega)
  · exact rdo5_any x s o w h hf hk (by omega)
end Go.Proofs.YtcphajjonecmbaaDoor
