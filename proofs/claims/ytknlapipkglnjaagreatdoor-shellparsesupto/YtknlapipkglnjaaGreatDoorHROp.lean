
/- Layer 28: the document's opOf. -/

import Derived.Test.YtknlapipkglnjaaGreatDoorHOpP

import Derived.Laws.ResultCell

namespace Go.Proofs.YtknlapipkglnjaaGreatDoor

open Go.RowKit

attribute [local go_sem ↓] Go.wp_at_zero Go.wp_at_succ

theorem head_getD {ws : List (List UInt8)} (h : ws ≠ []) : ws.head? = some (ws.getD 0 []) := by
  cases ws with
  | nil => exact absurd rfl h
  | cons x y => rfl
set_option maxRecDepth 100000 in
set_option maxHeartbeats 8000000 in
theorem rOpOf_any (ws : List (List UInt8)) (base : Option Addr) (cap g : Nat) (w : World) (hb : ws ≠ [] → base = some ⟨g, 0, none⟩) (hc : ∀ j, j < ws.length → w.cell? ⟨g, j, none⟩ = some (.string ⟨(ws.getD j []).toArray⟩)) (hw : ∀ j, (ws.getD j []).length ≤ 2000000) (hn : ws.length ≤ 4000000) :
    Calls Tryz.prog 33 #[.slice base ws.length cap] w fun e w' => OpOut ws e ∧ Below w.heap.size w w' := by
  have n0 : (ws.length : Int) ≤ 4000000 := by omega
  have HC : Hid (∀ j, j < ws.length → w.cell? ⟨g, j, none⟩ = some (.string ⟨(ws.getD j []).toArray⟩)) := hc
  have HW : Hid (∀ j, (ws.getD j []).length ≤ 2000000) := hw
  have HB : Hid (ws ≠ [] → base = some ⟨g, 0, none⟩) := hb
  have CW : Hid (∀ j, j < ws.length → (w.alloc (.cells #[.int .i64 0, .int .i64 0, .int .i64 0, .int .i64 0] 39)).cell? ⟨g, j, none⟩ = some (.string ⟨(ws.getD j []).toArray⟩)) := fun j hj => ((below_alloc w _).cell (p := ⟨g, j, none⟩) (World.block_lt_of_cell? w _ (hc j hj))).trans (hc j hj)
  clear hb hc hw hn
  go_enter Tryz.func33, Tryz.ntmps33
  go_wp2_with fail
  go_loopw [4] (fun vk wr => ∃ j : Nat, 1 ≤ j ∧ j ≤ 10 ∧ vk = .int .i64 j ∧ (∀ m, 1 ≤ m → m < j → ws.head? ≠ some (wordL m)) ∧ wr = (w.alloc (.cells #[.int .i64 0, .int .i64 0, .int .i64 0, .int .i64 0] 39))) (fun vk _ => 10 - (intOf vk).toNat)
  case atStart => exact ⟨1, by omega, by omega, rfl, fun m h1 h2 => by omega, rfl⟩
  case round =>
    obtain ⟨j, j1, j10, rfl, hm, rfl⟩ := hrel
    have HM : Hid (∀ m, 1 ≤ m → m < j → ws.head? ≠ some (wordL m)) := hm
    clear hm
    by_cases h10 : j = 10
    · subst h10
      have HN : Hid (∀ k V, ¬ OpIs ws k V) := fun k V q => HM.out k q.lo (by have := q.hi; omega) q.hd
      go_wp2_with fail
      refine bodyPost_ret (v := .tuple #[opV ⟨0, 0, 0, 0⟩, .bool false]) ?_ rfl ⟨Or.inr ⟨HN.out, rfl⟩, below_alloc _ _⟩
      rw [results_cell_tmp rfl]
      go_simp
      rfl
    · have i1 : (1 : Int) ≤ (j : Int) := by omega
      have i9 : (j : Int) ≤ 9 := by omega
      have hcn := cnt_fld j
      have hf2 := fld_len j
      obtain ⟨n, hnn⟩ : ∃ n, n = (fldL j).length := ⟨_, rfl⟩
      have HNN : Hid (n = (fldL j).length) := hnn
      rw [← hnn] at hcn hf2
      have WA : Hid (∀ W : World, Calls Tryz.prog 49 #[.int .i64 (j : Int)] W fun e w' => e = .returned (.tuple #[.string ⟨(wordL j).toArray⟩, .int .i64 (n : Int)]) ∧ w' = W) := fun W => by
        have := word_any (j : Int) W
        rw [hcn] at this
        exact this
      obtain ⟨X, hX⟩ : ∃ X, X = wordL j := ⟨_, rfl⟩
      have HX : Hid (X = wordL j) := hX
      rw [← hX] at WA
      clear h10 hnn hcn hX
      have nn0 : (0 : Int) ≤ (n : Int) := Int.natCast_nonneg _
      have nn2 : (n : Int) ≤ 2 := by omega
      by_cases hne : ws = []
      · have HG : Hid (∀ m, 1 ≤ m → m < j + 1 → ws.head? ≠ some (wordL m)) := fun m _ _ => by rw [hne]; intro q; cases q
        have hl0 : (ws.length : Int) = 0 := by rw [hne]; rfl
        clear hne
        go_wp2_with (first | (go_at_call 49; refine (WA.out _).mono ?_; rintro e w1 ⟨rfl, rfl⟩))
        exact ⟨⟨j + 1, by omega, by omega, by go_num, HG.out, trivial⟩, by simp [intOf]; omega⟩
      · obtain rfl := HB.out hne
        have hpos : 0 < ws.length := by cases ws with | nil => exact absurd rfl hne | cons x y => simp
        have hl1 : 1 ≤ (ws.length : Int) := by omega
        have z0 : ((ws.length : Int) == 0) = false := beq_eq_false_iff_ne.2 (by omega)
        have hc0 := CW.out 0 hpos
        have HH : Hid (ws.head? = some (ws.getD 0 [])) := head_getD hne
        obtain ⟨Y, hY⟩ : ∃ Y, Y = ws.getD 0 [] := ⟨_, rfl⟩
        rw [← hY] at hc0 HH
        clear hne hY
        by_cases hxy : Y = X
        · subst hxy
          by_cases hln : ws.length = n + 1
          · have hln' : (ws.length : Int) = (n : Int) + 1 := by omega
            have z1 : ((n : Int) + 1 == 0) = false := beq_eq_false_iff_ne.2 (by omega)
            go_wp2_with (first | (go_at_call 49; refine (WA.out _).mono ?_; rintro e w1 ⟨rfl, rfl⟩))
            go_loopw [8] (fun vi wr => ∃ (i : Nat) (V : List Int), V.length + 1 = i ∧ i ≤ n + 1 ∧ vi = .int .i64 i ∧ (∀ m, m < V.length → numOf (ws.getD (m + 1) []) = some (V.getD m 0)) ∧ wr = (w.alloc (.cells #[.int .i64 0, .int .i64 0, .int .i64 0, .int .i64 0] 39)).alloc (.cells #[.int .i64 (j : Int), .int .i64 (fillOp j V).key, .int .i64 (fillOp j V).val, .int .i64 (fillOp j V).hi] 39)) (fun vi _ => n + 2 - (intOf vi).toNat)
            case atStart => exact ⟨1, [], rfl, by omega, rfl, fun m h => (by cases h), by simp [fillOp]⟩
            case round =>
              obtain ⟨i, V, hVi, hin, rfl, hV, rfl⟩ := hrel
              have HV : Hid (∀ m, m < V.length → numOf (ws.getD (m + 1) []) = some (V.getD m 0)) := hV
              have B2 : Hid (Below w.heap.size w ((w.alloc (.cells #[.int .i64 0, .int .i64 0, .int .i64 0, .int .i64 0] 39)).alloc (.cells #[.int .i64 (j : Int), .int .i64 (fillOp j V).key, .int .i64 (fillOp j V).val, .int .i64 (fillOp j V).hi] 39))) := (below_alloc w _).alloc (by simp) _
              clear hV
              have e0 : (0 : Int) ≤ (i : Int) := Int.natCast_nonneg _
              by_cases hv : i ≤ n
              · have hv' : (i : Int) ≤ (n : Int) := by omega
                have hv2 : (i : Int) < (n : Int) + 1 := by omega
                have c1 : ((w.alloc (.cells #[.int .i64 0, .int .i64 0, .int .i64 0, .int .i64 0] 39)).alloc (.cells #[.int .i64 (j : Int), .int .i64 (fillOp j V).key, .int .i64 (fillOp j V).val, .int .i64 (fillOp j V).hi] 39)).cell? ⟨g, i, none⟩ = some (.string ⟨(ws.getD i []).toArray⟩) := (B2.out.cell (p := ⟨g, i, none⟩) (World.block_lt_of_cell? w _ (HC.out i (by omega)))).trans (HC.out i (by omega))
                have RD := read_any (ws.getD i []) (HW.out i)
                cases hnum : numOf (ws.getD i []) with
                | none =>
                  have RA : Hid (∀ W : World, Calls Tryz.prog 32 #[.string ⟨(ws.getD i []).toArray⟩] W fun e w' => e = .returned (.tuple #[.int .i64 0, .bool false]) ∧ w' = W) := fun W => (RD W).mono (by rintro e w' ⟨h1, rfl⟩; unfold RdOut at h1; rw [hnum] at h1; exact ⟨h1, rfl⟩)
                  have HN : Hid (∀ k V, ¬ OpIs ws k V) := fun k U q => by
                    have e : k = j := word_inj q.lo q.hi j1 (by omega) (Option.some.inj (q.hd.symm.trans (HH.out.trans (by rw [HX.out]))))
                    subst e
                    have q1 := q.nums (i - 1) (by have := q.vs; have := HNN.out; omega)
                    rw [show i - 1 + 1 = i by omega, hnum] at q1
                    cases q1
                  clear RD hnum
                  generalize ws.getD i [] = L at *
                  generalize (fillOp j V).key = f1 at *
                  generalize (fillOp j V).val = f2 at *
                  generalize (fillOp j V).hi = f3 at *
                  go_wp2_with (first | (go_at_call 32; refine (RA.out _).mono ?_; rintro e w1 ⟨rfl, rfl⟩))
                  refine bodyPost_ret (v := .tuple #[opV ⟨0, 0, 0, 0⟩, .bool false]) ?_ rfl ⟨Or.inr ⟨HN.out, rfl⟩, B2.out⟩
                  rw [results_cell_tmp rfl]
                  go_simp
                  rfl
                | some v =>
                  have RA : Hid (∀ W : World, Calls Tryz.prog 32 #[.string ⟨(ws.getD i []).toArray⟩] W fun e w' => e = .returned (.tuple #[.int .i64 v, .bool true]) ∧ w' = W) := fun W => (RD W).mono (by rintro e w' ⟨h1, rfl⟩; unfold RdOut at h1; rw [hnum] at h1; exact ⟨h1, rfl⟩)
                  have HS : Hid (∀ m, m < (V ++ [v]).length → numOf (ws.getD (m + 1) []) = some ((V ++ [v]).getD m 0)) := fun m hm => by
                    by_cases e : m < V.length
                    · rw [HV.out m e, List.getD_eq_getElem?_getD, List.getD_eq_getElem?_getD, List.getElem?_append_left e]
                    · have : m = V.length := by simp at hm; omega
                      subst this
                      rw [hVi, hnum]
                      simp
                  clear RD hnum
                  rcases (by omega : i = 1 ∨ i = 2) with hi1 | hi2
                  · obtain rfl : V = [] := List.length_eq_zero_iff.1 (by omega)
                    have hi' : ((i : Int) == 1) = true := by rw [hi1]; rfl
                    have HI1 : Hid (i = 1) := hi1
                    clear hi1
                    have F1 : Hid (fillOp j [] = ⟨j, 0, 0, 0⟩ ∧ fillOp j ([] ++ [v]) = ⟨j, v, 0, 0⟩) := ⟨by simp [fillOp], by simp [fillOp]⟩
                    rw [F1.out.1] at c1 B2 ⊢
                    generalize ws.getD i [] = L at *
                    go_wp2_with (first | (go_at_call 32; refine (RA.out _).mono ?_; rintro e w1 ⟨rfl, rfl⟩))
                    exact ⟨⟨i + 1, [] ++ [v], by rw [HI1.out]; rfl, by omega, by go_num, HS.out, by rw [F1.out.2]⟩, by simp [intOf]; omega⟩
                  · obtain ⟨a, rfl⟩ : ∃ a, V = [a] := by
                      rw [hi2] at hVi
                      match V, hVi with
                      | [a], _ => exact ⟨a, rfl⟩
                    have hi' : ((i : Int) == 1) = false := by rw [hi2]; rfl
                    have HI1 : Hid (i = 2) := hi2
                    clear hi2
                    by_cases h9 : j = 9
                    · have F1 : Hid (fillOp j [a] = ⟨j, a, 0, 0⟩ ∧ fillOp j ([a] ++ [v]) = ⟨j, a, 0, v⟩) := ⟨by simp [fillOp], by simp [fillOp, h9]⟩
                      have h9' : ((j : Int) == 9) = true := by rw [h9]; rfl
                      rw [F1.out.1] at c1 B2 ⊢
                      generalize ws.getD i [] = L at *
                      clear h9
                      go_wp2_with (first | (go_at_call 32; refine (RA.out _).mono ?_; rintro e w1 ⟨rfl, rfl⟩))
                      exact ⟨⟨i + 1, [a] ++ [v], by rw [HI1.out]; rfl, by omega, by go_num, HS.out, by rw [F1.out.2]⟩, by simp [intOf]; omega⟩
                    · have F1 : Hid (fillOp j [a] = ⟨j, a, 0, 0⟩ ∧ fillOp j ([a] ++ [v]) = ⟨j, a, v, 0⟩) := ⟨by simp [fillOp], by simp [fillOp, h9]⟩
                      have h9' : ((j : Int) == 9) = false := beq_eq_false_iff_ne.2 (by omega)
                      rw [F1.out.1] at c1 B2 ⊢
                      generalize ws.getD i [] = L at *
                      clear h9
                      go_wp2_with (first | (go_at_call 32; refine (RA.out _).mono ?_; rintro e w1 ⟨rfl, rfl⟩))
                      exact ⟨⟨i + 1, [a] ++ [v], by rw [HI1.out]; rfl, by omega, by go_num, HS.out, by rw [F1.out.2]⟩, by simp [intOf]; omega⟩
              · have hv' : (n : Int) < (i : Int) := by omega
                have HI : Hid (OpIs ws j V) := ⟨j1, by omega, by rw [HH.out, HX.out], by rw [hln, HNN.out], by have := HNN.out; omega, HV.out⟩
                have HO : Hid (opV (fillOp j V) = .agg #[.int .i64 (j : Int), .int .i64 (fillOp j V).key, .int .i64 (fillOp j V).val, .int .i64 (fillOp j V).hi]) := rfl
                obtain ⟨T, hT⟩ : ∃ T, T = opV (fillOp j V) := ⟨_, rfl⟩
                have HT : Hid (T = opV (fillOp j V)) := hT
                rw [← hT] at HO
                clear hT hv
                generalize (fillOp j V).key = f1 at *
                generalize (fillOp j V).val = f2 at *
                generalize (fillOp j V).hi = f3 at *
                go_wp2_with fail
                refine bodyPost_ret (v := .tuple #[T, .bool true]) ?_ rfl ⟨Or.inl ⟨j, V, HI.out, by rw [HT.out]⟩, ?_⟩
                · rw [results_cell_tmp rfl]
                  rw [HO.out]
                  go_simp
                · exact (below_alloc w _).alloc (by simp) _
          · have hln' : ((ws.length : Int) == (n : Int) + 1) = false := beq_eq_false_iff_ne.2 (by omega)
            have HN : Hid (∀ k V, ¬ OpIs ws k V) := fun k V q => by
              have e : k = j := word_inj q.lo q.hi j1 (by omega) (Option.some.inj (q.hd.symm.trans (HH.out.trans (by rw [HX.out]))))
              subst e
              have := q.len
              have := HNN.out
              omega
            clear hln
            go_wp2_with (first | (go_at_call 49; refine (WA.out _).mono ?_; rintro e w1 ⟨rfl, rfl⟩))
            refine bodyPost_ret (v := .tuple #[opV ⟨0, 0, 0, 0⟩, .bool false]) ?_ rfl ⟨Or.inr ⟨HN.out, rfl⟩, below_alloc _ _⟩
            rw [results_cell_tmp rfl]
            go_simp
            rfl
        · have hxy' : (Y == X) = false := beq_eq_false_iff_ne.2 hxy
          have HG : Hid (∀ m, 1 ≤ m → m < j + 1 → ws.head? ≠ some (wordL m)) := fun m h1 h2 => by
            by_cases e : m = j
            · subst e
              rw [HH.out, ← HX.out]
              intro q
              exact hxy (Option.some.inj q)
            · exact HM.out m h1 (by omega)
          clear hxy
          go_wp2_with (first | (go_at_call 49; refine (WA.out _).mono ?_; rintro e w1 ⟨rfl, rfl⟩))
          exact ⟨⟨j + 1, by omega, by omega, by go_num, HG.out, trivial⟩, by simp [intOf]; omega⟩
end Go.Proofs.YtknlapipkglnjaaGreatDoor
