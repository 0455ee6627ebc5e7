/- Layer 6: the reference's Run. -/
import Derived.Test.YtjpfgfcggekklaaMRun
import Derived.Test.YtjpfgfcggekklaaMD2
namespace Go.Proofs.Ytjpfgfcggekklaa
open Go.RowKit

theorem stepP_of {base : Option Addr} {b o c : Nat} {ps : PL} {op : OpD} {w : World} (h : PairsAt w base b o ps) (hnil : base = none → ps.length = 0 ∧ c = 0) (hby : (ps.length + 2) * 16 ≤ 140737488355328) (hs : Srt ps) (hk : kdErr op.kind = 0) {L : PL} {r : RetD} (hL : stepL ps op = L) (hr : stepR ps op = r) :
    Calls Try.prog 61 #[.slice base ps.length c, .agg #[.int .i64 op.kind, .int .i64 op.key, .int .i64 op.val, .int .i64 op.hi]] w fun e w' => ∃ v1 a2 c2, e = .returned (.tuple #[v1, .agg #[.bool r.ok, .int .i64 r.key, .int .i64 r.val, .slice a2 r.pairs.length c2]]) ∧ Below w.heap.size w w' ∧ OwnP w' w.heap.size L v1 ∧ OwnP w' w.heap.size r.pairs (.slice a2 r.pairs.length c2) := by
  have S := rStep_any base b o c ps op w h hnil hby hs hk
  unfold StepP at S
  rw [hL, hr] at S
  refine S.mono ?_
  rintro e w' ⟨v1, v2, rfl, hb, h1, h2⟩
  obtain ⟨a, g, cap, rfl, q⟩ := h2
  exact ⟨v1, a, cap, rfl, hb, h1, ⟨a, g, cap, rfl, q⟩⟩

theorem run_bytes (ps : PL) (ops : List OpD) (j : Nat) (hby : (ps.length + ops.length + 2) * 48 ≤ 140737488355328) : ((runL ps (ops.take j)).length + 2) * 16 ≤ 140737488355328 := by
  have h1 := runL_length (ops.take j) ps
  have h2 : (ops.take j).length ≤ ops.length := List.length_take_le' _ _
  exact Nat.le_trans (Nat.mul_le_mul (Nat.add_le_add_right (Nat.le_trans h1 (Nat.add_le_add_left h2 _)) 2) (by decide : 16 ≤ 48)) hby

set_option maxRecDepth 100000 in
set_option maxHeartbeats 1000000 in
theorem rRun_any (base : Option Addr) (b o c : Nat) (ps : PL) (ob : Option Addr) (bo oo co : Nat) (ops : List OpD) (w : World) (h : PairsAt w base b o ps) (hnil : base = none → ps.length = 0 ∧ c = 0) (hop : OpsAt w ob bo oo ops) (hby : (ps.length + ops.length + 2) * 48 ≤ 140737488355328) :
    Calls Try.prog 35 #[.slice base ps.length c, .slice ob ops.length co] w fun e w' => ∃ v1 a2 c2 g2, e = .returned (.tuple #[v1, .slice a2 (runRd ps ops).length c2, .int .i64 (runErr ps ops)]) ∧ Below w.heap.size w w' ∧ OwnP w' w.heap.size (runLd ps ops) v1 ∧ RetsAt w' a2 g2 0 (runRd ps ops) := by
  have hlo := hop.len
  have hl := h.len
  unfold maxLen at hl hlo
  obtain ⟨i0, hi0, hz0, hz1, hz2⟩ := info_parts pr_info
  obtain ⟨r0, hr0, hy0, hy1, hy2⟩ := info_parts rt_info
  have HA : Hid _ := h
  have HNIL : Hid _ := hnil
  have HOP : Hid _ := hop
  clear h hnil hop
  by_cases hc : ckErr ps = 0
  · have q1 : (ckErr ps != 0) = false := by simp [hc]
    have HC : Hid _ := hc
    by_cases hk : kN ops ops.length = true
    · have E0 : runErr ps ops = 0 := by unfold runErr; rw [if_pos hc]; unfold kErr; rw [if_pos hk]
      have EL : runLd ps ops = runL ps ops := by unfold runLd; rw [if_pos E0]
      have ER : runRd ps ops = runR ps ops := by unfold runRd; rw [if_pos E0]
      rw [E0, EL, ER]
      have HK : Hid _ := hk
      clear hc hk E0 EL ER
      go_enter Try.func35, Try.ntmps35
      go_wp2_with fail
      refine (rcheck_any base b o c ps _ HA.out).mono ?_
      rintro e w1 ⟨rfl, hb1⟩
      have HB1 : Hid _ := hb1
      have zz1 := hb1.size
      clear hb1
      go_wp2_with fail
      go_loopw [7] (fun i wr => ∃ j : Nat, j ≤ ops.length ∧ i = .int .i64 j ∧ w1 = wr) (fun i _ => ops.length - (intOf i).toNat)
      case atStart => exact ⟨0, Nat.zero_le _, rfl, rfl⟩
      case round =>
        obtain ⟨j, hj, rfl, rfl⟩ := hrel
        by_cases hlt : j < ops.length
        · obtain rfl : ob = some ⟨bo, oo, none⟩ := HOP.out.base (by omega)
          obtain ⟨c0, _, _, _⟩ := (HOP.out.below HB1.out).cells j hlt
          have j0 : (0 : Int) ≤ (j : Int) := Int.natCast_nonneg _
          have j1 : (j : Int) < (ops.length : Int) := by omega
          have q2 : (kdErr (opAt ops j).kind != 0) = false := by simp [kN_at HK.out hlt]
          go_wp2_with fail
          refine (rkind_any _ _).mono ?_
          rintro e w2 ⟨rfl, rfl⟩
          go_wp2_with fail
          exact ⟨⟨j + 1, by omega, by go_num, trivial⟩, by simp [intOf]; omega⟩
        · clear hj
          have ho : (w1.alloc (.cells #[] 59)).ownsRow w1.heap.size 59 2 (.slice (some ⟨w1.heap.size, 0, none⟩) 0 0) 0 [] := ⟨rfl, Or.inr ⟨w1.heap.size, 0, #[], rfl, Nat.le_refl _, heap_alloc_at _ _ _ rfl, Nat.le_refl _, by unfold maxLen; omega, rfl, rfl⟩⟩
          have HO : Hid (World.ownsRow _ _ _ _ _ _ _) := ho
          have hnews : ∀ a, base = some a → ∀ j u, (pairCells ps)[j]? = some u → (w1.alloc (.cells #[] 59)).cell? (a.add j) = some u := pairs_news ((HA.out.below HB1.out).below (below_alloc _ _))
          have HW : Hid _ := hnews
          clear ho hnews
          go_wp2_with (first | (at_builtin; (refine wpList_append_all (by rfl) _ _ _ (by rfl) w1.heap.size 59 i0 _ 2 16 prs_under hi0 hz0 hz1 hz2 rfl (by omega) _ 0 [] (by rfl) HO.out base ps.length c (pairCells ps) (by rfl) HNIL.out (pairCells_length _) HW.out (pairCells_one _) (by unfold maxLen; omega) (by omega) (by simp) ?_); intro v' w2 hown1 hgrow hnl; obtain ⟨g0, cap0, rfl, hg0, hgl0, hpa0⟩ := owned_pairs hown1 (fun q => by cases (hnl.1 q).1); clear hnl hown1))
          have B2 : Hid (Below w.heap.size w w2) := HB1.out.trans ((Below.grown (below_alloc _ _) hgrow (by simp) (by intro k hk; simp [Value.ownBlock] at hk; omega)).mono zz1)
          have P2 : Hid (OwnP w2 w.heap.size ps (.slice (some ⟨g0, 0, none⟩) ps.length cap0)) := ⟨_, g0, cap0, rfl, fun _ => by omega, hpa0 HA.out.len, fun q => by cases q⟩
          clear hgrow hpa0 hg0 HO HW
          clear hgl0
          go_loopw [8, 9, 10] (fun v n i wr => ∃ (j : Nat) (us : List Value), j ≤ ops.length ∧ i = .int .i64 j ∧ Below w.heap.size w wr ∧ OwnP wr w.heap.size (runL ps (ops.take j)) n ∧ RetsM wr w.heap.size v.ownBlock (runR ps (ops.take j)) us ∧ wr.ownsRow w.heap.size 27 4 v j (retsC (runR ps (ops.take j)) us)) (fun _ _ i _ => ops.length - (intOf i).toNat)
          case atStart => exact ⟨0, [], Nat.zero_le _, rfl, B2.out, P2.out, ⟨rfl, fun i hi => by simp [runR] at hi⟩, World.ownsRow_nil _ _ _ _⟩
          case round =>
            obtain ⟨j, us, hj, rfl, hbw, hon, hrm, hown⟩ := hrel
            obtain ⟨an, gn, cn, rfl, hnp, hnn⟩ := hon.parts
            have HB : Hid _ := hbw
            have HRM : Hid (RetsM _ _ _ _ _) := hrm
            have HO : Hid (World.ownsRow _ _ _ _ _ _ _) := hown
            have HP : Hid (PairsAt _ _ _ _ _) := hnp
            have HNN : Hid _ := hnn
            have HON : Hid (OwnP _ _ _ _) := hon
            have s2 := hbw.size
            clear hbw hrm hown hnp hnn hon
            by_cases hlt : j < ops.length
            · obtain rfl : ob = some ⟨bo, oo, none⟩ := HOP.out.base (by omega)
              obtain ⟨c0, c1, c2, c3⟩ := (HOP.out.below HB.out).cells j hlt
              have j0 : (0 : Int) ≤ (j : Int) := Int.natCast_nonneg _
              have j1 : (j : Int) < (ops.length : Int) := by omega
              have n1 : j + 1 ≤ maxLen := by unfold maxLen; omega
              have n2 : (j + 1) * 48 ≤ 140737488355328 := Nat.le_trans (Nat.mul_le_mul_right 48 (by omega : j + 1 ≤ ps.length + ops.length + 2)) hby
              obtain ⟨L, hL⟩ : ∃ L, stepL (runL ps (ops.take j)) (opAt ops j) = L := ⟨_, rfl⟩
              obtain ⟨r, hr⟩ : ∃ r, stepR (runL ps (ops.take j)) (opAt ops j) = r := ⟨_, rfl⟩
              have SP := stepP_of (c := cn) HP.out HNN.out (run_bytes ps ops j hby) (runL_srt (ops.take j) (ckErr_zero.1 HC.out)) (kN_at HK.out hlt) hL hr
              have HSP : Hid (Calls _ _ _ _ _) := SP
              have NL : Hid (runL ps (ops.take (j + 1)) = L) := by show runL ps (ops.take (j + 1)) = L; rw [op_take _ hlt, runL_next]; exact hL
              have NR : Hid (runR ps (ops.take (j + 1)) = runR ps (ops.take j) ++ [r]) := by show runR ps (ops.take (j + 1)) = _; rw [op_take _ hlt, runR_next]; rw [hr]
              have LR : Hid ((runR ps (ops.take j)).length = j) := by show (runR ps (ops.take j)).length = j; rw [runR_length, List.length_take]; omega
              clear SP hL hr
              go_wp2_with fail
              refine HSP.out.mono ?_
              rintro e w3 ⟨v1, a2, k2, rfl, hb3, ho1, ho2⟩
              have HB3 : Hid _ := hb3
              have P1 : Hid (OwnP w3 wr.heap.size L v1) := ho1
              have P2' : Hid (OwnP w3 wr.heap.size r.pairs (.slice a2 r.pairs.length k2)) := ho2
              have z3 := hb3.size
              clear hb3 ho1 ho2
              obtain ⟨C4, hC4⟩ : ∃ C4, C4 = Obj.cells #[.bool r.ok, .int .i64 r.key, .int .i64 r.val, .slice a2 r.pairs.length k2] 27 := ⟨_, rfl⟩
              have HB4 : Hid (Below wr.heap.size wr (w3.alloc C4)) := HB3.out.trans ((below_alloc _ _).mono z3)
              have O4 : Hid (World.ownsRow _ _ _ _ _ _ _) := owns_below HO.out HB4.out
              have P14 : Hid (OwnP (w3.alloc C4) wr.heap.size L v1) := P1.out.below (below_alloc _ _)
              have P24 : Hid (OwnP (w3.alloc C4) wr.heap.size r.pairs (.slice a2 r.pairs.length k2)) := P2'.out.below (below_alloc _ _)
              subst hC4
              go_wp2_with (first | (at_builtin; go_loud (refine wpList_append_lies _ (by rfl) _ _ _ (by rfl) w.heap.size 27 r0 _ 4 48 rts_under hr0 hy0 hy1 hy2 rfl (by omega) _ j _ (by rfl) (O4.out.alloc _) ⟨w3.heap.size + 1, 0, none⟩ 1 1 [.bool r.ok, .int .i64 r.key, .int .i64 r.val, .slice a2 r.pairs.length k2] (by rfl) (by rfl) (World.news_of_block (cs := #[.bool r.ok, .int .i64 r.key, .int .i64 r.val, .slice a2 r.pairs.length k2]) (t := 27) (fr := (0, 0)) (heap_alloc_at _ _ _ (by simp))) (by simp [Value.oneCell']) Nat.one_pos n1 n2 (by simp; omega) (w3.heap.size + 2) (by simp) ?_); intro gg cap w5 hown5 hgrow hat hlt5))
              have M6 := (HRM.out.below HB4.out).below (below_alloc _ (.cells #[.bool r.ok, .int .i64 r.key, .int .i64 r.val, .slice a2 r.pairs.length k2] 27))
              have B5 : Below w.heap.size w w5 := Below.grown ((HB.out.trans (HB4.out.mono s2)).alloc (by simp; omega) _) hgrow (by simp; omega) (owns_ge HO.out)
              have O5 : OwnP w5 w.heap.size L v1 := ((P14.out.below (below_alloc _ _)).grown hgrow (fun k hk => (owns_lt HO.out k hk).2)).down s2
              have M5 : RetsM w5 w.heap.size (some gg) (runR ps (ops.take j) ++ [r]) (us ++ [.slice a2 r.pairs.length k2]) := M6.snoc hgrow (fun k hk => by cases hk; rcases hat with q | q; exact Or.inl q; exact Or.inr (by simp; omega)) (P24.out.below (below_alloc _ _)) s2 (fun k hk => (owns_lt HO.out k hk).2)
              refine ⟨⟨j + 1, us ++ [.slice a2 r.pairs.length k2], by omega, by go_num, B5, by rw [NL.out]; exact O5, by rw [NR.out]; exact M5, ?_⟩, by simp [intOf]; omega⟩
              rw [NR.out, retsC_snoc _ _ _ _ HRM.out.len]
              exact hown5
            · have hje : j = ops.length := by omega
              have LR : (runR ps ops).length = ops.length := runR_length _ _
              have EQ : Hid (ops.take j = ops) := by show ops.take j = ops; rw [hje, List.take_length]
              have ON2 : Hid (OwnP wr w.heap.size (runL ps ops) (.slice an (runL ps (ops.take j)).length cn)) := by
                have e : runL ps ops = runL ps (ops.take j) := by rw [EQ.out]
                show OwnP _ _ _ _
                rw [e]; exact HON.out
              have HR2 := HRM.out
              have HO2 := HO.out
              rw [EQ.out] at HR2 HO2
              rw [show j = (runR ps ops).length by omega] at HO2
              obtain ⟨ra, rc, rg, hv, hrt⟩ := rets_of_owns HO2 HR2 (by rw [LR]; exact HOP.out.len)
              subst hv
              have HRT : Hid (RetsAt _ _ _ _ _) := hrt
              clear HR2 HO2 hrt hje LR
              go_wp2_with fail
              go_ret3
              exact ⟨_, ra, rc, rg, rfl, HB.out, ON2.out, HRT.out⟩
    · have E0 : runErr ps ops = 5 := by unfold runErr; rw [if_pos hc]; unfold kErr; rw [if_neg hk]
      have EL : runLd ps ops = [] := by unfold runLd; rw [if_neg (by rw [E0]; omega)]
      have ER : runRd ps ops = [] := by unfold runRd; rw [if_neg (by rw [E0]; omega)]
      rw [E0, EL, ER]
      have HK : Hid _ := hk
      clear hc hk E0 EL ER
      go_enter Try.func35, Try.ntmps35
      go_wp2_with fail
      refine (rcheck_any base b o c ps _ HA.out).mono ?_
      rintro e w1 ⟨rfl, hb1⟩
      have HB1 : Hid _ := hb1
      have zz1 := hb1.size
      clear hb1
      go_wp2_with fail
      go_loopw [7] (fun i wr => ∃ j : Nat, j ≤ ops.length ∧ i = .int .i64 j ∧ kN ops j = true ∧ w1 = wr) (fun i _ => ops.length - (intOf i).toNat)
      case atStart => exact ⟨0, Nat.zero_le _, rfl, rfl, rfl⟩
      case round =>
        obtain ⟨j, hj, rfl, hkj, rfl⟩ := hrel
        have HKJ : Hid _ := hkj
        clear hkj
        by_cases hlt : j < ops.length
        · obtain rfl : ob = some ⟨bo, oo, none⟩ := HOP.out.base (by omega)
          obtain ⟨c0, _, _, _⟩ := (HOP.out.below HB1.out).cells j hlt
          have j0 : (0 : Int) ≤ (j : Int) := Int.natCast_nonneg _
          have j1 : (j : Int) < (ops.length : Int) := by omega
          by_cases hb : kdErr (opAt ops j).kind = 0
          · have q2 : (kdErr (opAt ops j).kind != 0) = false := by simp [hb]
            have N : Hid (kN ops (j + 1) = true) := by show (kN ops j && decide (kdErr (opAt ops j).kind = 0)) = true; rw [HKJ.out, decide_eq_true hb]; rfl
            clear hb
            go_wp2_with fail
            refine (rkind_any _ _).mono ?_
            rintro e w2 ⟨rfl, rfl⟩
            go_wp2_with fail
            exact ⟨⟨j + 1, by omega, by go_num, N.out, trivial⟩, by simp [intOf]; omega⟩
          · have q2 : (kdErr (opAt ops j).kind != 0) = true := by simp [hb]
            clear hb
            go_wp2_with fail
            refine (rkind_any _ _).mono ?_
            rintro e w2 ⟨rfl, rfl⟩
            go_wp2_with fail
            go_ret3
            exact ⟨_, none, 0, 0, rfl, HB1.out, OwnP.nil _ _, RetsAt.nil _⟩
        · exact absurd (by rw [show ops.length = j by omega]; exact HKJ.out) HK.out
  · have E0 : runErr ps ops = 11 := by unfold runErr; rw [if_neg hc]
    have EL : runLd ps ops = [] := by unfold runLd; rw [if_neg (by rw [E0]; omega)]
    have ER : runRd ps ops = [] := by unfold runRd; rw [if_neg (by rw [E0]; omega)]
    rw [E0, EL, ER]
    have q1 : (ckErr ps != 0) = true := by simp [hc]
    clear hc E0 EL ER
    go_enter Try.func35, Try.ntmps35
    go_wp2_with fail
    refine (rcheck_any base b o c ps _ HA.out).mono ?_
    rintro e w1 ⟨rfl, hb1⟩
    go_wp2_with fail
    go_ret3
    exact ⟨_, none, 0, 0, rfl, hb1, OwnP.nil _ _, RetsAt.nil _⟩
end Go.Proofs.Ytjpfgfcggekklaa
