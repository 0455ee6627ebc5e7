/- Layer 6: the program's refusal, Same, SameRet. -/
import Derived.Test.YtjpfgfcggekklaaMG11
namespace Go.Proofs.Ytjpfgfcggekklaa
open Go.RowKit

set_option maxRecDepth 100000 in
set_option maxHeartbeats 1000000 in
theorem equal_any (ba bb : Option Addr) (ga oa ca gb ob cb : Nat) (a b : PL) (w : World) (ha : PairsAt w ba ga oa a) (hb : PairsAt w bb gb ob b) :
    Calls Try.prog 57 #[.slice ba a.length ca, .slice bb b.length cb] w fun e w' => e = .returned (.bool (plEq a b)) ∧ Below w.heap.size w w' := by
  have la := ha.len
  have lb := hb.len
  unfold maxLen at la lb
  have HA : Hid _ := ha
  have HB : Hid _ := hb
  clear ha hb
  have hpn := pair_neq
  by_cases hl : a.length = b.length
  · have hd : ((a.length : Int) != (b.length : Int)) = false := by simp [hl]
    have HL : Hid _ := hl
    clear hl
    go_enter Try.func57, Try.ntmps57
    go_wp2_with fail
    go_loopw [13] (fun i wr => ∃ j : Nat, j ≤ a.length ∧ i = .int .i64 j ∧ (∀ k, k < j → keyAt a k = keyAt b k ∧ valAt a k = valAt b k) ∧ Below w.heap.size w wr) (fun i _ => a.length - (intOf i).toNat)
    case atStart => exact ⟨0, Nat.zero_le _, rfl, fun k hk => by omega, Below.refl _ _⟩
    case round =>
      obtain ⟨j, hj, rfl, hall, hbw⟩ := hrel
      have HAL : Hid _ := hall
      clear hall
      by_cases hlt : j < a.length
      · have hlb : j < b.length := by have := HL.out; omega
        obtain rfl : ba = some ⟨ga, oa, none⟩ := HA.out.base (by omega)
        obtain rfl : bb = some ⟨gb, ob, none⟩ := HB.out.base (by omega)
        obtain ⟨c0, c1⟩ := (HA.out.below hbw).cells j hlt
        obtain ⟨c2, c3⟩ := (HB.out.below hbw).cells j hlb
        have j0 : (0 : Int) ≤ (j : Int) := Int.natCast_nonneg _
        have j1 : (j : Int) < (a.length : Int) := by omega
        have j2 : (j : Int) < (b.length : Int) := by omega
        by_cases hq : keyAt a j = keyAt b j ∧ valAt a j = valAt b j
        · have hx : (decide (keyAt a j = keyAt b j) && decide (valAt a j = valAt b j)) = true := by simp [hq.1, hq.2]
          have HQ : Hid _ := hq
          clear hq
          go_wp2_with fail
          go_quiet (fail)
          go_wp2_with fail
          refine ⟨⟨j + 1, by omega, by go_num, fun k hk => ?_, below_drewN hbw _⟩, by simp [intOf]; omega⟩
          by_cases e : k = j
          · subst e; exact HQ.out
          · exact HAL.out k (by omega)
        · have hx : (decide (keyAt a j = keyAt b j) && decide (valAt a j = valAt b j)) = false := by simp; intro h1 h2; exact hq ⟨h1, h2⟩
          have F : Hid (plEq a b = false) := by
            show plEq a b = false
            unfold plEq
            simp only [decide_eq_false_iff_not]
            intro h
            exact hq (by rw [h]; exact ⟨rfl, rfl⟩)
          clear hq
          go_wp2_with fail
          go_quiet (fail)
          go_wp2_with fail
          go_ret
          exact ⟨by rw [F.out]; rfl, below_drewN hbw _⟩
      · have F : Hid (plEq a b = true) := by
          show plEq a b = true
          unfold plEq
          simp only [decide_eq_true_eq]
          exact pl_ext HL.out (fun i hi => HAL.out i (by omega))
        go_wp2_with fail
        go_ret
        exact ⟨by rw [F.out]; rfl, hbw⟩
  · have hd : ((a.length : Int) != (b.length : Int)) = true := by simp; omega
    have F : Hid (plEq a b = false) := by
      show plEq a b = false
      unfold plEq
      simp only [decide_eq_false_iff_not]
      intro h
      exact hl (by rw [h])
    clear hl
    go_enter Try.func57, Try.ntmps57
    go_wp2_with fail
    go_ret
    exact ⟨by rw [F.out]; rfl, Below.refl _ _⟩


theorem psame_any (ba bb : Option Addr) (ga oa ca gb ob cb : Nat) (a b : PL) (w : World) (ha : PairsAt w ba ga oa a) (hb : PairsAt w bb gb ob b) :
    Calls Try.prog 28 #[.slice ba a.length ca, .slice bb b.length cb] w fun e w' => e = .returned (.bool (plEq a b)) ∧ Below w.heap.size w w' := by
  have H : Hid (Calls _ _ _ _ _) := equal_any ba bb ga oa ca gb ob cb a b w ha hb
  clear ha hb
  go_enter Try.func28, Try.ntmps28
  go_wp2_with fail
  refine H.out.mono ?_
  rintro e w1 ⟨rfl, hb⟩
  go_wp2_with fail
  go_ret
  exact ⟨rfl, hb⟩

set_option maxRecDepth 100000 in
set_option maxHeartbeats 1000000 in
theorem psameRet_any (ba bb : Option Addr) (ga oa ca gb ob cb : Nat) (a b : RetD) (w : World) (ha : PairsAt w ba ga oa a.pairs) (hb : PairsAt w bb gb ob b.pairs) :
    Calls Try.prog 29 #[.agg #[.bool a.ok, .int .i64 a.key, .int .i64 a.val, .slice ba a.pairs.length ca], .agg #[.bool b.ok, .int .i64 b.key, .int .i64 b.val, .slice bb b.pairs.length cb]] w fun e w' => e = .returned (.bool (retEq a b)) ∧ Below w.heap.size w w' := by
  have HA : Hid _ := ha
  have HB : Hid _ := hb
  clear ha hb
  obtain ⟨ok, key, val, ps⟩ := a
  obtain ⟨ok', key', val', ps'⟩ := b
  unfold retEq
  simp only at HA HB ⊢
  by_cases h1 : (ok == ok') = true
  · by_cases h2 : key = key'
    · by_cases h3 : val = val'
      · subst h2 h3
        go_enter Try.func29, Try.ntmps29
        go_wp2_with fail
        refine (psame_any _ _ ga oa _ gb ob _ ps ps' _ (HA.out.below ((below_alloc _ _).alloc (by simp) _)) (HB.out.below ((below_alloc _ _).alloc (by simp) _))).mono ?_
        rintro e w1 ⟨rfl, hb⟩
        go_wp2_with fail
        go_ret
        exact ⟨by simp [h1], ((below_alloc _ _).alloc (by simp) _).trans (hb.mono (by simp; omega))⟩
      · have h4 : (val == val') = false := by rw [beq_eq_false_iff_ne]; exact h3
        subst h2
        go_enter Try.func29, Try.ntmps29
        go_wp2_with fail
        go_ret
        exact ⟨by simp [h3], (below_alloc _ _).alloc (by simp) _⟩
    · have h4 : (key == key') = false := by rw [beq_eq_false_iff_ne]; exact h2
      go_enter Try.func29, Try.ntmps29
      go_wp2_with fail
      go_ret
      exact ⟨by simp [h2], (below_alloc _ _).alloc (by simp) _⟩
  · have h4 : (ok == ok') = false := by simpa using h1
    clear h1
    go_enter Try.func29, Try.ntmps29
    go_wp2_with fail
    go_ret
    exact ⟨by simp [h4], (below_alloc _ _).alloc (by simp) _⟩

theorem plEq_comm (a b : PL) : plEq a b = plEq b a := by unfold plEq; exact decide_eq_decide.2 ⟨Eq.symm, Eq.symm⟩
theorem retEq_comm (a b : RetD) : retEq a b = retEq b a := by
  unfold retEq
  rw [plEq_comm, show decide (a.key = b.key) = decide (b.key = a.key) from decide_eq_decide.2 ⟨Eq.symm, Eq.symm⟩, show decide (a.val = b.val) = decide (b.val = a.val) from decide_eq_decide.2 ⟨Eq.symm, Eq.symm⟩]
  cases a.ok <;> cases b.ok <;> rfl
theorem runErr_one (ps : PL) (o : OpD) : runErr ps [o] = doErr ps o := by
  unfold runErr doErr kErr
  have : kN [o] [o].length = decide (kdErr o.kind = 0) := by simp [kN, opAt]
  rw [this]
  split
  · unfold kdErr; split <;> simp_all
  · rfl

set_option maxRecDepth 100000 in
set_option maxHeartbeats 1000000 in
theorem refusal_any (base : Option Addr) (b o c : Nat) (ps : PL) (ob : Option Addr) (bo oo co : Nat) (ops : List OpD) (w : World) (h : PairsAt w base b o ps) (hop : OpsAt w ob bo oo ops) :
    Calls Try.prog 58 #[.slice base ps.length c, .slice ob ops.length co] w fun e w' => e = .returned (.int .i64 (runErr ps ops)) ∧ Below w.heap.size w w' := by
  have hlo := hop.len
  unfold maxLen at hlo
  have HA : Hid _ := h
  have HOP : Hid _ := hop
  clear h hop
  by_cases hc : ckErr ps = 0
  · have q1 : (ckErr ps != 0) = false := by simp [hc]
    have ER : Hid (runErr ps ops = kErr ops) := by show runErr ps ops = _; unfold runErr; rw [if_pos hc]
    clear hc
    go_enter Try.func58, Try.ntmps58
    go_wp2_with fail
    refine (pcheck_any base b o c ps _ HA.out).mono ?_
    rintro e w1 ⟨rfl, hb1⟩
    have HB1 : Hid _ := hb1
    clear hb1
    go_wp2_with fail
    go_loopw [16] (fun i wr => ∃ j : Nat, j ≤ ops.length ∧ i = .int .i64 j ∧ kN ops j = true ∧ Below w.heap.size w wr) (fun i _ => ops.length - (intOf i).toNat)
    case atStart => exact ⟨0, Nat.zero_le _, rfl, rfl, HB1.out⟩
    case round =>
      obtain ⟨j, hj, rfl, hkj, hbw⟩ := hrel
      have HKJ : Hid _ := hkj
      have HB : Hid _ := hbw
      have s2 := hbw.size
      clear hkj hbw
      by_cases hlt : j < ops.length
      · obtain rfl : ob = some ⟨bo, oo, none⟩ := HOP.out.base (by omega)
        obtain ⟨c0, c1, c2, c3⟩ := (HOP.out.below HB.out).cells j hlt
        have j0 : (0 : Int) ≤ (j : Int) := Int.natCast_nonneg _
        have j1 : (j : Int) < (ops.length : Int) := by omega
        by_cases hb : kdErr (opAt ops j).kind = 0
        · have q2 : (kdErr (opAt ops j).kind != 0) = false := by simp [hb]
          have N : Hid (kN ops (j + 1) = true) := by show (kN ops j && decide (kdErr (opAt ops j).kind = 0)) = true; rw [HKJ.out, decide_eq_true hb]; rfl
          clear hb
          go_wp2_with fail
          refine (pkind_any _ _).mono ?_
          rintro e w2 ⟨rfl, rfl⟩
          go_wp2_with fail
          exact ⟨⟨j + 1, by omega, by go_num, N.out, HB.out.alloc s2 _⟩, by simp [intOf]; omega⟩
        · have q2 : (kdErr (opAt ops j).kind != 0) = true := by simp [hb]
          have E5 : Hid (kdErr (opAt ops j).kind = kErr ops) := by
            show kdErr (opAt ops j).kind = kErr ops
            unfold kErr
            rw [kN_not hlt hb]
            unfold kdErr at hb ⊢
            split at hb
            · rw [if_pos (by assumption)]; rfl
            · exact absurd rfl hb
          clear hb
          go_wp2_with fail
          refine (pkind_any _ _).mono ?_
          rintro e w2 ⟨rfl, rfl⟩
          go_wp2_with fail
          go_ret
          exact ⟨by rw [ER.out, ← E5.out]; rfl, HB.out.alloc s2 _⟩
      · have E0 : Hid (kErr ops = 0) := by
          show kErr ops = 0
          unfold kErr
          rw [show ops.length = j by omega, HKJ.out]; rfl
        go_wp2_with fail
        go_ret
        exact ⟨by rw [ER.out, E0.out]; rfl, HB.out⟩
  · have hc2 : ckErr ps = 11 := (ckErr_cases ps).resolve_left hc
    have q1 : (ckErr ps != 0) = true := by simp [hc]
    have ER : Hid (ckErr ps = runErr ps ops) := by show ckErr ps = _; unfold runErr; rw [if_neg hc]; exact hc2
    clear hc hc2
    go_enter Try.func58, Try.ntmps58
    go_wp2_with fail
    refine (pcheck_any base b o c ps _ HA.out).mono ?_
    rintro e w1 ⟨rfl, hb1⟩
    go_wp2_with fail
    go_ret
    exact ⟨by rw [← ER.out]; rfl, hb1⟩
theorem own_of_row {w : World} {B : Nat} {v : Value} {ps : PL} (h : w.ownsRow B 59 2 v ps.length (pairCells ps)) (hl : ps.length ≤ maxLen) : OwnP w B ps v := by
  obtain ⟨base, cap, g, e, h1, h2, hp⟩ := pairs_of_owns h hl
  exact ⟨base, g, cap, e, h1, hp, fun q => (h2 q).2⟩
theorem ops_one {w : World} {N : Nat} {o : OpD} (hN : N < w.heap.size) (h : w.cell? ⟨N, 0, none⟩ = some (.int .i64 o.kind) ∧ w.cell? ⟨N, 1, none⟩ = some (.int .i64 o.key) ∧ w.cell? ⟨N, 2, none⟩ = some (.int .i64 o.val) ∧ w.cell? ⟨N, 3, none⟩ = some (.int .i64 o.hi)) : OpsAt w (some ⟨N, 0, none⟩) N 0 [o] := by
  refine ⟨fun _ => rfl, fun _ => hN, fun i hi => ?_, by unfold maxLen; simp⟩
  obtain rfl : i = 0 := by simpa using hi
  simpa [opAt] using h
end Go.Proofs.Ytjpfgfcggekklaa
