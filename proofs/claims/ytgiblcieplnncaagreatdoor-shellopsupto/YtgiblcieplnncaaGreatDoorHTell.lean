
/- Layer 28: Tell, the program's and the document's; the fixed lines. -/

import Derived.Test.YtgiblcieplnncaaGreatDoorHTl4

import Derived.Test.YtgiblcieplnncaaGreatDoorHRf3

import Derived.Test.YtgiblcieplnncaaGreatDoorHRun2

namespace Go.Proofs.YtgiblcieplnncaaGreatDoor

open Go.RowKit

attribute [local go_sem ↓] Go.wp_at_zero Go.wp_at_succ

def RetIn (r : RetD) : Prop := In64 r.key ∧ In64 r.val ∧ ∀ i, i < r.pairs.length → In64 (keyAt r.pairs i) ∧ In64 (valAt r.pairs i)
theorem pairs_len {ps : PL} (h : ∀ i, i < ps.length → In64 (keyAt ps i) ∧ In64 (valAt ps i)) : (blkL (ps.map pairT)).length ≤ 44 * ps.length := by
  have h1 := blkL_len (ps.map pairT) (fun x hx => by
    obtain ⟨p, hp, rfl⟩ := List.mem_map.1 hx
    obtain ⟨i, hi, rfl⟩ := List.mem_iff_getElem.1 hp
    have := h i hi
    simp only [keyAt, valAt, List.getD_eq_getElem?_getD, List.getElem?_eq_getElem hi, Option.getD_some] at this
    exact pairT_len this.1 this.2)
  simpa using h1
theorem retL_len {k : Int} {r : RetD} (h : RetIn r) (hn : r.pairs.length ≤ 1048576) : (yesL r.ok ++ blkL (retL k r)).length ≤ 50000000 := by
  have h1 := yes_len r.ok
  have h2 := itoa_le h.2.1
  have h3 := pairT_len (p := (r.key, r.val)) h.1 h.2.1
  have h4 := pairs_len h.2.2
  unfold retL
  split
  · simp [blkL]; omega
  · split
    · simp [blkL]; omega
    · rw [List.length_append]; omega
theorem tell_any (th : Int) (ret : Bool) (o : OpD) (r : RetD) (pb : Option Addr) (pc pg po : Nat) (w : World) (hth : In64 th) (hin : OpIn o) (hr : RetIn r) (hp : PairsAt w pb pg po r.pairs) (hnl : r.pairs.length ≤ 1048576) (hl : HLB w.heap.size w) :
    Calls Tryz.prog 11 #[.agg #[.int .i64 th, .bool ret, .int .i64 o.kind, .int .i64 o.key, .int .i64 o.val, .int .i64 o.hi, .bool r.ok, .int .i64 r.key, .int .i64 r.val, .slice pb r.pairs.length pc]] w fun e w' => e = .returned (.string ⟨(tellL th ret o r).toArray⟩) ∧ Below w.heap.size w w' := by
  have hR := retL_len (k := o.kind) hr hnl
  obtain ⟨kd, ky, vl, hh⟩ := o
  obtain ⟨ok, rk, rv, ps⟩ := r
  obtain ⟨h1, h2, h3⟩ := hr
  cases ret
  · have e : tellL th false ⟨kd, ky, vl, hh⟩ ⟨ok, rk, rv, ps⟩ = 116 :: Lib.itoa th ++ 32 :: tellOpL ⟨kd, ky, vl, hh⟩ := by simp [tellL]
    rw [e]
    exact tell_false th kd ky vl hh ok hth hin rk rv pb pc ps.length w hl
  · have e : tellL th true ⟨kd, ky, vl, hh⟩ ⟨ok, rk, rv, ps⟩ = 116 :: Lib.itoa th ++ 32 :: tellOpL ⟨kd, ky, vl, hh⟩ ++ ([32, 45, 62, 32] ++ (yesL ok ++ blkL (retL kd ⟨ok, rk, rv, ps⟩))) := by simp [tellL]
    rw [e]
    refine tell_true th kd ky vl hh ok hth hin rk rv pb pc ps.length w hl _ hR (fun W hW => ?_)
    have hlW : HLB W.heap.size W := hl.on hW
    by_cases hk : 1 ≤ kd ∧ kd ≤ 8
    · rcases (by omega : kd = 1 ∨ kd = 2 ∨ kd = 3 ∨ kd = 4 ∨ kd = 5 ∨ kd = 6 ∨ kd = 7 ∨ kd = 8) with rfl | rfl | rfl | rfl | rfl | rfl | rfl | rfl
      · exact tellRet_1 ok rk rv pb pc ps.length W h1 h2 hlW
      · exact tellRet_2 ok rk rv pb pc ps.length W h1 h2 hlW
      · exact tellRet_3 ok rk rv pb pc ps.length W h1 h2 hlW
      · exact tellRet_4 ok rk rv pb pc ps.length W h1 h2 hlW
      · exact tellRet_5 ok rk rv pb pc ps.length W h1 h2 hlW
      · exact tellRet_6 ok rk rv pb pc ps.length W h1 h2 hlW
      · exact tellRet_7 ok rk rv pb pc ps.length W h1 h2 hlW
      · exact tellRet_8 ok rk rv pb pc ps.length W h1 h2 hlW
    · have e2 : retL kd ⟨ok, rk, rv, ps⟩ = ps.map pairT := by
        unfold retL
        rw [if_neg (by omega), if_neg (by omega)]
      rw [e2]
      exact tellRet_c kd ok rk rv pb pc ps.length W h1 h2 hlW pg po ps (hp.below hW) rfl h3 hnl (by omega)
theorem rTell_any (th : Int) (ret : Bool) (o : OpD) (r : RetD) (pb : Option Addr) (pc pg po : Nat) (w : World) (hth : In64 th) (hin : OpIn o) (hr : RetIn r) (hp : PairsAt w pb pg po r.pairs) (hnl : r.pairs.length ≤ 1048576) :
    Calls Tryz.prog 12 #[.agg #[.int .i64 th, .bool ret, .int .i64 o.kind, .int .i64 o.key, .int .i64 o.val, .int .i64 o.hi, .bool r.ok, .int .i64 r.key, .int .i64 r.val, .slice pb r.pairs.length pc]] w fun e w' => e = .returned (.string ⟨(tellL th ret o r).toArray⟩) ∧ Below w.heap.size w w' := by
  have hL := opL_len hin
  obtain ⟨kd, ky, vl, hh⟩ := o
  obtain ⟨ok, rk, rv, ps⟩ := r
  obtain ⟨h1, h2, h3⟩ := hr
  have hne : (1 ≤ kd ∧ kd ≤ 9) → opL ⟨kd, ky, vl, hh⟩ ≠ [] := fun hk hz => by
    unfold opL at hz
    rw [if_pos hk] at hz
    exact (wordL_nil kd).1 (List.append_eq_nil_iff.1 hz).1 hk
  have hto : (1 ≤ kd ∧ kd ≤ 9) → tellOpL ⟨kd, ky, vl, hh⟩ = opL ⟨kd, ky, vl, hh⟩ := fun hk => by unfold tellOpL; rw [if_pos hk]
  have hnil : ¬ (1 ≤ kd ∧ kd ≤ 9) → opL ⟨kd, ky, vl, hh⟩ = [] := fun hk => by unfold opL; rw [if_neg hk]
  have htb : ¬ (1 ≤ kd ∧ kd ≤ 9) → tellOpL ⟨kd, ky, vl, hh⟩ = [107, 105, 110, 100, 32] ++ Lib.itoa kd := fun hk => by unfold tellOpL; rw [if_neg hk]
  cases ret
  · by_cases hk : 1 ≤ kd ∧ kd ≤ 9
    · have e : tellL th false ⟨kd, ky, vl, hh⟩ ⟨ok, rk, rv, ps⟩ = 116 :: Lib.itoa th ++ 32 :: opL ⟨kd, ky, vl, hh⟩ := by simp [tellL, hto hk]
      rw [e]
      exact rTell_inv kd ok th ky vl hh rk rv pb pc ps.length w hth h1 h2 hin _ rfl hL (hne hk)
    · have e : tellL th false ⟨kd, ky, vl, hh⟩ ⟨ok, rk, rv, ps⟩ = 116 :: Lib.itoa th ++ 32 :: ([107, 105, 110, 100, 32] ++ Lib.itoa kd) := by simp [tellL, htb hk]
      rw [e]
      exact rTell_invb kd ok th ky vl hh rk rv pb pc ps.length w hth h1 h2 hin _ rfl hL (hnil hk)
  · by_cases hk : 1 ≤ kd ∧ kd ≤ 8
    · rcases (by omega : kd = 1 ∨ kd = 2 ∨ kd = 3 ∨ kd = 4 ∨ kd = 5 ∨ kd = 6 ∨ kd = 7 ∨ kd = 8) with rfl | rfl | rfl | rfl | rfl | rfl | rfl | rfl <;> cases ok
      · rw [show tellL th true ⟨1, ky, vl, hh⟩ ⟨false, rk, rv, ps⟩ = (116 :: Lib.itoa th ++ 32 :: opL ⟨1, ky, vl, hh⟩) ++ [32, 45, 62, 32, 110, 111] ++ 32 :: Lib.itoa rv by simp [tellL, hto (by omega), retL, blkL, yesL]]
        exact rTell_1f th ky vl hh rk rv pb pc ps.length w hth h1 h2 hin _ rfl hL (hne (by omega))
      · rw [show tellL th true ⟨1, ky, vl, hh⟩ ⟨true, rk, rv, ps⟩ = (116 :: Lib.itoa th ++ 32 :: opL ⟨1, ky, vl, hh⟩) ++ [32, 45, 62, 32, 121, 101, 115] ++ 32 :: Lib.itoa rv by simp [tellL, hto (by omega), retL, blkL, yesL]]
        exact rTell_1t th ky vl hh rk rv pb pc ps.length w hth h1 h2 hin _ rfl hL (hne (by omega))
      · rw [show tellL th true ⟨2, ky, vl, hh⟩ ⟨false, rk, rv, ps⟩ = (116 :: Lib.itoa th ++ 32 :: opL ⟨2, ky, vl, hh⟩) ++ [32, 45, 62, 32, 110, 111] ++ 32 :: Lib.itoa rv by simp [tellL, hto (by omega), retL, blkL, yesL]]
        exact rTell_2f th ky vl hh rk rv pb pc ps.length w hth h1 h2 hin _ rfl hL (hne (by omega))
      · rw [show tellL th true ⟨2, ky, vl, hh⟩ ⟨true, rk, rv, ps⟩ = (116 :: Lib.itoa th ++ 32 :: opL ⟨2, ky, vl, hh⟩) ++ [32, 45, 62, 32, 121, 101, 115] ++ 32 :: Lib.itoa rv by simp [tellL, hto (by omega), retL, blkL, yesL]]
        exact rTell_2t th ky vl hh rk rv pb pc ps.length w hth h1 h2 hin _ rfl hL (hne (by omega))
      · rw [show tellL th true ⟨3, ky, vl, hh⟩ ⟨false, rk, rv, ps⟩ = (116 :: Lib.itoa th ++ 32 :: opL ⟨3, ky, vl, hh⟩) ++ [32, 45, 62, 32, 110, 111] ++ 32 :: Lib.itoa rv by simp [tellL, hto (by omega), retL, blkL, yesL]]
        exact rTell_3f th ky vl hh rk rv pb pc ps.length w hth h1 h2 hin _ rfl hL (hne (by omega))
      · rw [show tellL th true ⟨3, ky, vl, hh⟩ ⟨true, rk, rv, ps⟩ = (116 :: Lib.itoa th ++ 32 :: opL ⟨3, ky, vl, hh⟩) ++ [32, 45, 62, 32, 121, 101, 115] ++ 32 :: Lib.itoa rv by simp [tellL, hto (by omega), retL, blkL, yesL]]
        exact rTell_3t th ky vl hh rk rv pb pc ps.length w hth h1 h2 hin _ rfl hL (hne (by omega))
      · rw [show tellL th true ⟨4, ky, vl, hh⟩ ⟨false, rk, rv, ps⟩ = (116 :: Lib.itoa th ++ 32 :: opL ⟨4, ky, vl, hh⟩) ++ [32, 45, 62, 32, 110, 111] ++ 32 :: Lib.itoa rv by simp [tellL, hto (by omega), retL, blkL, yesL]]
        exact rTell_4f th ky vl hh rk rv pb pc ps.length w hth h1 h2 hin _ rfl hL (hne (by omega))
      · rw [show tellL th true ⟨4, ky, vl, hh⟩ ⟨true, rk, rv, ps⟩ = (116 :: Lib.itoa th ++ 32 :: opL ⟨4, ky, vl, hh⟩) ++ [32, 45, 62, 32, 121, 101, 115] ++ 32 :: Lib.itoa rv by simp [tellL, hto (by omega), retL, blkL, yesL]]
        exact rTell_4t th ky vl hh rk rv pb pc ps.length w hth h1 h2 hin _ rfl hL (hne (by omega))
      · rw [show tellL th true ⟨5, ky, vl, hh⟩ ⟨false, rk, rv, ps⟩ = (116 :: Lib.itoa th ++ 32 :: opL ⟨5, ky, vl, hh⟩) ++ [32, 45, 62, 32, 110, 111] ++ 32 :: pairT (rk, rv) by simp [tellL, hto (by omega), retL, blkL, yesL]]
        exact rTell_5f th ky vl hh rk rv pb pc ps.length w hth h1 h2 hin _ rfl hL (hne (by omega))
      · rw [show tellL th true ⟨5, ky, vl, hh⟩ ⟨true, rk, rv, ps⟩ = (116 :: Lib.itoa th ++ 32 :: opL ⟨5, ky, vl, hh⟩) ++ [32, 45, 62, 32, 121, 101, 115] ++ 32 :: pairT (rk, rv) by simp [tellL, hto (by omega), retL, blkL, yesL]]
        exact rTell_5t th ky vl hh rk rv pb pc ps.length w hth h1 h2 hin _ rfl hL (hne (by omega))
      · rw [show tellL th true ⟨6, ky, vl, hh⟩ ⟨false, rk, rv, ps⟩ = (116 :: Lib.itoa th ++ 32 :: opL ⟨6, ky, vl, hh⟩) ++ [32, 45, 62, 32, 110, 111] ++ 32 :: pairT (rk, rv) by simp [tellL, hto (by omega), retL, blkL, yesL]]
        exact rTell_6f th ky vl hh rk rv pb pc ps.length w hth h1 h2 hin _ rfl hL (hne (by omega))
      · rw [show tellL th true ⟨6, ky, vl, hh⟩ ⟨true, rk, rv, ps⟩ = (116 :: Lib.itoa th ++ 32 :: opL ⟨6, ky, vl, hh⟩) ++ [32, 45, 62, 32, 121, 101, 115] ++ 32 :: pairT (rk, rv) by simp [tellL, hto (by omega), retL, blkL, yesL]]
        exact rTell_6t th ky vl hh rk rv pb pc ps.length w hth h1 h2 hin _ rfl hL (hne (by omega))
      · rw [show tellL th true ⟨7, ky, vl, hh⟩ ⟨false, rk, rv, ps⟩ = (116 :: Lib.itoa th ++ 32 :: opL ⟨7, ky, vl, hh⟩) ++ [32, 45, 62, 32, 110, 111] ++ 32 :: pairT (rk, rv) by simp [tellL, hto (by omega), retL, blkL, yesL]]
        exact rTell_7f th ky vl hh rk rv pb pc ps.length w hth h1 h2 hin _ rfl hL (hne (by omega))
      · rw [show tellL th true ⟨7, ky, vl, hh⟩ ⟨true, rk, rv, ps⟩ = (116 :: Lib.itoa th ++ 32 :: opL ⟨7, ky, vl, hh⟩) ++ [32, 45, 62, 32, 121, 101, 115] ++ 32 :: pairT (rk, rv) by simp [tellL, hto (by omega), retL, blkL, yesL]]
        exact rTell_7t th ky vl hh rk rv pb pc ps.length w hth h1 h2 hin _ rfl hL (hne (by omega))
      · rw [show tellL th true ⟨8, ky, vl, hh⟩ ⟨false, rk, rv, ps⟩ = (116 :: Lib.itoa th ++ 32 :: opL ⟨8, ky, vl, hh⟩) ++ [32, 45, 62, 32, 110, 111] ++ 32 :: pairT (rk, rv) by simp [tellL, hto (by omega), retL, blkL, yesL]]
        exact rTell_8f th ky vl hh rk rv pb pc ps.length w hth h1 h2 hin _ rfl hL (hne (by omega))
      · rw [show tellL th true ⟨8, ky, vl, hh⟩ ⟨true, rk, rv, ps⟩ = (116 :: Lib.itoa th ++ 32 :: opL ⟨8, ky, vl, hh⟩) ++ [32, 45, 62, 32, 121, 101, 115] ++ 32 :: pairT (rk, rv) by simp [tellL, hto (by omega), retL, blkL, yesL]]
        exact rTell_8t th ky vl hh rk rv pb pc ps.length w hth h1 h2 hin _ rfl hL (hne (by omega))
    · by_cases h9 : 1 ≤ kd ∧ kd ≤ 9
      · have e : tellL th true ⟨kd, ky, vl, hh⟩ ⟨ok, rk, rv, ps⟩ = 116 :: Lib.itoa th ++ 32 :: opL ⟨kd, ky, vl, hh⟩ ++ ([32, 45, 62, 32] ++ yesL ok) ++ blkL (ps.map pairT) := by
          have e2 : retL kd ⟨ok, rk, rv, ps⟩ = ps.map pairT := by
            unfold retL
            rw [if_neg (by omega), if_neg (by omega)]
          simp [tellL, hto h9, e2]
        rw [e]
        cases ok
        · exact rTell_9f kd th ky vl hh rk rv pb pc ps.length w hth h1 h2 hin _ rfl hL pg po ps hp rfl h3 hnl (by omega) (hne h9)
        · exact rTell_9t kd th ky vl hh rk rv pb pc ps.length w hth h1 h2 hin _ rfl hL pg po ps hp rfl h3 hnl (by omega) (hne h9)
      · have e : tellL th true ⟨kd, ky, vl, hh⟩ ⟨ok, rk, rv, ps⟩ = 116 :: Lib.itoa th ++ 32 :: ([107, 105, 110, 100, 32] ++ Lib.itoa kd) ++ ([32, 45, 62, 32] ++ yesL ok) ++ blkL (ps.map pairT) := by
          have e2 : retL kd ⟨ok, rk, rv, ps⟩ = ps.map pairT := by
            unfold retL
            rw [if_neg (by omega), if_neg (by omega)]
          simp [tellL, htb h9, e2]
        rw [e]
        cases ok
        · exact rTell_bf kd th ky vl hh rk rv pb pc ps.length w hth h1 h2 hin _ rfl hL pg po ps hp rfl h3 hnl (by omega) (hnil h9)
        · exact rTell_bt kd th ky vl hh rk rv pb pc ps.length w hth h1 h2 hin _ rfl hL pg po ps hp rfl h3 hnl (by omega) (hnil h9)
end Go.Proofs.YtgiblcieplnncaaGreatDoor
