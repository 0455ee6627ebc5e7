/- Layer 6: the program's answer. Made by gen/mk_ans.py. -/
import Derived.Test.YtljidfaeljpnpaaMG4

namespace Go.Proofs.Ytljidfaeljpnpaa

open Go.RowKit

def AnsP (base : Option Addr) (c : Nat) (ps : PL) (o : OpD) (w : World) : Prop :=
  Calls Try.prog 66 #[.slice base ps.length c, .agg #[.int .i64 o.kind, .int .i64 o.key, .int .i64 o.val, .int .i64 o.hi]] w fun e w' => ∃ a n k, e = .returned (.agg #[.bool (stepR ps o).ok, .int .i64 (stepR ps o).key, .int .i64 (stepR ps o).val, .slice a n k]) ∧ Below w.heap.size w w' ∧ OwnPM w' w.heap.size (stepR ps o).pairs (.slice a n k)

set_option maxRecDepth 100000 in
set_option maxHeartbeats 1000000 in
theorem ans1 (base : Option Addr) (b o c : Nat) (ps : PL) (key val hi : Int) (w : World) (h : PairsAt w base b o ps) (hs : Srt ps) (hnil : NilOk base ps.length c) (hcap : ps.length ≤ c) (hcm : c ≤ maxLen) (hby : ps.length * 16 ≤ 140737488355328) : AnsP base c ps ⟨1, key, val, hi⟩ w := by
  have hl := h.len
  have HU : Hid (ps.length ≤ c ∧ c ≤ maxLen ∧ ps.length * 16 ≤ 140737488355328) := ⟨hcap, hcm, hby⟩
  unfold maxLen at hl
  have HA : Hid _ := h
  have HSR : Hid (Srt ps) := hs
  have HNIL : Hid (NilOk _ _ _) := hnil
  have HG : Hid _ := getK_pos key hs
  have hpl := posL_le key ps
  have SC : Hid (posL (key + 1) ps = posL key ps + if (getK key ps).isSome then 1 else 0) := by show posL (key + 1) ps = _; rw [posL_succ key hs, hasK_some]
  have HS0 : Hid (StB _ _ _) := StB.made w ⟨1, key, val, hi⟩ 39 42
  have PLC : Hid (∀ W, PairsAt W base b o ps → Calls Try.prog 78 #[.slice base ps.length c, .int .i64 key] W fun e w' => e = .returned (.tuple #[.int .i64 (posL key ps : Nat), .bool (getK key ps).isSome]) ∧ Below W.heap.size W w') := fun W hW => place_any base b o c ps key W hW HSR.out
  unfold AnsP
  clear h hs hnil
  cases hg : getK key ps with
  | some v =>
    have hv : posL key ps < ps.length ∧ v = valAt ps (posL key ps) := by
      have e := HG.out
      rw [hg] at e
      split at e
      · rename_i hq; exact ⟨hq.1, Option.some.inj e⟩
      · cases e
    obtain ⟨hlt, rfl⟩ := hv
    have ER : stepR ps ⟨1, key, val, hi⟩ = ⟨true, 0, valAt ps (posL key ps), []⟩ := by simp [stepR, hg]
    rw [ER]
    rw [hg] at PLC SC
    clear ER HG hg
    obtain ⟨m, hm⟩ : ∃ m, m = posL key ps := ⟨_, rfl⟩
    rw [← hm] at PLC hlt hpl ⊢
    clear hm SC
    obtain rfl : base = some ⟨b, o, none⟩ := HA.out.base (by omega)
    have m0 : (0 : Int) ≤ (m : Int) := Int.natCast_nonneg _
    have m1 : (m : Int) < (ps.length : Int) := by omega
    go_enter Try.func66, Try.ntmps66
    go_wp2_with fail
    refine (PLC.out _ (HA.out.below HS0.out.below)).mono ?_
    rintro e w1 ⟨rfl, hb1⟩
    have S1 := HS0.out.low hb1 (by simp)
    have HS1 : Hid (StB _ _ _) := S1
    obtain ⟨a0, a1, a2, a3⟩ := S1.op
    obtain ⟨b0, b1, b2, b3⟩ := S1.res
    have fr := fun i => S1.free i
    have z1 := S1.size
    simp only at a0 a1 a2 a3
    clear S1 hb1
    obtain ⟨d0, d1⟩ := (HA.out.below HS1.out.below).cells m hlt
    have zb : b < w.heap.size := HA.out.lt (by omega)
    have HF : Hid _ := HS1.out.fin true 0 (valAt ps m) (.slice none 0 0)
    go_wp2_with fail
    obtain ⟨⟨q0, q1, q2, q3⟩, hbf, hof⟩ := HF.out
    refine bodyPost_ret (v := .agg #[.bool true, .int .i64 0, .int .i64 (valAt ps m), (.slice none 0 0)]) (by simp [results, Try.results66, go_sem, q0, q1, q2, q3]) rfl ⟨none, 0, 0, rfl, hbf, OwnPM.nil _ _⟩
  | none =>
    have ER : stepR ps ⟨1, key, val, hi⟩ = ⟨false, 0, 0, []⟩ := by simp [stepR, hg]
    rw [ER]
    rw [hg] at PLC
    clear ER HG hg SC
    go_enter Try.func66, Try.ntmps66
    go_wp2_with fail
    refine (PLC.out _ (HA.out.below HS0.out.below)).mono ?_
    rintro e w1 ⟨rfl, hb1⟩
    have S1 := HS0.out.low hb1 (by simp)
    have HS1 : Hid (StB _ _ _) := S1
    obtain ⟨a0, a1, a2, a3⟩ := S1.op
    obtain ⟨b0, b1, b2, b3⟩ := S1.res
    have fr := fun i => S1.free i
    have z1 := S1.size
    simp only at a0 a1 a2 a3
    clear S1 hb1
    have HF : Hid _ := HS1.out.fin false 0 0 (.slice none 0 0)
    go_wp2_with fail
    obtain ⟨⟨q0, q1, q2, q3⟩, hbf, hof⟩ := HF.out
    refine bodyPost_ret (v := .agg #[.bool false, .int .i64 0, .int .i64 0, (.slice none 0 0)]) (by simp [results, Try.results66, go_sem, q0, q1, q2, q3]) rfl ⟨none, 0, 0, rfl, hbf, OwnPM.nil _ _⟩

set_option maxRecDepth 100000 in
set_option maxHeartbeats 1000000 in
theorem ans2 (base : Option Addr) (b o c : Nat) (ps : PL) (key val hi : Int) (w : World) (h : PairsAt w base b o ps) (hs : Srt ps) (hnil : NilOk base ps.length c) (hcap : ps.length ≤ c) (hcm : c ≤ maxLen) (hby : ps.length * 16 ≤ 140737488355328) : AnsP base c ps ⟨2, key, val, hi⟩ w := by
  have hl := h.len
  have HU : Hid (ps.length ≤ c ∧ c ≤ maxLen ∧ ps.length * 16 ≤ 140737488355328) := ⟨hcap, hcm, hby⟩
  unfold maxLen at hl
  have HA : Hid _ := h
  have HSR : Hid (Srt ps) := hs
  have HNIL : Hid (NilOk _ _ _) := hnil
  have HG : Hid _ := getK_pos key hs
  have hpl := posL_le key ps
  have SC : Hid (posL (key + 1) ps = posL key ps + if (getK key ps).isSome then 1 else 0) := by show posL (key + 1) ps = _; rw [posL_succ key hs, hasK_some]
  have HS0 : Hid (StB _ _ _) := StB.made w ⟨2, key, val, hi⟩ 39 42
  have PLC : Hid (∀ W, PairsAt W base b o ps → Calls Try.prog 78 #[.slice base ps.length c, .int .i64 key] W fun e w' => e = .returned (.tuple #[.int .i64 (posL key ps : Nat), .bool (getK key ps).isSome]) ∧ Below W.heap.size W w') := fun W hW => place_any base b o c ps key W hW HSR.out
  unfold AnsP
  clear h hs hnil
  cases hg : getK key ps with
  | some v =>
    have hv : posL key ps < ps.length ∧ v = valAt ps (posL key ps) := by
      have e := HG.out
      rw [hg] at e
      split at e
      · rename_i hq; exact ⟨hq.1, Option.some.inj e⟩
      · cases e
    obtain ⟨hlt, rfl⟩ := hv
    have ER : stepR ps ⟨2, key, val, hi⟩ = ⟨true, 0, valAt ps (posL key ps), []⟩ := by simp [stepR, hg]
    rw [ER]
    rw [hg] at PLC SC
    clear ER HG hg
    obtain ⟨m, hm⟩ : ∃ m, m = posL key ps := ⟨_, rfl⟩
    rw [← hm] at PLC hlt hpl ⊢
    clear hm SC
    obtain rfl : base = some ⟨b, o, none⟩ := HA.out.base (by omega)
    have m0 : (0 : Int) ≤ (m : Int) := Int.natCast_nonneg _
    have m1 : (m : Int) < (ps.length : Int) := by omega
    go_enter Try.func66, Try.ntmps66
    go_wp2_with fail
    refine (PLC.out _ (HA.out.below HS0.out.below)).mono ?_
    rintro e w1 ⟨rfl, hb1⟩
    have S1 := HS0.out.low hb1 (by simp)
    have HS1 : Hid (StB _ _ _) := S1
    obtain ⟨a0, a1, a2, a3⟩ := S1.op
    obtain ⟨b0, b1, b2, b3⟩ := S1.res
    have fr := fun i => S1.free i
    have z1 := S1.size
    simp only at a0 a1 a2 a3
    clear S1 hb1
    obtain ⟨d0, d1⟩ := (HA.out.below HS1.out.below).cells m hlt
    have zb : b < w.heap.size := HA.out.lt (by omega)
    have HF : Hid _ := HS1.out.fin true 0 (valAt ps m) (.slice none 0 0)
    go_wp2_with fail
    obtain ⟨⟨q0, q1, q2, q3⟩, hbf, hof⟩ := HF.out
    refine bodyPost_ret (v := .agg #[.bool true, .int .i64 0, .int .i64 (valAt ps m), (.slice none 0 0)]) (by simp [results, Try.results66, go_sem, q0, q1, q2, q3]) rfl ⟨none, 0, 0, rfl, hbf, OwnPM.nil _ _⟩
  | none =>
    have ER : stepR ps ⟨2, key, val, hi⟩ = ⟨false, 0, 0, []⟩ := by simp [stepR, hg]
    rw [ER]
    rw [hg] at PLC
    clear ER HG hg SC
    go_enter Try.func66, Try.ntmps66
    go_wp2_with fail
    refine (PLC.out _ (HA.out.below HS0.out.below)).mono ?_
    rintro e w1 ⟨rfl, hb1⟩
    have S1 := HS0.out.low hb1 (by simp)
    have HS1 : Hid (StB _ _ _) := S1
    obtain ⟨a0, a1, a2, a3⟩ := S1.op
    obtain ⟨b0, b1, b2, b3⟩ := S1.res
    have fr := fun i => S1.free i
    have z1 := S1.size
    simp only at a0 a1 a2 a3
    clear S1 hb1
    have HF : Hid _ := HS1.out.fin false 0 0 (.slice none 0 0)
    go_wp2_with fail
    obtain ⟨⟨q0, q1, q2, q3⟩, hbf, hof⟩ := HF.out
    refine bodyPost_ret (v := .agg #[.bool false, .int .i64 0, .int .i64 0, (.slice none 0 0)]) (by simp [results, Try.results66, go_sem, q0, q1, q2, q3]) rfl ⟨none, 0, 0, rfl, hbf, OwnPM.nil _ _⟩

set_option maxRecDepth 100000 in
set_option maxHeartbeats 1000000 in
theorem ans4 (base : Option Addr) (b o c : Nat) (ps : PL) (key val hi : Int) (w : World) (h : PairsAt w base b o ps) (hs : Srt ps) (hnil : NilOk base ps.length c) (hcap : ps.length ≤ c) (hcm : c ≤ maxLen) (hby : ps.length * 16 ≤ 140737488355328) : AnsP base c ps ⟨4, key, val, hi⟩ w := by
  have hl := h.len
  have HU : Hid (ps.length ≤ c ∧ c ≤ maxLen ∧ ps.length * 16 ≤ 140737488355328) := ⟨hcap, hcm, hby⟩
  unfold maxLen at hl
  have HA : Hid _ := h
  have HSR : Hid (Srt ps) := hs
  have HNIL : Hid (NilOk _ _ _) := hnil
  have HG : Hid _ := getK_pos key hs
  have hpl := posL_le key ps
  have SC : Hid (posL (key + 1) ps = posL key ps + if (getK key ps).isSome then 1 else 0) := by show posL (key + 1) ps = _; rw [posL_succ key hs, hasK_some]
  have HS0 : Hid (StB _ _ _) := StB.made w ⟨4, key, val, hi⟩ 39 42
  have PLC : Hid (∀ W, PairsAt W base b o ps → Calls Try.prog 78 #[.slice base ps.length c, .int .i64 key] W fun e w' => e = .returned (.tuple #[.int .i64 (posL key ps : Nat), .bool (getK key ps).isSome]) ∧ Below W.heap.size W w') := fun W hW => place_any base b o c ps key W hW HSR.out
  unfold AnsP
  clear h hs hnil
  cases hg : getK key ps with
  | some v =>
    have hv : posL key ps < ps.length ∧ v = valAt ps (posL key ps) := by
      have e := HG.out
      rw [hg] at e
      split at e
      · rename_i hq; exact ⟨hq.1, Option.some.inj e⟩
      · cases e
    obtain ⟨hlt, rfl⟩ := hv
    have ER : stepR ps ⟨4, key, val, hi⟩ = ⟨true, 0, valAt ps (posL key ps), []⟩ := by simp [stepR, hg]
    rw [ER]
    rw [hg] at PLC SC
    clear ER HG hg
    obtain ⟨m, hm⟩ : ∃ m, m = posL key ps := ⟨_, rfl⟩
    rw [← hm] at PLC hlt hpl ⊢
    clear hm SC
    obtain rfl : base = some ⟨b, o, none⟩ := HA.out.base (by omega)
    have m0 : (0 : Int) ≤ (m : Int) := Int.natCast_nonneg _
    have m1 : (m : Int) < (ps.length : Int) := by omega
    go_enter Try.func66, Try.ntmps66
    go_wp2_with fail
    refine (PLC.out _ (HA.out.below HS0.out.below)).mono ?_
    rintro e w1 ⟨rfl, hb1⟩
    have S1 := HS0.out.low hb1 (by simp)
    have HS1 : Hid (StB _ _ _) := S1
    obtain ⟨a0, a1, a2, a3⟩ := S1.op
    obtain ⟨b0, b1, b2, b3⟩ := S1.res
    have fr := fun i => S1.free i
    have z1 := S1.size
    simp only at a0 a1 a2 a3
    clear S1 hb1
    obtain ⟨d0, d1⟩ := (HA.out.below HS1.out.below).cells m hlt
    have zb : b < w.heap.size := HA.out.lt (by omega)
    have HF : Hid _ := HS1.out.fin true 0 (valAt ps m) (.slice none 0 0)
    go_wp2_with fail
    obtain ⟨⟨q0, q1, q2, q3⟩, hbf, hof⟩ := HF.out
    refine bodyPost_ret (v := .agg #[.bool true, .int .i64 0, .int .i64 (valAt ps m), (.slice none 0 0)]) (by simp [results, Try.results66, go_sem, q0, q1, q2, q3]) rfl ⟨none, 0, 0, rfl, hbf, OwnPM.nil _ _⟩
  | none =>
    have ER : stepR ps ⟨4, key, val, hi⟩ = ⟨false, 0, 0, []⟩ := by simp [stepR, hg]
    rw [ER]
    rw [hg] at PLC
    clear ER HG hg SC
    go_enter Try.func66, Try.ntmps66
    go_wp2_with fail
    refine (PLC.out _ (HA.out.below HS0.out.below)).mono ?_
    rintro e w1 ⟨rfl, hb1⟩
    have S1 := HS0.out.low hb1 (by simp)
    have HS1 : Hid (StB _ _ _) := S1
    obtain ⟨a0, a1, a2, a3⟩ := S1.op
    obtain ⟨b0, b1, b2, b3⟩ := S1.res
    have fr := fun i => S1.free i
    have z1 := S1.size
    simp only at a0 a1 a2 a3
    clear S1 hb1
    have HF : Hid _ := HS1.out.fin false 0 0 (.slice none 0 0)
    go_wp2_with fail
    obtain ⟨⟨q0, q1, q2, q3⟩, hbf, hof⟩ := HF.out
    refine bodyPost_ret (v := .agg #[.bool false, .int .i64 0, .int .i64 0, (.slice none 0 0)]) (by simp [results, Try.results66, go_sem, q0, q1, q2, q3]) rfl ⟨none, 0, 0, rfl, hbf, OwnPM.nil _ _⟩

set_option maxRecDepth 100000 in
set_option maxHeartbeats 1000000 in
theorem ans3 (base : Option Addr) (b o c : Nat) (ps : PL) (key val hi : Int) (w : World) (h : PairsAt w base b o ps) (hs : Srt ps) (hnil : NilOk base ps.length c) (hcap : ps.length ≤ c) (hcm : c ≤ maxLen) (hby : ps.length * 16 ≤ 140737488355328) : AnsP base c ps ⟨3, key, val, hi⟩ w := by
  have hl := h.len
  have HU : Hid (ps.length ≤ c ∧ c ≤ maxLen ∧ ps.length * 16 ≤ 140737488355328) := ⟨hcap, hcm, hby⟩
  unfold maxLen at hl
  have HA : Hid _ := h
  have HSR : Hid (Srt ps) := hs
  have HNIL : Hid (NilOk _ _ _) := hnil
  have HG : Hid _ := getK_pos key hs
  have hpl := posL_le key ps
  have SC : Hid (posL (key + 1) ps = posL key ps + if (getK key ps).isSome then 1 else 0) := by show posL (key + 1) ps = _; rw [posL_succ key hs, hasK_some]
  have HS0 : Hid (StB _ _ _) := StB.made w ⟨3, key, val, hi⟩ 39 42
  have PLC : Hid (∀ W, PairsAt W base b o ps → Calls Try.prog 78 #[.slice base ps.length c, .int .i64 key] W fun e w' => e = .returned (.tuple #[.int .i64 (posL key ps : Nat), .bool (getK key ps).isSome]) ∧ Below W.heap.size W w') := fun W hW => place_any base b o c ps key W hW HSR.out
  unfold AnsP
  clear h hs hnil
  cases hg : getK key ps with
  | some v =>
    have hv : posL key ps < ps.length ∧ v = valAt ps (posL key ps) := by
      have e := HG.out
      rw [hg] at e
      split at e
      · rename_i hq; exact ⟨hq.1, Option.some.inj e⟩
      · cases e
    obtain ⟨hlt, rfl⟩ := hv
    have ER : stepR ps ⟨3, key, val, hi⟩ = ⟨false, 0, valAt ps (posL key ps), []⟩ := by simp [stepR, hg]
    rw [ER]
    rw [hg] at PLC SC
    clear ER HG hg
    obtain ⟨m, hm⟩ : ∃ m, m = posL key ps := ⟨_, rfl⟩
    rw [← hm] at PLC hlt hpl ⊢
    clear hm SC
    obtain rfl : base = some ⟨b, o, none⟩ := HA.out.base (by omega)
    have m0 : (0 : Int) ≤ (m : Int) := Int.natCast_nonneg _
    have m1 : (m : Int) < (ps.length : Int) := by omega
    go_enter Try.func66, Try.ntmps66
    go_wp2_with fail
    refine (PLC.out _ (HA.out.below HS0.out.below)).mono ?_
    rintro e w1 ⟨rfl, hb1⟩
    have S1 := HS0.out.low hb1 (by simp)
    have HS1 : Hid (StB _ _ _) := S1
    obtain ⟨a0, a1, a2, a3⟩ := S1.op
    obtain ⟨b0, b1, b2, b3⟩ := S1.res
    have fr := fun i => S1.free i
    have z1 := S1.size
    simp only at a0 a1 a2 a3
    clear S1 hb1
    obtain ⟨d0, d1⟩ := (HA.out.below HS1.out.below).cells m hlt
    have zb : b < w.heap.size := HA.out.lt (by omega)
    have HF : Hid _ := HS1.out.fin false 0 (valAt ps m) (.slice none 0 0)
    go_wp2_with fail
    obtain ⟨⟨q0, q1, q2, q3⟩, hbf, hof⟩ := HF.out
    refine bodyPost_ret (v := .agg #[.bool false, .int .i64 0, .int .i64 (valAt ps m), (.slice none 0 0)]) (by simp [results, Try.results66, go_sem, q0, q1, q2, q3]) rfl ⟨none, 0, 0, rfl, hbf, OwnPM.nil _ _⟩
  | none =>
    have ER : stepR ps ⟨3, key, val, hi⟩ = ⟨true, 0, 0, []⟩ := by simp [stepR, hg]
    rw [ER]
    rw [hg] at PLC
    clear ER HG hg SC
    go_enter Try.func66, Try.ntmps66
    go_wp2_with fail
    refine (PLC.out _ (HA.out.below HS0.out.below)).mono ?_
    rintro e w1 ⟨rfl, hb1⟩
    have S1 := HS0.out.low hb1 (by simp)
    have HS1 : Hid (StB _ _ _) := S1
    obtain ⟨a0, a1, a2, a3⟩ := S1.op
    obtain ⟨b0, b1, b2, b3⟩ := S1.res
    have fr := fun i => S1.free i
    have z1 := S1.size
    simp only at a0 a1 a2 a3
    clear S1 hb1
    have HF : Hid _ := HS1.out.fin true 0 0 (.slice none 0 0)
    go_wp2_with fail
    obtain ⟨⟨q0, q1, q2, q3⟩, hbf, hof⟩ := HF.out
    refine bodyPost_ret (v := .agg #[.bool true, .int .i64 0, .int .i64 0, (.slice none 0 0)]) (by simp [results, Try.results66, go_sem, q0, q1, q2, q3]) rfl ⟨none, 0, 0, rfl, hbf, OwnPM.nil _ _⟩

set_option maxRecDepth 100000 in
set_option maxHeartbeats 1000000 in
theorem ans5 (base : Option Addr) (b o c : Nat) (ps : PL) (key val hi : Int) (w : World) (h : PairsAt w base b o ps) (hs : Srt ps) (hnil : NilOk base ps.length c) (hcap : ps.length ≤ c) (hcm : c ≤ maxLen) (hby : ps.length * 16 ≤ 140737488355328) : AnsP base c ps ⟨5, key, val, hi⟩ w := by
  have hl := h.len
  have HU : Hid (ps.length ≤ c ∧ c ≤ maxLen ∧ ps.length * 16 ≤ 140737488355328) := ⟨hcap, hcm, hby⟩
  unfold maxLen at hl
  have HA : Hid _ := h
  have HSR : Hid (Srt ps) := hs
  have HNIL : Hid (NilOk _ _ _) := hnil
  have HG : Hid _ := getK_pos key hs
  have hpl := posL_le key ps
  have SC : Hid (posL (key + 1) ps = posL key ps + if (getK key ps).isSome then 1 else 0) := by show posL (key + 1) ps = _; rw [posL_succ key hs, hasK_some]
  have HS0 : Hid (StB _ _ _) := StB.made w ⟨5, key, val, hi⟩ 39 42
  have PLC : Hid (∀ W, PairsAt W base b o ps → Calls Try.prog 78 #[.slice base ps.length c, .int .i64 key] W fun e w' => e = .returned (.tuple #[.int .i64 (posL key ps : Nat), .bool (getK key ps).isSome]) ∧ Below W.heap.size W w') := fun W hW => place_any base b o c ps key W hW HSR.out
  unfold AnsP
  clear h hs hnil
  cases hg : (getK key ps).isSome
  · have ER : stepR ps ⟨5, key, val, hi⟩ = tellR (pAt ps ((posL key ps : Nat) : Int)) := by
      have : stepR ps ⟨5, key, val, hi⟩ = tellR (nbN ps 5 key ps.length) := by simp [stepR]
      rw [this, nb_next ps key HSR.out, SC.out, hg, if_neg (by simp), Nat.add_zero]
    have EP : (tellR (pAt ps ((posL key ps : Nat) : Int))).pairs = [] := by cases pAt ps ((posL key ps : Nat) : Int) <;> rfl
    rw [ER, EP]
    clear ER EP
    obtain ⟨r, hr⟩ : ∃ r, r = tellR (pAt ps ((posL key ps : Nat) : Int)) := ⟨_, rfl⟩
    rw [← hr]
    have PA : Hid (∀ W, PairsAt W base b o ps → Calls Try.prog 79 #[.slice base ps.length c, .int .i64 ((posL key ps : Nat) : Int)] W fun e w' => e = .returned (.agg #[.bool r.ok, .int .i64 r.key, .int .i64 r.val, .slice none 0 0]) ∧ Below W.heap.size W w') := fun W hW => by rw [hr]; exact pairAt_any base b o c ps ((posL key ps : Nat) : Int) W hW
    clear hr
    rw [hg] at PLC
    clear SC HG hg
    obtain ⟨m, hm⟩ : ∃ m, m = posL key ps := ⟨_, rfl⟩
    rw [← hm] at PLC PA hpl
    clear hm
    have m1 : (m : Int) ≤ (ps.length : Int) := by omega
    have m0 : (0 : Int) ≤ (m : Int) := Int.natCast_nonneg _
    go_enter Try.func66, Try.ntmps66
    go_wp2_with fail
    refine (PLC.out _ (HA.out.below HS0.out.below)).mono ?_
    rintro e w1 ⟨rfl, hb1⟩
    have S1 := HS0.out.low hb1 (by simp)
    have HS1 : Hid (StB _ _ _) := S1
    obtain ⟨a0, a1, a2, a3⟩ := S1.op
    obtain ⟨b0, b1, b2, b3⟩ := S1.res
    have fr := fun i => S1.free i
    have z1 := S1.size
    simp only at a0 a1 a2 a3
    clear S1 hb1
    go_wp2_with fail
    refine (PA.out _ (HA.out.below HS1.out.below)).mono ?_
    rintro e w2 ⟨rfl, hb2⟩
    have S2 := HS1.out.low hb2 z1
    have HS2 : Hid (StB _ _ _) := S2
    clear a0 a1 a2 a3 b0 b1 b2 b3 fr
    obtain ⟨b0, b1, b2, b3⟩ := S2.res
    have fr := fun i => S2.free i
    have z2 := S2.size
    clear S2 hb2
    have HF : Hid _ := HS2.out.fin r.ok r.key r.val (.slice none 0 0)
    go_wp2_with fail
    obtain ⟨⟨q0, q1, q2, q3⟩, hbf, hof⟩ := HF.out
    refine bodyPost_ret (v := .agg #[.bool r.ok, .int .i64 r.key, .int .i64 r.val, (.slice none 0 0)]) (by simp [results, Try.results66, go_sem, q0, q1, q2, q3]) rfl ⟨none, 0, 0, rfl, hbf, OwnPM.nil _ _⟩
  · have ER : stepR ps ⟨5, key, val, hi⟩ = tellR (pAt ps (((posL key ps : Nat) : Int) + 1)) := by
      have : stepR ps ⟨5, key, val, hi⟩ = tellR (nbN ps 5 key ps.length) := by simp [stepR]
      rw [this, nb_next ps key HSR.out, SC.out, hg, if_pos (by simp), Int.natCast_add, Int.natCast_one]
    have EP : (tellR (pAt ps (((posL key ps : Nat) : Int) + 1))).pairs = [] := by cases pAt ps (((posL key ps : Nat) : Int) + 1) <;> rfl
    rw [ER, EP]
    clear ER EP
    obtain ⟨r, hr⟩ : ∃ r, r = tellR (pAt ps (((posL key ps : Nat) : Int) + 1)) := ⟨_, rfl⟩
    rw [← hr]
    have PA : Hid (∀ W, PairsAt W base b o ps → Calls Try.prog 79 #[.slice base ps.length c, .int .i64 (((posL key ps : Nat) : Int) + 1)] W fun e w' => e = .returned (.agg #[.bool r.ok, .int .i64 r.key, .int .i64 r.val, .slice none 0 0]) ∧ Below W.heap.size W w') := fun W hW => by rw [hr]; exact pairAt_any base b o c ps (((posL key ps : Nat) : Int) + 1) W hW
    clear hr
    rw [hg] at PLC
    clear SC HG hg
    obtain ⟨m, hm⟩ : ∃ m, m = posL key ps := ⟨_, rfl⟩
    rw [← hm] at PLC PA hpl
    clear hm
    have m1 : (m : Int) ≤ (ps.length : Int) := by omega
    have m0 : (0 : Int) ≤ (m : Int) := Int.natCast_nonneg _
    go_enter Try.func66, Try.ntmps66
    go_wp2_with fail
    refine (PLC.out _ (HA.out.below HS0.out.below)).mono ?_
    rintro e w1 ⟨rfl, hb1⟩
    have S1 := HS0.out.low hb1 (by simp)
    have HS1 : Hid (StB _ _ _) := S1
    obtain ⟨a0, a1, a2, a3⟩ := S1.op
    obtain ⟨b0, b1, b2, b3⟩ := S1.res
    have fr := fun i => S1.free i
    have z1 := S1.size
    simp only at a0 a1 a2 a3
    clear S1 hb1
    go_wp2_with fail
    refine (PA.out _ (HA.out.below HS1.out.below)).mono ?_
    rintro e w2 ⟨rfl, hb2⟩
    have S2 := HS1.out.low hb2 z1
    have HS2 : Hid (StB _ _ _) := S2
    clear a0 a1 a2 a3 b0 b1 b2 b3 fr
    obtain ⟨b0, b1, b2, b3⟩ := S2.res
    have fr := fun i => S2.free i
    have z2 := S2.size
    clear S2 hb2
    have HF : Hid _ := HS2.out.fin r.ok r.key r.val (.slice none 0 0)
    go_wp2_with fail
    obtain ⟨⟨q0, q1, q2, q3⟩, hbf, hof⟩ := HF.out
    refine bodyPost_ret (v := .agg #[.bool r.ok, .int .i64 r.key, .int .i64 r.val, (.slice none 0 0)]) (by simp [results, Try.results66, go_sem, q0, q1, q2, q3]) rfl ⟨none, 0, 0, rfl, hbf, OwnPM.nil _ _⟩

set_option maxRecDepth 100000 in
set_option maxHeartbeats 1000000 in
theorem ans6 (base : Option Addr) (b o c : Nat) (ps : PL) (key val hi : Int) (w : World) (h : PairsAt w base b o ps) (hs : Srt ps) (hnil : NilOk base ps.length c) (hcap : ps.length ≤ c) (hcm : c ≤ maxLen) (hby : ps.length * 16 ≤ 140737488355328) : AnsP base c ps ⟨6, key, val, hi⟩ w := by
  have hl := h.len
  have HU : Hid (ps.length ≤ c ∧ c ≤ maxLen ∧ ps.length * 16 ≤ 140737488355328) := ⟨hcap, hcm, hby⟩
  unfold maxLen at hl
  have HA : Hid _ := h
  have HSR : Hid (Srt ps) := hs
  have HNIL : Hid (NilOk _ _ _) := hnil
  have HG : Hid _ := getK_pos key hs
  have hpl := posL_le key ps
  have SC : Hid (posL (key + 1) ps = posL key ps + if (getK key ps).isSome then 1 else 0) := by show posL (key + 1) ps = _; rw [posL_succ key hs, hasK_some]
  have HS0 : Hid (StB _ _ _) := StB.made w ⟨6, key, val, hi⟩ 39 42
  have PLC : Hid (∀ W, PairsAt W base b o ps → Calls Try.prog 78 #[.slice base ps.length c, .int .i64 key] W fun e w' => e = .returned (.tuple #[.int .i64 (posL key ps : Nat), .bool (getK key ps).isSome]) ∧ Below W.heap.size W w') := fun W hW => place_any base b o c ps key W hW HSR.out
  unfold AnsP
  clear h hs hnil
  have ER : stepR ps ⟨6, key, val, hi⟩ = tellR (pAt ps (((posL key ps : Nat) : Int) - 1)) := by
    have : stepR ps ⟨6, key, val, hi⟩ = tellR (nbN ps 6 key ps.length) := by simp [stepR]
    rw [this, nb_back ps key HSR.out]
  have EP : (tellR (pAt ps (((posL key ps : Nat) : Int) - 1))).pairs = [] := by cases pAt ps (((posL key ps : Nat) : Int) - 1) <;> rfl
  rw [ER, EP]
  clear ER EP
  obtain ⟨r, hr⟩ : ∃ r, r = tellR (pAt ps (((posL key ps : Nat) : Int) - 1)) := ⟨_, rfl⟩
  rw [← hr]
  have PA : Hid (∀ W, PairsAt W base b o ps → Calls Try.prog 79 #[.slice base ps.length c, .int .i64 (((posL key ps : Nat) : Int) - 1)] W fun e w' => e = .returned (.agg #[.bool r.ok, .int .i64 r.key, .int .i64 r.val, .slice none 0 0]) ∧ Below W.heap.size W w') := fun W hW => by rw [hr]; exact pairAt_any base b o c ps (((posL key ps : Nat) : Int) - 1) W hW
  clear hr
  obtain ⟨q, hq⟩ : ∃ q, q = (getK key ps).isSome := ⟨_, rfl⟩
  rw [← hq] at PLC
  clear SC HG hq
  obtain ⟨m, hm⟩ : ∃ m, m = posL key ps := ⟨_, rfl⟩
  rw [← hm] at PLC hpl PA
  clear hm
  have m1 : (m : Int) ≤ (ps.length : Int) := by omega
  have m0 : (0 : Int) ≤ (m : Int) := Int.natCast_nonneg _
  go_enter Try.func66, Try.ntmps66
  go_wp2_with fail
  refine (PLC.out _ (HA.out.below HS0.out.below)).mono ?_
  rintro e w1 ⟨rfl, hb1⟩
  have S1 := HS0.out.low hb1 (by simp)
  have HS1 : Hid (StB _ _ _) := S1
  obtain ⟨a0, a1, a2, a3⟩ := S1.op
  obtain ⟨b0, b1, b2, b3⟩ := S1.res
  have fr := fun i => S1.free i
  have z1 := S1.size
  simp only at a0 a1 a2 a3
  clear S1 hb1
  go_wp2_with fail
  refine (PA.out _ (HA.out.below HS1.out.below)).mono ?_
  rintro e w2 ⟨rfl, hb2⟩
  have S2 := HS1.out.low hb2 z1
  have HS2 : Hid (StB _ _ _) := S2
  clear a0 a1 a2 a3 b0 b1 b2 b3 fr
  obtain ⟨b0, b1, b2, b3⟩ := S2.res
  have fr := fun i => S2.free i
  have z2 := S2.size
  clear S2 hb2
  have HF : Hid _ := HS2.out.fin r.ok r.key r.val (.slice none 0 0)
  go_wp2_with fail
  obtain ⟨⟨q0, q1, q2, q3⟩, hbf, hof⟩ := HF.out
  refine bodyPost_ret (v := .agg #[.bool r.ok, .int .i64 r.key, .int .i64 r.val, (.slice none 0 0)]) (by simp [results, Try.results66, go_sem, q0, q1, q2, q3]) rfl ⟨none, 0, 0, rfl, hbf, OwnPM.nil _ _⟩

set_option maxRecDepth 100000 in
set_option maxHeartbeats 1000000 in
theorem ans7 (base : Option Addr) (b o c : Nat) (ps : PL) (key val hi : Int) (w : World) (h : PairsAt w base b o ps) (hs : Srt ps) (hnil : NilOk base ps.length c) (hcap : ps.length ≤ c) (hcm : c ≤ maxLen) (hby : ps.length * 16 ≤ 140737488355328) : AnsP base c ps ⟨7, key, val, hi⟩ w := by
  have hl := h.len
  have HU : Hid (ps.length ≤ c ∧ c ≤ maxLen ∧ ps.length * 16 ≤ 140737488355328) := ⟨hcap, hcm, hby⟩
  unfold maxLen at hl
  have HA : Hid _ := h
  have HSR : Hid (Srt ps) := hs
  have HNIL : Hid (NilOk _ _ _) := hnil
  have HG : Hid _ := getK_pos key hs
  have hpl := posL_le key ps
  have SC : Hid (posL (key + 1) ps = posL key ps + if (getK key ps).isSome then 1 else 0) := by show posL (key + 1) ps = _; rw [posL_succ key hs, hasK_some]
  have HS0 : Hid (StB _ _ _) := StB.made w ⟨7, key, val, hi⟩ 39 42
  have PLC : Hid (∀ W, PairsAt W base b o ps → Calls Try.prog 78 #[.slice base ps.length c, .int .i64 key] W fun e w' => e = .returned (.tuple #[.int .i64 (posL key ps : Nat), .bool (getK key ps).isSome]) ∧ Below W.heap.size W w') := fun W hW => place_any base b o c ps key W hW HSR.out
  unfold AnsP
  clear h hs hnil
  have ER : stepR ps ⟨7, key, val, hi⟩ = tellR (pAt ps 0) := by
    have : stepR ps ⟨7, key, val, hi⟩ = tellR (nbN ps 7 key ps.length) := by simp [stepR]
    rw [this, nb_min ps key]
  have EP : (tellR (pAt ps 0)).pairs = [] := by cases pAt ps 0 <;> rfl
  rw [ER, EP]
  clear ER EP
  obtain ⟨r, hr⟩ : ∃ r, r = tellR (pAt ps 0) := ⟨_, rfl⟩
  rw [← hr]
  have PA : Hid (∀ W, PairsAt W base b o ps → Calls Try.prog 79 #[.slice base ps.length c, .int .i64 0] W fun e w' => e = .returned (.agg #[.bool r.ok, .int .i64 r.key, .int .i64 r.val, .slice none 0 0]) ∧ Below W.heap.size W w') := fun W hW => by rw [hr]; exact pairAt_any base b o c ps 0 W hW
  clear hr
  obtain ⟨q, hq⟩ : ∃ q, q = (getK key ps).isSome := ⟨_, rfl⟩
  rw [← hq] at PLC
  clear SC HG hq
  obtain ⟨m, hm⟩ : ∃ m, m = posL key ps := ⟨_, rfl⟩
  rw [← hm] at PLC hpl
  clear hm
  have m1 : (m : Int) ≤ (ps.length : Int) := by omega
  have m0 : (0 : Int) ≤ (m : Int) := Int.natCast_nonneg _
  go_enter Try.func66, Try.ntmps66
  go_wp2_with fail
  refine (PLC.out _ (HA.out.below HS0.out.below)).mono ?_
  rintro e w1 ⟨rfl, hb1⟩
  have S1 := HS0.out.low hb1 (by simp)
  have HS1 : Hid (StB _ _ _) := S1
  obtain ⟨a0, a1, a2, a3⟩ := S1.op
  obtain ⟨b0, b1, b2, b3⟩ := S1.res
  have fr := fun i => S1.free i
  have z1 := S1.size
  simp only at a0 a1 a2 a3
  clear S1 hb1
  go_wp2_with fail
  refine (PA.out _ (HA.out.below HS1.out.below)).mono ?_
  rintro e w2 ⟨rfl, hb2⟩
  have S2 := HS1.out.low hb2 z1
  have HS2 : Hid (StB _ _ _) := S2
  clear a0 a1 a2 a3 b0 b1 b2 b3 fr
  obtain ⟨b0, b1, b2, b3⟩ := S2.res
  have fr := fun i => S2.free i
  have z2 := S2.size
  clear S2 hb2
  have HF : Hid _ := HS2.out.fin r.ok r.key r.val (.slice none 0 0)
  go_wp2_with fail
  obtain ⟨⟨q0, q1, q2, q3⟩, hbf, hof⟩ := HF.out
  refine bodyPost_ret (v := .agg #[.bool r.ok, .int .i64 r.key, .int .i64 r.val, (.slice none 0 0)]) (by simp [results, Try.results66, go_sem, q0, q1, q2, q3]) rfl ⟨none, 0, 0, rfl, hbf, OwnPM.nil _ _⟩

set_option maxRecDepth 100000 in
set_option maxHeartbeats 1000000 in
theorem ans8 (base : Option Addr) (b o c : Nat) (ps : PL) (key val hi : Int) (w : World) (h : PairsAt w base b o ps) (hs : Srt ps) (hnil : NilOk base ps.length c) (hcap : ps.length ≤ c) (hcm : c ≤ maxLen) (hby : ps.length * 16 ≤ 140737488355328) : AnsP base c ps ⟨8, key, val, hi⟩ w := by
  have hl := h.len
  have HU : Hid (ps.length ≤ c ∧ c ≤ maxLen ∧ ps.length * 16 ≤ 140737488355328) := ⟨hcap, hcm, hby⟩
  unfold maxLen at hl
  have HA : Hid _ := h
  have HSR : Hid (Srt ps) := hs
  have HNIL : Hid (NilOk _ _ _) := hnil
  have HG : Hid _ := getK_pos key hs
  have hpl := posL_le key ps
  have SC : Hid (posL (key + 1) ps = posL key ps + if (getK key ps).isSome then 1 else 0) := by show posL (key + 1) ps = _; rw [posL_succ key hs, hasK_some]
  have HS0 : Hid (StB _ _ _) := StB.made w ⟨8, key, val, hi⟩ 39 42
  have PLC : Hid (∀ W, PairsAt W base b o ps → Calls Try.prog 78 #[.slice base ps.length c, .int .i64 key] W fun e w' => e = .returned (.tuple #[.int .i64 (posL key ps : Nat), .bool (getK key ps).isSome]) ∧ Below W.heap.size W w') := fun W hW => place_any base b o c ps key W hW HSR.out
  unfold AnsP
  clear h hs hnil
  have ER : stepR ps ⟨8, key, val, hi⟩ = tellR (pAt ps ((ps.length : Int) - 1)) := by
    have : stepR ps ⟨8, key, val, hi⟩ = tellR (nbN ps 8 key ps.length) := by simp [stepR]
    rw [this, nb_max ps key]
  have EP : (tellR (pAt ps ((ps.length : Int) - 1))).pairs = [] := by cases pAt ps ((ps.length : Int) - 1) <;> rfl
  rw [ER, EP]
  clear ER EP
  obtain ⟨r, hr⟩ : ∃ r, r = tellR (pAt ps ((ps.length : Int) - 1)) := ⟨_, rfl⟩
  rw [← hr]
  have PA : Hid (∀ W, PairsAt W base b o ps → Calls Try.prog 79 #[.slice base ps.length c, .int .i64 ((ps.length : Int) - 1)] W fun e w' => e = .returned (.agg #[.bool r.ok, .int .i64 r.key, .int .i64 r.val, .slice none 0 0]) ∧ Below W.heap.size W w') := fun W hW => by rw [hr]; exact pairAt_any base b o c ps ((ps.length : Int) - 1) W hW
  clear hr
  obtain ⟨q, hq⟩ : ∃ q, q = (getK key ps).isSome := ⟨_, rfl⟩
  rw [← hq] at PLC
  clear SC HG hq
  obtain ⟨m, hm⟩ : ∃ m, m = posL key ps := ⟨_, rfl⟩
  rw [← hm] at PLC hpl
  clear hm
  have m1 : (m : Int) ≤ (ps.length : Int) := by omega
  have m0 : (0 : Int) ≤ (m : Int) := Int.natCast_nonneg _
  go_enter Try.func66, Try.ntmps66
  go_wp2_with fail
  refine (PLC.out _ (HA.out.below HS0.out.below)).mono ?_
  rintro e w1 ⟨rfl, hb1⟩
  have S1 := HS0.out.low hb1 (by simp)
  have HS1 : Hid (StB _ _ _) := S1
  obtain ⟨a0, a1, a2, a3⟩ := S1.op
  obtain ⟨b0, b1, b2, b3⟩ := S1.res
  have fr := fun i => S1.free i
  have z1 := S1.size
  simp only at a0 a1 a2 a3
  clear S1 hb1
  go_wp2_with fail
  refine (PA.out _ (HA.out.below HS1.out.below)).mono ?_
  rintro e w2 ⟨rfl, hb2⟩
  have S2 := HS1.out.low hb2 z1
  have HS2 : Hid (StB _ _ _) := S2
  clear a0 a1 a2 a3 b0 b1 b2 b3 fr
  obtain ⟨b0, b1, b2, b3⟩ := S2.res
  have fr := fun i => S2.free i
  have z2 := S2.size
  clear S2 hb2
  have HF : Hid _ := HS2.out.fin r.ok r.key r.val (.slice none 0 0)
  go_wp2_with fail
  obtain ⟨⟨q0, q1, q2, q3⟩, hbf, hof⟩ := HF.out
  refine bodyPost_ret (v := .agg #[.bool r.ok, .int .i64 r.key, .int .i64 r.val, (.slice none 0 0)]) (by simp [results, Try.results66, go_sem, q0, q1, q2, q3]) rfl ⟨none, 0, 0, rfl, hbf, OwnPM.nil _ _⟩

set_option maxRecDepth 100000 in
set_option maxHeartbeats 1000000 in
theorem ans9 (base : Option Addr) (b o c : Nat) (ps : PL) (key val hi : Int) (w : World) (h : PairsAt w base b o ps) (hs : Srt ps) (hnil : NilOk base ps.length c) (hcap : ps.length ≤ c) (hcm : c ≤ maxLen) (hby : ps.length * 16 ≤ 140737488355328) : AnsP base c ps ⟨9, key, val, hi⟩ w := by
  have hl := h.len
  have HU : Hid (ps.length ≤ c ∧ c ≤ maxLen ∧ ps.length * 16 ≤ 140737488355328) := ⟨hcap, hcm, hby⟩
  unfold maxLen at hl
  have HA : Hid _ := h
  have HSR : Hid (Srt ps) := hs
  have HNIL : Hid (NilOk _ _ _) := hnil
  have HG : Hid _ := getK_pos key hs
  have hpl := posL_le key ps
  have SC : Hid (posL (key + 1) ps = posL key ps + if (getK key ps).isSome then 1 else 0) := by show posL (key + 1) ps = _; rw [posL_succ key hs, hasK_some]
  have HS0 : Hid (StB _ _ _) := StB.made w ⟨9, key, val, hi⟩ 39 42
  have PLC : Hid (∀ W, PairsAt W base b o ps → Calls Try.prog 78 #[.slice base ps.length c, .int .i64 key] W fun e w' => e = .returned (.tuple #[.int .i64 (posL key ps : Nat), .bool (getK key ps).isSome]) ∧ Below W.heap.size W w') := fun W hW => place_any base b o c ps key W hW HSR.out
  unfold AnsP
  clear h hs hnil
  have ER : stepR ps ⟨9, key, val, hi⟩ = ⟨true, 0, 0, inL key hi ps⟩ := by simp [stepR]
  rw [ER]
  have hil : (inL key hi ps).length * 16 ≤ 140737488355328 := Nat.le_trans (Nat.mul_le_mul_right 16 (List.length_filter_le _ _)) HU.out.2.2
  have BT : Hid (∀ W, PairsAt W base b o ps → Calls Try.prog 80 #[.slice base ps.length c, .int .i64 key, .int .i64 hi] W fun e w' => ∃ a o' c', e = .returned (.slice a (inL key hi ps).length c') ∧ Below W.heap.size W w' ∧ PairsAt w' a b o' (inL key hi ps) ∧ NilOk a (inL key hi ps).length c') := fun W hW => between_any base b o c ps key hi W hW HSR.out HNIL.out HU.out.1 HU.out.2.1
  obtain ⟨q, hq⟩ : ∃ q, q = (getK key ps).isSome := ⟨_, rfl⟩
  rw [← hq] at PLC
  clear SC HG hq ER
  obtain ⟨m, hm⟩ : ∃ m, m = posL key ps := ⟨_, rfl⟩
  rw [← hm] at PLC hpl
  clear hm
  obtain ⟨L, hL⟩ : ∃ L, L = inL key hi ps := ⟨_, rfl⟩
  rw [← hL] at BT hil ⊢
  clear hL
  go_enter Try.func66, Try.ntmps66
  go_wp2_with fail
  refine (PLC.out _ (HA.out.below HS0.out.below)).mono ?_
  rintro e w1 ⟨rfl, hb1⟩
  have S1 := HS0.out.low hb1 (by simp)
  have HS1 : Hid (StB _ _ _) := S1
  obtain ⟨a0, a1, a2, a3⟩ := S1.op
  obtain ⟨b0, b1, b2, b3⟩ := S1.res
  have fr := fun i => S1.free i
  have z1 := S1.size
  simp only at a0 a1 a2 a3
  clear S1 hb1
  go_wp2_with fail
  refine (BT.out _ (HA.out.below HS1.out.below)).mono ?_
  rintro e w2 ⟨ab, ob, cb, rfl, hb2, hpb, hnb⟩
  have HS2 : Hid (StB _ _ _) := HS1.out.low hb2 z1
  have CL : Hid (Calls _ _ _ _ _) := clone_anyM ab b ob cb L w2 hpb hnb hil
  have z2 := HS2.out.size
  clear hb2 hpb hnb a0 a1 a2 a3 b0 b1 b2 b3 fr
  go_wp2_with fail
  refine CL.out.mono ?_
  rintro e w3 ⟨v3, rfl, ho3, hb3⟩
  have S3 := HS2.out.low hb3 z2
  obtain ⟨a4, g4, c4, rfl, hq4⟩ := ho3
  have P3 : Hid (OwnPM w3 w2.heap.size L (.slice a4 L.length c4)) := ⟨a4, g4, c4, rfl, hq4⟩
  have HS3 : Hid (StB _ _ _) := S3
  obtain ⟨b0, b1, b2, b3⟩ := S3.res
  have fr := fun i => S3.free i
  have z3 := S3.size
  clear S3 hb3 hq4
  have HF : Hid _ := HS3.out.fin true 0 0 (.slice a4 L.length c4)
  go_wp2_with fail
  obtain ⟨⟨q0, q1, q2, q3⟩, hbf, hof⟩ := HF.out
  refine bodyPost_ret (v := .agg #[.bool true, .int .i64 0, .int .i64 0, (.slice a4 L.length c4)]) (by simp [results, Try.results66, go_sem, q0, q1, q2, q3]) rfl ⟨a4, L.length, c4, rfl, hbf, (hof w2.heap.size _ _ (by omega) P3.out).down (by omega)⟩

theorem ans_any (base : Option Addr) (b o c : Nat) (ps : PL) (op : OpD) (w : World) (h : PairsAt w base b o ps) (hs : Srt ps) (hnil : NilOk base ps.length c) (hcap : ps.length ≤ c) (hcm : c ≤ maxLen) (hby : ps.length * 16 ≤ 140737488355328) (hk : kdErr op.kind = 0) : AnsP base c ps op w := by
  obtain ⟨kind, key, val, hi⟩ := op
  have hr : 1 ≤ kind ∧ kind ≤ 9 := by
    unfold kdErr at hk
    split at hk
    · cases hk
    · simp only at *; omega
  have hc : kind = 1 ∨ kind = 2 ∨ kind = 3 ∨ kind = 4 ∨ kind = 5 ∨ kind = 6 ∨ kind = 7 ∨ kind = 8 ∨ kind = 9 := by omega
  rcases hc with rfl | rfl | rfl | rfl | rfl | rfl | rfl | rfl | rfl
  · exact ans1 base b o c ps key val hi w h hs hnil hcap hcm hby
  · exact ans2 base b o c ps key val hi w h hs hnil hcap hcm hby
  · exact ans3 base b o c ps key val hi w h hs hnil hcap hcm hby
  · exact ans4 base b o c ps key val hi w h hs hnil hcap hcm hby
  · exact ans5 base b o c ps key val hi w h hs hnil hcap hcm hby
  · exact ans6 base b o c ps key val hi w h hs hnil hcap hcm hby
  · exact ans7 base b o c ps key val hi w h hs hnil hcap hcm hby
  · exact ans8 base b o c ps key val hi w h hs hnil hcap hcm hby
  · exact ans9 base b o c ps key val hi w h hs hnil hcap hcm hby
end Go.Proofs.Ytljidfaeljpnpaa
