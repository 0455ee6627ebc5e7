/- Layer 6: the program's Fits. Layer 6: the program's pairAt and between; a clone that is an own row. Layer 6: places and neighbours; the program's between. Layer 6: the program's answer. Made by gen/mk_ans.py. Layer 6: copy, append, clear in an own row of pairs. Layer 6: the walks of slices.Delete and slices.Insert at pairs, given what the builtins do. Layer 6: lists that are spliced; slices.Delete of one pair from an own row. Layer 6: slices.Insert of one pair into an own row. Layer 6: slices.Insert at the end; Insert whole; what change needs. Layer 6: the program's change. Layer 6: the program's refusal, Same, SameRet. Layer 6: the reference's Fits. Layer 6: the program's Do and Fits. -/
import Derived.Test.YtcphajjonecmbaaDoorMG2
import Derived.Test.YtcphajjonecmbaaDoorMD1
import Derived.Laws.CopyRow
import Derived.Laws.AppendOwn
import Derived.Deep.RegionLaw
import Derived.Lib.SliceRun
import Derived.Lib.Overlaps
import Derived.Lib.AppendZeros
import Derived.Laws.Externs
import Derived.Lib.AppendZerosOnto
import Derived.Test.YtcphajjonecmbaaDoorMRun
import Derived.Deep.RegionHeld3


namespace Go.Proofs.YtcphajjonecmbaaDoor

open Go.RowKit

/-- The pair at a place, if there is such a place. -/
def pAt (ps : PL) (i : Int) : Option (Int × Int) := if 0 ≤ i ∧ i < (ps.length : Int) then some (keyAt ps i.toNat, valAt ps i.toNat) else none
theorem store4 {wr : World} {N : Nat} {x0 x1 x2 x3 : Value} (b0 : wr.cell? ⟨N, 0, none⟩ = some x0) (b1 : wr.cell? ⟨N, 1, none⟩ = some x1) (b2 : wr.cell? ⟨N, 2, none⟩ = some x2) (b3 : wr.cell? ⟨N, 3, none⟩ = some x3) (v0 v1 v2 v3 : Value) :
    let W := (((wr.setCell ⟨N, 0, none⟩ v0).setCell ⟨N, 1, none⟩ v1).setCell ⟨N, 2, none⟩ v2).setCell ⟨N, 3, none⟩ v3
    W.cell? ⟨N, 0, none⟩ = some v0 ∧ W.cell? ⟨N, 1, none⟩ = some v1 ∧ W.cell? ⟨N, 2, none⟩ = some v2 ∧ W.cell? ⟨N, 3, none⟩ = some v3 := by
  intro W
  have hn : ∀ {i j : Nat}, i ≠ j → (⟨N, i, none⟩ : Addr) ≠ ⟨N, j, none⟩ := fun e q => e (congrArg Addr.off q)
  refine ⟨?_, ?_, ?_, ?_⟩
  · show World.cell? (World.setCell _ _ _) _ = _
    rw [World.cell?_setCell_other _ _ _ _ (hn (by omega)), World.cell?_setCell_other _ _ _ _ (hn (by omega)), World.cell?_setCell_other _ _ _ _ (hn (by omega)), World.cell?_setCell_same _ _ _ b0]
  · show World.cell? (World.setCell _ _ _) _ = _
    rw [World.cell?_setCell_other _ _ _ _ (hn (by omega)), World.cell?_setCell_other _ _ _ _ (hn (by omega))]
    exact World.cell?_setCell_same _ _ _ (by rw [World.cell?_setCell_other _ _ _ _ (hn (by omega))]; exact b1)
  · show World.cell? (World.setCell _ _ _) _ = _
    rw [World.cell?_setCell_other _ _ _ _ (hn (by omega))]
    exact World.cell?_setCell_same _ _ _ (by rw [World.cell?_setCell_other _ _ _ _ (hn (by omega)), World.cell?_setCell_other _ _ _ _ (hn (by omega))]; exact b2)
  · exact World.cell?_setCell_same _ _ _ (by rw [World.cell?_setCell_other _ _ _ _ (hn (by omega)), World.cell?_setCell_other _ _ _ _ (hn (by omega)), World.cell?_setCell_other _ _ _ _ (hn (by omega))]; exact b3)
theorem below4 {w wr : World} {B N : Nat} (h : Below B w wr) (hN : B ≤ N) (v0 v1 v2 v3 : Value) : Below B w ((((wr.setCell ⟨N, 0, none⟩ v0).setCell ⟨N, 1, none⟩ v1).setCell ⟨N, 2, none⟩ v2).setCell ⟨N, 3, none⟩ v3) :=
  (((h.setCell hN _).setCell hN _).setCell hN _).setCell hN _

set_option maxRecDepth 100000 in
set_option maxHeartbeats 1000000 in
theorem pairAt_any (base : Option Addr) (b o c : Nat) (ps : PL) (i : Int) (w : World) (h : PairsAt w base b o ps) :
    Calls Tryd.prog 105 #[.slice base ps.length c, .int .i64 i] w fun e w' => e = .returned (.agg #[.bool (tellR (pAt ps i)).ok, .int .i64 (tellR (pAt ps i)).key, .int .i64 (tellR (pAt ps i)).val, .slice none 0 0]) ∧ Below w.heap.size w w' := by
  have HA : Hid _ := h
  clear h
  by_cases h1 : i < 0
  · have E : Hid (pAt ps i = none) := by show pAt ps i = none; unfold pAt; rw [if_neg (by omega)]
    go_enter Tryd.func105, Tryd.ntmps105
    go_wp2_with fail
    refine bodyPost_ret (v := .agg #[.bool false, .int .i64 0, .int .i64 0, .slice none 0 0]) (by simp [results, Tryd.results105, go_sem]) rfl ⟨by rw [E.out]; rfl, below_allocM _ _⟩
  · by_cases h2 : i < (ps.length : Int)
    · obtain ⟨j, rfl⟩ : ∃ j : Nat, i = (j : Int) := ⟨i.toNat, by omega⟩
      have E : Hid (pAt ps (j : Int) = some (keyAt ps j, valAt ps j)) := by show pAt ps (j : Int) = _; unfold pAt; rw [if_pos (by omega)]; rfl
      obtain rfl : base = some ⟨b, o, none⟩ := HA.out.base (by omega)
      have HA2 := HA.out.below (below_allocM w (.cells #[.bool false, .int .i64 0, .int .i64 0, .slice none 0 0] 45))
      obtain ⟨c0, c1⟩ := HA2.cells j (by omega)
      have zb : b < w.heap.size := HA.out.lt (by omega)
      have hd : decide ((ps.length : Int) ≤ (j : Int)) = false := decide_eq_false (by omega)
      have j0 : (0 : Int) ≤ (j : Int) := Int.natCast_nonneg _
      clear HA2
      go_enter Tryd.func105, Tryd.ntmps105
      go_wp2_with fail
      go_region
      go_wp2_with fail
      refine bodyPost_ret (v := .agg #[.bool true, .int .i64 (keyAt ps j), .int .i64 (valAt ps j), .slice none 0 0]) (by simp [results, Tryd.results105, go_sem]) rfl ⟨by rw [E.out]; rfl, (below_allocM _ _).drew⟩
    · have E : Hid (pAt ps i = none) := by show pAt ps i = none; unfold pAt; rw [if_neg (by omega)]
      have hd : decide ((ps.length : Int) ≤ i) = true := decide_eq_true (by omega)
      go_enter Tryd.func105, Tryd.ntmps105
      go_wp2_with fail
      refine bodyPost_ret (v := .agg #[.bool false, .int .i64 0, .int .i64 0, .slice none 0 0]) (by simp [results, Tryd.results105, go_sem]) rfl ⟨by rw [E.out]; rfl, below_allocM _ _⟩
end Go.Proofs.YtcphajjonecmbaaDoor

namespace Go.Proofs.YtcphajjonecmbaaDoor

open Go.RowKit

theorem posL_zero {key : Int} {t : PL} (h : ∀ x ∈ t, ¬ x.1 < key) : posL key t = 0 := by
  unfold posL
  rw [List.length_eq_zero_iff, List.filter_eq_nil_iff]
  intro x hx
  simpa using h x hx
theorem posL_succ (key : Int) : ∀ {ps : PL}, Srt ps → posL (key + 1) ps = posL key ps + hasK key ps
  | [], _ => by simp [posL, hasK, getK]
  | p :: t, h => by
    obtain ⟨h1, h2⟩ := List.pairwise_cons.1 h
    rw [posL_cons _ h, posL_cons _ h]
    by_cases q : p.1 < key
    · rw [if_pos (by omega), if_pos q, hasK_ne (by omega), posL_succ key h2]; omega
    · rw [if_neg q]
      by_cases q2 : p.1 = key
      · rw [if_pos (by omega), hasK_eq q2, posL_zero (fun x hx => by have := h1 x hx; omega)]
      · rw [if_neg (by omega), hasK_ne q2, hasK_none (fun x hx => by have := h1 x hx; omega)]
theorem hasK_some (key : Int) (ps : PL) : hasK key ps = if (getK key ps).isSome then 1 else 0 := by
  unfold hasK
  cases getK key ps <;> rfl
def NilOk (a : Option Addr) (n c : Nat) : Prop := a = none → n = 0 ∧ c = 0
theorem nb_next (ps : PL) (key : Int) (h : Srt ps) : nbN ps 5 key ps.length = pAt ps ((posL (key + 1) ps : Nat) : Int) := by
  rw [nbN_next ps key _ (Nat.le_refl _), List.take_length]
  have e : (ps.filter fun p => decide (key < p.1)) = ps.filter fun p => decide (key + 1 ≤ p.1) := by
    apply List.filter_congr
    intro x _
    by_cases q : key < x.1 <;> simp [q] <;> omega
  rw [e, filter_from (key + 1) h]
  unfold pAt
  have hl := posL_le (key + 1) ps
  by_cases q : posL (key + 1) ps < ps.length
  · rw [if_pos (by omega), List.head?_drop, pair_eta ps _ q]; rfl
  · rw [if_neg (by omega), List.drop_eq_nil_of_le (by omega)]; rfl
theorem nb_back (ps : PL) (key : Int) (h : Srt ps) : nbN ps 6 key ps.length = pAt ps (((posL key ps : Nat) : Int) - 1) := by
  rw [nbN_back ps key _ (Nat.le_refl _), List.take_length, (below_take key h).1]
  unfold pAt
  have hl := posL_le key ps
  rw [List.getLast?_eq_getElem?, List.length_take, Nat.min_eq_left hl]
  by_cases q : posL key ps = 0
  · rw [if_neg (by omega), q]; simp
  · rw [if_pos (by omega), List.getElem?_take, if_pos (by omega), show (((posL key ps : Nat) : Int) - 1).toNat = posL key ps - 1 by omega, pair_eta ps _ (by omega)]
theorem nb_min (ps : PL) (key : Int) : nbN ps 7 key ps.length = pAt ps 0 := by
  rw [law_min]
  unfold pAt
  by_cases q : ps.length = 0
  · rw [if_neg (by omega), List.getElem?_eq_none (by omega)]
  · rw [if_pos (by omega), pair_eta ps 0 (by omega)]; rfl
theorem nb_max (ps : PL) (key : Int) : nbN ps 8 key ps.length = pAt ps ((ps.length : Int) - 1) := by
  rw [law_max]
  unfold pAt
  by_cases q : ps.length = 0
  · rw [if_neg (by omega), List.getElem?_eq_none (by omega)]
  · rw [if_pos (by omega), show ((ps.length : Int) - 1).toNat = ps.length - 1 by omega, pair_eta ps _ (by omega)]
theorem key_sub (ps : PL) (f t i : Nat) (hi : f + i < t) : keyAt ((ps.take t).drop f) i = keyAt ps (f + i) ∧ valAt ((ps.take t).drop f) i = valAt ps (f + i) := by
  simp [keyAt, valAt, List.getD_eq_getElem?_getD, hi]
/-- A piece of the pairs. -/
theorem PairsAt.sub {w : World} {b o : Nat} {ps : PL} {A : Option Addr} (h : PairsAt w (some ⟨b, o, none⟩) b o ps) (f t : Nat) (ht : t ≤ ps.length) (hA : f < t → A = some ⟨b, o + f * 2, none⟩) : PairsAt w A b (o + f * 2) ((ps.take t).drop f) := by
  have hl : ((ps.take t).drop f).length = t - f := by simp; omega
  refine ⟨fun q => hA (by omega), fun q => h.lt (by omega), fun i hi => ?_, ?_, fun i hi => ?_⟩
  · obtain ⟨k, v⟩ := key_sub ps f t i (by omega)
    obtain ⟨c0, c1⟩ := h.cells (f + i) (by omega)
    rw [k, v, show o + f * 2 + i * 2 = o + (f + i) * 2 by omega]
    exact ⟨c0, c1⟩
  · have := h.len; omega
  · rw [show o + f * 2 + i = o + (f * 2 + i) by omega]
    exact h.thaw _ (by omega)

set_option maxRecDepth 100000 in
set_option maxHeartbeats 1000000 in
theorem between_any (base : Option Addr) (b o c : Nat) (ps : PL) (lo hi : Int) (w : World) (h : PairsAt w base b o ps) (hs : Srt ps) (hnil : base = none → ps.length = 0 ∧ c = 0) (hcap : ps.length ≤ c) (hcm : c ≤ maxLen) :
    Calls Tryd.prog 106 #[.slice base ps.length c, .int .i64 lo, .int .i64 hi] w fun e w' => ∃ a o' c', e = .returned (.slice a (inL lo hi ps).length c') ∧ Below w.heap.size w w' ∧ PairsAt w' a b o' (inL lo hi ps) ∧ NilOk a (inL lo hi ps).length c' := by
  unfold maxLen at hcm
  have HA : Hid _ := h
  have HS : Hid _ := hs
  have HNIL : Hid _ := hnil
  clear h hs hnil
  by_cases hlh : hi < lo
  · have E : Hid (inL lo hi ps = []) := by
      show inL lo hi ps = []
      unfold inL
      rw [List.filter_eq_nil_iff]
      intro x _
      simp; omega
    go_enter Tryd.func106, Tryd.ntmps106
    go_wp2_with fail
    go_ret
    exact ⟨none, 0, 0, by rw [E.out]; rfl, Below.refl _ _, by rw [E.out]; exact ⟨fun h => absurd rfl h, fun h => absurd rfl h, fun i hi => by simp at hi, by simp, fun i hi => by simp at hi⟩, fun _ => ⟨by rw [E.out]; rfl, rfl⟩⟩
  · have P1 : Hid (∀ W, PairsAt W base b o ps → Calls Tryd.prog 104 #[.slice base ps.length c, .int .i64 lo] W fun e w' => e = .returned (.tuple #[.int .i64 (posL lo ps : Nat), .bool (getK lo ps).isSome]) ∧ Below W.heap.size W w') := fun W hW => place_any base b o c ps lo W hW HS.out
    have P2 : Hid (∀ W, PairsAt W base b o ps → Calls Tryd.prog 104 #[.slice base ps.length c, .int .i64 hi] W fun e w' => e = .returned (.tuple #[.int .i64 (posL hi ps : Nat), .bool (getK hi ps).isSome]) ∧ Below W.heap.size W w') := fun W hW => place_any base b o c ps hi W hW HS.out
    have f1 := posL_mono (show lo ≤ hi by omega) ps
    have f2 := posL_le (hi + 1) ps
    have f3 := posL_succ hi HS.out
    rw [hasK_some] at f3
    have F4 : Hid (inL lo hi ps = (ps.take (posL (hi + 1) ps)).drop (posL lo ps)) := inL_pos lo hi HS.out
    obtain ⟨f, hf⟩ : ∃ f, f = posL lo ps := ⟨_, rfl⟩
    obtain ⟨t, ht⟩ : ∃ t, t = posL (hi + 1) ps := ⟨_, rfl⟩
    obtain ⟨m, hm⟩ : ∃ m, m = posL hi ps := ⟨_, rfl⟩
    obtain ⟨q, hq⟩ : ∃ q, q = (getK hi ps).isSome := ⟨_, rfl⟩
    obtain ⟨q', hq'⟩ : ∃ q', q' = (getK lo ps).isSome := ⟨_, rfl⟩
    rw [← hf, ← ht] at F4
    rw [← ht, ← hm, ← hq] at f3
    rw [← hf, ← hm] at f1
    rw [← ht] at f2
    rw [← hf, ← hq'] at P1
    rw [← hm, ← hq] at P2
    clear hf ht hm hq hq'
    have HL : Hid ((inL lo hi ps).length = t - f) := by show (inL lo hi ps).length = _; rw [F4.out]; simp; omega
    have t0 : (0 : Int) ≤ (f : Int) := Int.natCast_nonneg _
    have SUBS : Hid (∀ W A, PairsAt W base b o ps → base = some ⟨b, o, none⟩ → (f < t → A = some ⟨b, o + f * 2, none⟩) → PairsAt W A b (o + f * 2) (inL lo hi ps)) := by
      intro W A hW hb hA
      rw [F4.out]
      subst hb
      exact hW.sub f t f2 hA
    have END : Hid (∀ W A C, Below w.heap.size w W → (A = base ∧ c = f ∧ C = 0 ∨ A = base.map (fun x => x.add (f * 2)) ∧ C = c - f) → ∃ a o' c', Ending.returned (.slice A (t - f) C) = .returned (.slice a (inL lo hi ps).length c') ∧ Below w.heap.size w W ∧ PairsAt W a b o' (inL lo hi ps) ∧ NilOk a (inL lo hi ps).length c') := by
      intro W A C hb hA
      have hW := HA.out.below hb
      refine ⟨A, o + f * 2, C, by rw [HL.out], hb, ?_, ?_⟩
      · by_cases hz : f < t
        · have hbs := HA.out.base (by omega)
          refine SUBS.out W A hW hbs (fun _ => ?_)
          rcases hA with ⟨_, h2, _⟩ | ⟨h1, _⟩
          · omega
          · rw [h1, hbs]; simp [addr_add'M]
        · exact ⟨fun q => absurd (by rw [HL.out]; omega) q, fun q => absurd (by rw [HL.out]; omega) q, fun i hi => by rw [HL.out] at hi; omega, by rw [HL.out]; have := HA.out.len; omega, fun i hi => by rw [HL.out] at hi; omega⟩
      · intro hn
        rw [HL.out]
        have hbn : base = none := by
          rcases hA with ⟨h1, _⟩ | ⟨h1, _⟩
          · rw [← h1]; exact hn
          · rw [h1] at hn; simpa using hn
        obtain ⟨z1, z2⟩ := HNIL.out hbn
        rcases hA with ⟨_, _, h3⟩ | ⟨_, h3⟩ <;> omega
    cases q
    · have f3' : t = m := by simpa using f3
      subst f3'
      clear f3
      go_enter Tryd.func106, Tryd.ntmps106
      go_wp2_with fail
      refine (P1.out _ HA.out).mono ?_
      rintro e w1 ⟨rfl, hb1⟩
      have HB1 : Hid _ := hb1
      clear hb1
      go_wp2_with fail
      refine (P2.out _ (HA.out.below HB1.out)).mono ?_
      rintro e w2 ⟨rfl, hb2⟩
      have HB2 : Hid (Below w.heap.size w w2) := HB1.out.trans (hb2.mono HB1.out.size)
      clear hb2
      have g1 : (f : Int) ≤ (t : Int) := by omega
      have g2 : (t : Int) ≤ (c : Int) := by omega
      go_wp2_with fail
      all_goals go_ret
      all_goals first
        | exact END.out _ _ _ HB2.out (Or.inr ⟨rfl, rfl⟩)
        | exact END.out _ _ _ HB2.out (Or.inl ⟨rfl, by assumption, rfl⟩)
        | exact END.out _ _ _ HB2.out (Or.inl ⟨rfl, rfl, rfl⟩)
    · have f3' : t = m + 1 := by simpa using f3
      subst f3'
      clear f3
      have g0 : ((m + 1 : Nat) : Int) = (m : Int) + 1 := by omega
      go_enter Tryd.func106, Tryd.ntmps106
      go_wp2_with fail
      refine (P1.out _ HA.out).mono ?_
      rintro e w1 ⟨rfl, hb1⟩
      have HB1 : Hid _ := hb1
      clear hb1
      go_wp2_with fail
      refine (P2.out _ (HA.out.below HB1.out)).mono ?_
      rintro e w2 ⟨rfl, hb2⟩
      have HB2 : Hid (Below w.heap.size w w2) := HB1.out.trans (hb2.mono HB1.out.size)
      clear hb2
      have g1 : (f : Int) ≤ (m : Int) + 1 := by omega
      have g2 : (m : Int) + 1 ≤ (c : Int) := by omega
      go_wp2_with fail
      all_goals go_ret
      all_goals first
        | exact END.out _ _ _ HB2.out (Or.inr ⟨rfl, rfl⟩)
        | exact END.out _ _ _ HB2.out (Or.inl ⟨rfl, by assumption, rfl⟩)
        | exact END.out _ _ _ HB2.out (Or.inl ⟨rfl, rfl, rfl⟩)
end Go.Proofs.YtcphajjonecmbaaDoor

namespace Go.Proofs.YtcphajjonecmbaaDoor

open Go.RowKit

def AnsP (base : Option Addr) (c : Nat) (ps : PL) (o : OpD) (w : World) : Prop :=
  Calls Tryd.prog 85 #[.slice base ps.length c, .agg #[.int .i64 o.kind, .int .i64 o.key, .int .i64 o.val, .int .i64 o.hi]] w fun e w' => ∃ a n k, e = .returned (.agg #[.bool (stepR ps o).ok, .int .i64 (stepR ps o).key, .int .i64 (stepR ps o).val, .slice a n k]) ∧ Below w.heap.size w w' ∧ OwnPM w' w.heap.size (stepR ps o).pairs (.slice a n k)

set_option maxRecDepth 100000 in
set_option maxHeartbeats 1000000 in
theorem ans1 (base : Option Addr) (b o c : Nat) (ps : PL) (key val hi : Int) (w : World) (h : PairsAt w base b o ps) (hs : Srt ps) (hnil : NilOk base ps.length c) (hcap : ps.length ≤ c) (hcm : c ≤ maxLen) (hby : ps.length * 16 ≤ 140737488355328) : AnsP base c ps ⟨1, key, val, hi⟩ w := by
  have hl := h.len
  have HU : Hid (ps.length ≤ c ∧ c ≤ maxLen ∧ ps.length * 16 ≤ 140737488355328) := ⟨hcap, hcm, hby⟩
  unfold maxLen at hl
  have HA : Hid _ := h
  have HSR : Hid (Srt ps) := hs
  have HNIL : Hid (NilOk _ _ _) := hnil
  have HG : Hid _ := getK_pos key hs
  have hpl := posL_le key ps
  have SC : Hid (posL (key + 1) ps = posL key ps + if (getK key ps).isSome then 1 else 0) := by show posL (key + 1) ps = _; rw [posL_succ key hs, hasK_some]
  have HS0 : Hid (StB _ _ _) := StB.made w ⟨1, key, val, hi⟩ 43 45
  have PLC : Hid (∀ W, PairsAt W base b o ps → Calls Tryd.prog 104 #[.slice base ps.length c, .int .i64 key] W fun e w' => e = .returned (.tuple #[.int .i64 (posL key ps : Nat), .bool (getK key ps).isSome]) ∧ Below W.heap.size W w') := fun W hW => place_any base b o c ps key W hW HSR.out
  unfold AnsP
  clear h hs hnil
  cases hg : getK key ps with
  | some v =>
    have hv : posL key ps < ps.length ∧ v = valAt ps (posL key ps) := by
      have e := HG.out
      rw [hg] at e
      split at e
      · rename_i hq; exact ⟨hq.1, Option.some.inj e⟩
      · cases e
    obtain ⟨hlt, rfl⟩ := hv
    have ER : stepR ps ⟨1, key, val, hi⟩ = ⟨true, 0, valAt ps (posL key ps), []⟩ := by simp [stepR, hg]
    rw [ER]
    rw [hg] at PLC SC
    clear ER HG hg
    obtain ⟨m, hm⟩ : ∃ m, m = posL key ps := ⟨_, rfl⟩
    rw [← hm] at PLC hlt hpl ⊢
    clear hm SC
    obtain rfl : base = some ⟨b, o, none⟩ := HA.out.base (by omega)
    have m0 : (0 : Int) ≤ (m : Int) := Int.natCast_nonneg _
    have m1 : (m : Int) < (ps.length : Int) := by omega
    go_enter Tryd.func85, Tryd.ntmps85
    go_wp2_with fail
    refine (PLC.out _ (HA.out.below HS0.out.below)).mono ?_
    rintro e w1 ⟨rfl, hb1⟩
    have S1 := HS0.out.low hb1 (by simp)
    have HS1 : Hid (StB _ _ _) := S1
    obtain ⟨a0, a1, a2, a3⟩ := S1.op
    obtain ⟨b0, b1, b2, b3⟩ := S1.res
    have fr := fun i => S1.free i
    have z1 := S1.size
    simp only at a0 a1 a2 a3
    clear S1 hb1
    obtain ⟨d0, d1⟩ := (HA.out.below HS1.out.below).cells m hlt
    have zb : b < w.heap.size := HA.out.lt (by omega)
    have HF : Hid _ := HS1.out.fin true 0 (valAt ps m) (.slice none 0 0)
    go_wp2_with fail
    obtain ⟨⟨q0, q1, q2, q3⟩, hbf, hof⟩ := HF.out
    refine bodyPost_ret (v := .agg #[.bool true, .int .i64 0, .int .i64 (valAt ps m), (.slice none 0 0)]) (by simp [results, Tryd.results85, go_sem, q0, q1, q2, q3]) rfl ⟨none, 0, 0, rfl, hbf, OwnPM.nil _ _⟩
  | none =>
    have ER : stepR ps ⟨1, key, val, hi⟩ = ⟨false, 0, 0, []⟩ := by simp [stepR, hg]
    rw [ER]
    rw [hg] at PLC
    clear ER HG hg SC
    go_enter Tryd.func85, Tryd.ntmps85
    go_wp2_with fail
    refine (PLC.out _ (HA.out.below HS0.out.below)).mono ?_
    rintro e w1 ⟨rfl, hb1⟩
    have S1 := HS0.out.low hb1 (by simp)
    have HS1 : Hid (StB _ _ _) := S1
    obtain ⟨a0, a1, a2, a3⟩ := S1.op
    obtain ⟨b0, b1, b2, b3⟩ := S1.res
    have fr := fun i => S1.free i
    have z1 := S1.size
    simp only at a0 a1 a2 a3
    clear S1 hb1
    have HF : Hid _ := HS1.out.fin false 0 0 (.slice none 0 0)
    go_wp2_with fail
    obtain ⟨⟨q0, q1, q2, q3⟩, hbf, hof⟩ := HF.out
    refine bodyPost_ret (v := .agg #[.bool false, .int .i64 0, .int .i64 0, (.slice none 0 0)]) (by simp [results, Tryd.results85, go_sem, q0, q1, q2, q3]) rfl ⟨none, 0, 0, rfl, hbf, OwnPM.nil _ _⟩

set_option maxRecDepth 100000 in
set_option maxHeartbeats 1000000 in
theorem ans2 (base : Option Addr) (b o c : Nat) (ps : PL) (key val hi : Int) (w : World) (h : PairsAt w base b o ps) (hs : Srt ps) (hnil : NilOk base ps.length c) (hcap : ps.length ≤ c) (hcm : c ≤ maxLen) (hby : ps.length * 16 ≤ 140737488355328) : AnsP base c ps ⟨2, key, val, hi⟩ w := by
  have hl := h.len
  have HU : Hid (ps.length ≤ c ∧ c ≤ maxLen ∧ ps.length * 16 ≤ 140737488355328) := ⟨hcap, hcm, hby⟩
  unfold maxLen at hl
  have HA : Hid _ := h
  have HSR : Hid (Srt ps) := hs
  have HNIL : Hid (NilOk _ _ _) := hnil
  have HG : Hid _ := getK_pos key hs
  have hpl := posL_le key ps
  have SC : Hid (posL (key + 1) ps = posL key ps + if (getK key ps).isSome then 1 else 0) := by show posL (key + 1) ps = _; rw [posL_succ key hs, hasK_some]
  have HS0 : Hid (StB _ _ _) := StB.made w ⟨2, key, val, hi⟩ 43 45
  have PLC : Hid (∀ W, PairsAt W base b o ps → Calls Tryd.prog 104 #[.slice base ps.length c, .int .i64 key] W fun e w' => e = .returned (.tuple #[.int .i64 (posL key ps : Nat), .bool (getK key ps).isSome]) ∧ Below W.heap.size W w') := fun W hW => place_any base b o c ps key W hW HSR.out
  unfold AnsP
  clear h hs hnil
  cases hg : getK key ps with
  | some v =>
    have hv : posL key ps < ps.length ∧ v = valAt ps (posL key ps) := by
      have e := HG.out
      rw [hg] at e
      split at e
      · rename_i hq; exact ⟨hq.1, Option.some.inj e⟩
      · cases e
    obtain ⟨hlt, rfl⟩ := hv
    have ER : stepR ps ⟨2, key, val, hi⟩ = ⟨true, 0, valAt ps (posL key ps), []⟩ := by simp [stepR, hg]
    rw [ER]
    rw [hg] at PLC SC
    clear ER HG hg
    obtain ⟨m, hm⟩ : ∃ m, m = posL key ps := ⟨_, rfl⟩
    rw [← hm] at PLC hlt hpl ⊢
    clear hm SC
    obtain rfl : base = some ⟨b, o, none⟩ := HA.out.base (by omega)
    have m0 : (0 : Int) ≤ (m : Int) := Int.natCast_nonneg _
    have m1 : (m : Int) < (ps.length : Int) := by omega
    go_enter Tryd.func85, Tryd.ntmps85
    go_wp2_with fail
    refine (PLC.out _ (HA.out.below HS0.out.below)).mono ?_
    rintro e w1 ⟨rfl, hb1⟩
    have S1 := HS0.out.low hb1 (by simp)
    have HS1 : Hid (StB _ _ _) := S1
    obtain ⟨a0, a1, a2, a3⟩ := S1.op
    obtain ⟨b0, b1, b2, b3⟩ := S1.res
    have fr := fun i => S1.free i
    have z1 := S1.size
    simp only at a0 a1 a2 a3
    clear S1 hb1
    obtain ⟨d0, d1⟩ := (HA.out.below HS1.out.below).cells m hlt
    have zb : b < w.heap.size := HA.out.lt (by omega)
    have HF : Hid _ := HS1.out.fin true 0 (valAt ps m) (.slice none 0 0)
    go_wp2_with fail
    obtain ⟨⟨q0, q1, q2, q3⟩, hbf, hof⟩ := HF.out
    refine bodyPost_ret (v := .agg #[.bool true, .int .i64 0, .int .i64 (valAt ps m), (.slice none 0 0)]) (by simp [results, Tryd.results85, go_sem, q0, q1, q2, q3]) rfl ⟨none, 0, 0, rfl, hbf, OwnPM.nil _ _⟩
  | none =>
    have ER : stepR ps ⟨2, key, val, hi⟩ = ⟨false, 0, 0, []⟩ := by simp [stepR, hg]
    rw [ER]
    rw [hg] at PLC
    clear ER HG hg SC
    go_enter Tryd.func85, Tryd.ntmps85
    go_wp2_with fail
    refine (PLC.out _ (HA.out.below HS0.out.below)).mono ?_
    rintro e w1 ⟨rfl, hb1⟩
    have S1 := HS0.out.low hb1 (by simp)
    have HS1 : Hid (StB _ _ _) := S1
    obtain ⟨a0, a1, a2, a3⟩ := S1.op
    obtain ⟨b0, b1, b2, b3⟩ := S1.res
    have fr := fun i => S1.free i
    have z1 := S1.size
    simp only at a0 a1 a2 a3
    clear S1 hb1
    have HF : Hid _ := HS1.out.fin false 0 0 (.slice none 0 0)
    go_wp2_with fail
    obtain ⟨⟨q0, q1, q2, q3⟩, hbf, hof⟩ := HF.out
    refine bodyPost_ret (v := .agg #[.bool false, .int .i64 0, .int .i64 0, (.slice none 0 0)]) (by simp [results, Tryd.results85, go_sem, q0, q1, q2, q3]) rfl ⟨none, 0, 0, rfl, hbf, OwnPM.nil _ _⟩

set_option maxRecDepth 100000 in
set_option maxHeartbeats 1000000 in
theorem ans4 (base : Option Addr) (b o c : Nat) (ps : PL) (key val hi : Int) (w : World) (h : PairsAt w base b o ps) (hs : Srt ps) (hnil : NilOk base ps.length c) (hcap : ps.length ≤ c) (hcm : c ≤ maxLen) (hby : ps.length * 16 ≤ 140737488355328) : AnsP base c ps ⟨4, key, val, hi⟩ w := by
  have hl := h.len
  have HU : Hid (ps.length ≤ c ∧ c ≤ maxLen ∧ ps.length * 16 ≤ 140737488355328) := ⟨hcap, hcm, hby⟩
  unfold maxLen at hl
  have HA : Hid _ := h
  have HSR : Hid (Srt ps) := hs
  have HNIL : Hid (NilOk _ _ _) := hnil
  have HG : Hid _ := getK_pos key hs
  have hpl := posL_le key ps
  have SC : Hid (posL (key + 1) ps = posL key ps + if (getK key ps).isSome then 1 else 0) := by show posL (key + 1) ps = _; rw [posL_succ key hs, hasK_some]
  have HS0 : Hid (StB _ _ _) := StB.made w ⟨4, key, val, hi⟩ 43 45
  have PLC : Hid (∀ W, PairsAt W base b o ps → Calls Tryd.prog 104 #[.slice base ps.length c, .int .i64 key] W fun e w' => e = .returned (.tuple #[.int .i64 (posL key ps : Nat), .bool (getK key ps).isSome]) ∧ Below W.heap.size W w') := fun W hW => place_any base b o c ps key W hW HSR.out
  unfold AnsP
  clear h hs hnil
  cases hg : getK key ps with
  | some v =>
    have hv : posL key ps < ps.length ∧ v = valAt ps (posL key ps) := by
      have e := HG.out
      rw [hg] at e
      split at e
      · rename_i hq; exact ⟨hq.1, Option.some.inj e⟩
      · cases e
    obtain ⟨hlt, rfl⟩ := hv
    have ER : stepR ps ⟨4, key, val, hi⟩ = ⟨true, 0, valAt ps (posL key ps), []⟩ := by simp [stepR, hg]
    rw [ER]
    rw [hg] at PLC SC
    clear ER HG hg
    obtain ⟨m, hm⟩ : ∃ m, m = posL key ps := ⟨_, rfl⟩
    rw [← hm] at PLC hlt hpl ⊢
    clear hm SC
    obtain rfl : base = some ⟨b, o, none⟩ := HA.out.base (by omega)
    have m0 : (0 : Int) ≤ (m : Int) := Int.natCast_nonneg _
    have m1 : (m : Int) < (ps.length : Int) := by omega
    go_enter Tryd.func85, Tryd.ntmps85
    go_wp2_with fail
    refine (PLC.out _ (HA.out.below HS0.out.below)).mono ?_
    rintro e w1 ⟨rfl, hb1⟩
    have S1 := HS0.out.low hb1 (by simp)
    have HS1 : Hid (StB _ _ _) := S1
    obtain ⟨a0, a1, a2, a3⟩ := S1.op
    obtain ⟨b0, b1, b2, b3⟩ := S1.res
    have fr := fun i => S1.free i
    have z1 := S1.size
    simp only at a0 a1 a2 a3
    clear S1 hb1
    obtain ⟨d0, d1⟩ := (HA.out.below HS1.out.below).cells m hlt
    have zb : b < w.heap.size := HA.out.lt (by omega)
    have HF : Hid _ := HS1.out.fin true 0 (valAt ps m) (.slice none 0 0)
    go_wp2_with fail
    obtain ⟨⟨q0, q1, q2, q3⟩, hbf, hof⟩ := HF.out
    refine bodyPost_ret (v := .agg #[.bool true, .int .i64 0, .int .i64 (valAt ps m), (.slice none 0 0)]) (by simp [results, Tryd.results85, go_sem, q0, q1, q2, q3]) rfl ⟨none, 0, 0, rfl, hbf, OwnPM.nil _ _⟩
  | none =>
    have ER : stepR ps ⟨4, key, val, hi⟩ = ⟨false, 0, 0, []⟩ := by simp [stepR, hg]
    rw [ER]
    rw [hg] at PLC
    clear ER HG hg SC
    go_enter Tryd.func85, Tryd.ntmps85
    go_wp2_with fail
    refine (PLC.out _ (HA.out.below HS0.out.below)).mono ?_
    rintro e w1 ⟨rfl, hb1⟩
    have S1 := HS0.out.low hb1 (by simp)
    have HS1 : Hid (StB _ _ _) := S1
    obtain ⟨a0, a1, a2, a3⟩ := S1.op
    obtain ⟨b0, b1, b2, b3⟩ := S1.res
    have fr := fun i => S1.free i
    have z1 := S1.size
    simp only at a0 a1 a2 a3
    clear S1 hb1
    have HF : Hid _ := HS1.out.fin false 0 0 (.slice none 0 0)
    go_wp2_with fail
    obtain ⟨⟨q0, q1, q2, q3⟩, hbf, hof⟩ := HF.out
    refine bodyPost_ret (v := .agg #[.bool false, .int .i64 0, .int .i64 0, (.slice none 0 0)]) (by simp [results, Tryd.results85, go_sem, q0, q1, q2, q3]) rfl ⟨none, 0, 0, rfl, hbf, OwnPM.nil _ _⟩

set_option maxRecDepth 100000 in
set_option maxHeartbeats 1000000 in
theorem ans3 (base : Option Addr) (b o c : Nat) (ps : PL) (key val hi : Int) (w : World) (h : PairsAt w base b o ps) (hs : Srt ps) (hnil : NilOk base ps.length c) (hcap : ps.length ≤ c) (hcm : c ≤ maxLen) (hby : ps.length * 16 ≤ 140737488355328) : AnsP base c ps ⟨3, key, val, hi⟩ w := by
  have hl := h.len
  have HU : Hid (ps.length ≤ c ∧ c ≤ maxLen ∧ ps.length * 16 ≤ 140737488355328) := ⟨hcap, hcm, hby⟩
  unfold maxLen at hl
  have HA : Hid _ := h
  have HSR : Hid (Srt ps) := hs
  have HNIL : Hid (NilOk _ _ _) := hnil
  have HG : Hid _ := getK_pos key hs
  have hpl := posL_le key ps
  have SC : Hid (posL (key + 1) ps = posL key ps + if (getK key ps).isSome then 1 else 0) := by show posL (key + 1) ps = _; rw [posL_succ key hs, hasK_some]
  have HS0 : Hid (StB _ _ _) := StB.made w ⟨3, key, val, hi⟩ 43 45
  have PLC : Hid (∀ W, PairsAt W base b o ps → Calls Tryd.prog 104 #[.slice base ps.length c, .int .i64 key] W fun e w' => e = .returned (.tuple #[.int .i64 (posL key ps : Nat), .bool (getK key ps).isSome]) ∧ Below W.heap.size W w') := fun W hW => place_any base b o c ps key W hW HSR.out
  unfold AnsP
  clear h hs hnil
  cases hg : getK key ps with
  | some v =>
    have hv : posL key ps < ps.length ∧ v = valAt ps (posL key ps) := by
      have e := HG.out
      rw [hg] at e
      split at e
      · rename_i hq; exact ⟨hq.1, Option.some.inj e⟩
      · cases e
    obtain ⟨hlt, rfl⟩ := hv
    have ER : stepR ps ⟨3, key, val, hi⟩ = ⟨false, 0, valAt ps (posL key ps), []⟩ := by simp [stepR, hg]
    rw [ER]
    rw [hg] at PLC SC
    clear ER HG hg
    obtain ⟨m, hm⟩ : ∃ m, m = posL key ps := ⟨_, rfl⟩
    rw [← hm] at PLC hlt hpl ⊢
    clear hm SC
    obtain rfl : base = some ⟨b, o, none⟩ := HA.out.base (by omega)
    have m0 : (0 : Int) ≤ (m : Int) := Int.natCast_nonneg _
    have m1 : (m : Int) < (ps.length : Int) := by omega
    go_enter Tryd.func85, Tryd.ntmps85
    go_wp2_with fail
    refine (PLC.out _ (HA.out.below HS0.out.below)).mono ?_
    rintro e w1 ⟨rfl, hb1⟩
    have S1 := HS0.out.low hb1 (by simp)
    have HS1 : Hid (StB _ _ _) := S1
    obtain ⟨a0, a1, a2, a3⟩ := S1.op
    obtain ⟨b0, b1, b2, b3⟩ := S1.res
    have fr := fun i => S1.free i
    have z1 := S1.size
    simp only at a0 a1 a2 a3
    clear S1 hb1
    obtain ⟨d0, d1⟩ := (HA.out.below HS1.out.below).cells m hlt
    have zb : b < w.heap.size := HA.out.lt (by omega)
    have HF : Hid _ := HS1.out.fin false 0 (valAt ps m) (.slice none 0 0)
    go_wp2_with fail
    obtain ⟨⟨q0, q1, q2, q3⟩, hbf, hof⟩ := HF.out
    refine bodyPost_ret (v := .agg #[.bool false, .int .i64 0, .int .i64 (valAt ps m), (.slice none 0 0)]) (by simp [results, Tryd.results85, go_sem, q0, q1, q2, q3]) rfl ⟨none, 0, 0, rfl, hbf, OwnPM.nil _ _⟩
  | none =>
    have ER : stepR ps ⟨3, key, val, hi⟩ = ⟨true, 0, 0, []⟩ := by simp [stepR, hg]
    rw [ER]
    rw [hg] at PLC
    clear ER HG hg SC
    go_enter Tryd.func85, Tryd.ntmps85
    go_wp2_with fail
    refine (PLC.out _ (HA.out.below HS0.out.below)).mono ?_
    rintro e w1 ⟨rfl, hb1⟩
    have S1 := HS0.out.low hb1 (by simp)
    have HS1 : Hid (StB _ _ _) := S1
    obtain ⟨a0, a1, a2, a3⟩ := S1.op
    obtain ⟨b0, b1, b2, b3⟩ := S1.res
    have fr := fun i => S1.free i
    have z1 := S1.size
    simp only at a0 a1 a2 a3
    clear S1 hb1
    have HF : Hid _ := HS1.out.fin true 0 0 (.slice none 0 0)
    go_wp2_with fail
    obtain ⟨⟨q0, q1, q2, q3⟩, hbf, hof⟩ := HF.out
    refine bodyPost_ret (v := .agg #[.bool true, .int .i64 0, .int .i64 0, (.slice none 0 0)]) (by simp [results, Tryd.results85, go_sem, q0, q1, q2, q3]) rfl ⟨none, 0, 0, rfl, hbf, OwnPM.nil _ _⟩

set_option maxRecDepth 100000 in
set_option maxHeartbeats 1000000 in
theorem ans5 (base : Option Addr) (b o c : Nat) (ps : PL) (key val hi : Int) (w : World) (h : PairsAt w base b o ps) (hs : Srt ps) (hnil : NilOk base ps.length c) (hcap : ps.length ≤ c) (hcm : c ≤ maxLen) (hby : ps.length * 16 ≤ 140737488355328) : AnsP base c ps ⟨5, key, val, hi⟩ w := by
  have hl := h.len
  have HU : Hid (ps.length ≤ c ∧ c ≤ maxLen ∧ ps.length * 16 ≤ 140737488355328) := ⟨hcap, hcm, hby⟩
  unfold maxLen at hl
  have HA : Hid _ := h
  have HSR : Hid (Srt ps) := hs
  have HNIL : Hid (NilOk _ _ _) := hnil
  have HG : Hid _ := getK_pos key hs
  have hpl := posL_le key ps
  have SC : Hid (posL (key + 1) ps = posL key ps + if (getK key ps).isSome then 1 else 0) := by show posL (key + 1) ps = _; rw [posL_succ key hs, hasK_some]
  have HS0 : Hid (StB _ _ _) := StB.made w ⟨5, key, val, hi⟩ 43 45
  have PLC : Hid (∀ W, PairsAt W base b o ps → Calls Tryd.prog 104 #[.slice base ps.length c, .int .i64 key] W fun e w' => e = .returned (.tuple #[.int .i64 (posL key ps : Nat), .bool (getK key ps).isSome]) ∧ Below W.heap.size W w') := fun W hW => place_any base b o c ps key W hW HSR.out
  unfold AnsP
  clear h hs hnil
  cases hg : (getK key ps).isSome
  · have ER : stepR ps ⟨5, key, val, hi⟩ = tellR (pAt ps ((posL key ps : Nat) : Int)) := by
      have : stepR ps ⟨5, key, val, hi⟩ = tellR (nbN ps 5 key ps.length) := by simp [stepR]
      rw [this, nb_next ps key HSR.out, SC.out, hg, if_neg (by simp), Nat.add_zero]
    have EP : (tellR (pAt ps ((posL key ps : Nat) : Int))).pairs = [] := by cases pAt ps ((posL key ps : Nat) : Int) <;> rfl
    rw [ER, EP]
    clear ER EP
    obtain ⟨r, hr⟩ : ∃ r, r = tellR (pAt ps ((posL key ps : Nat) : Int)) := ⟨_, rfl⟩
    rw [← hr]
    have PA : Hid (∀ W, PairsAt W base b o ps → Calls Tryd.prog 105 #[.slice base ps.length c, .int .i64 ((posL key ps : Nat) : Int)] W fun e w' => e = .returned (.agg #[.bool r.ok, .int .i64 r.key, .int .i64 r.val, .slice none 0 0]) ∧ Below W.heap.size W w') := fun W hW => by rw [hr]; exact pairAt_any base b o c ps ((posL key ps : Nat) : Int) W hW
    clear hr
    rw [hg] at PLC
    clear SC HG hg
    obtain ⟨m, hm⟩ : ∃ m, m = posL key ps := ⟨_, rfl⟩
    rw [← hm] at PLC PA hpl
    clear hm
    have m1 : (m : Int) ≤ (ps.length : Int) := by omega
    have m0 : (0 : Int) ≤ (m : Int) := Int.natCast_nonneg _
    go_enter Tryd.func85, Tryd.ntmps85
    go_wp2_with fail
    refine (PLC.out _ (HA.out.below HS0.out.below)).mono ?_
    rintro e w1 ⟨rfl, hb1⟩
    have S1 := HS0.out.low hb1 (by simp)
    have HS1 : Hid (StB _ _ _) := S1
    obtain ⟨a0, a1, a2, a3⟩ := S1.op
    obtain ⟨b0, b1, b2, b3⟩ := S1.res
    have fr := fun i => S1.free i
    have z1 := S1.size
    simp only at a0 a1 a2 a3
    clear S1 hb1
    go_wp2_with fail
    refine (PA.out _ (HA.out.below HS1.out.below)).mono ?_
    rintro e w2 ⟨rfl, hb2⟩
    have S2 := HS1.out.low hb2 z1
    have HS2 : Hid (StB _ _ _) := S2
    clear a0 a1 a2 a3 b0 b1 b2 b3 fr
    obtain ⟨b0, b1, b2, b3⟩ := S2.res
    have fr := fun i => S2.free i
    have z2 := S2.size
    clear S2 hb2
    have HF : Hid _ := HS2.out.fin r.ok r.key r.val (.slice none 0 0)
    go_wp2_with fail
    obtain ⟨⟨q0, q1, q2, q3⟩, hbf, hof⟩ := HF.out
    refine bodyPost_ret (v := .agg #[.bool r.ok, .int .i64 r.key, .int .i64 r.val, (.slice none 0 0)]) (by simp [results, Tryd.results85, go_sem, q0, q1, q2, q3]) rfl ⟨none, 0, 0, rfl, hbf, OwnPM.nil _ _⟩
  · have ER : stepR ps ⟨5, key, val, hi⟩ = tellR (pAt ps (((posL key ps : Nat) : Int) + 1)) := by
      have : stepR ps ⟨5, key, val, hi⟩ = tellR (nbN ps 5 key ps.length) := by simp [stepR]
      rw [this, nb_next ps key HSR.out, SC.out, hg, if_pos (by simp), Int.natCast_add, Int.natCast_one]
    have EP : (tellR (pAt ps (((posL key ps : Nat) : Int) + 1))).pairs = [] := by cases pAt ps (((posL key ps : Nat) : Int) + 1) <;> rfl
    rw [ER, EP]
    clear ER EP
    obtain ⟨r, hr⟩ : ∃ r, r = tellR (pAt ps (((posL key ps : Nat) : Int) + 1)) := ⟨_, rfl⟩
    rw [← hr]
    have PA : Hid (∀ W, PairsAt W base b o ps → Calls Tryd.prog 105 #[.slice base ps.length c, .int .i64 (((posL key ps : Nat) : Int) + 1)] W fun e w' => e = .returned (.agg #[.bool r.ok, .int .i64 r.key, .int .i64 r.val, .slice none 0 0]) ∧ Below W.heap.size W w') := fun W hW => by rw [hr]; exact pairAt_any base b o c ps (((posL key ps : Nat) : Int) + 1) W hW
    clear hr
    rw [hg] at PLC
    clear SC HG hg
    obtain ⟨m, hm⟩ : ∃ m, m = posL key ps := ⟨_, rfl⟩
    rw [← hm] at PLC PA hpl
    clear hm
    have m1 : (m : Int) ≤ (ps.length : Int) := by omega
    have m0 : (0 : Int) ≤ (m : Int) := Int.natCast_nonneg _
    go_enter Tryd.func85, Tryd.ntmps85
    go_wp2_with fail
    refine (PLC.out _ (HA.out.below HS0.out.below)).mono ?_
    rintro e w1 ⟨rfl, hb1⟩
    have S1 := HS0.out.low hb1 (by simp)
    have HS1 : Hid (StB _ _ _) := S1
    obtain ⟨a0, a1, a2, a3⟩ := S1.op
    obtain ⟨b0, b1, b2, b3⟩ := S1.res
    have fr := fun i => S1.free i
    have z1 := S1.size
    simp only at a0 a1 a2 a3
    clear S1 hb1
    go_wp2_with fail
    refine (PA.out _ (HA.out.below HS1.out.below)).mono ?_
    rintro e w2 ⟨rfl, hb2⟩
    have S2 := HS1.out.low hb2 z1
    have HS2 : Hid (StB _ _ _) := S2
    clear a0 a1 a2 a3 b0 b1 b2 b3 fr
    obtain ⟨b0, b1, b2, b3⟩ := S2.res
    have fr := fun i => S2.free i
    have z2 := S2.size
    clear S2 hb2
    have HF : Hid _ := HS2.out.fin r.ok r.key r.val (.slice none 0 0)
    go_wp2_with fail
    obtain ⟨⟨q0, q1, q2, q3⟩, hbf, hof⟩ := HF.out
    refine bodyPost_ret (v := .agg #[.bool r.ok, .int .i64 r.key, .int .i64 r.val, (.slice none 0 0)]) (by simp [results, Tryd.results85, go_sem, q0, q1, q2, q3]) rfl ⟨none, 0, 0, rfl, hbf, OwnPM.nil _ _⟩

set_option maxRecDepth 100000 in
set_option maxHeartbeats 1000000 in
theorem ans6 (base : Option Addr) (b o c : Nat) (ps : PL) (key val hi : Int) (w : World) (h : PairsAt w base b o ps) (hs : Srt ps) (hnil : NilOk base ps.length c) (hcap : ps.length ≤ c) (hcm : c ≤ maxLen) (hby : ps.length * 16 ≤ 140737488355328) : AnsP base c ps ⟨6, key, val, hi⟩ w := by
  have hl := h.len
  have HU : Hid (ps.length ≤ c ∧ c ≤ maxLen ∧ ps.length * 16 ≤ 140737488355328) := ⟨hcap, hcm, hby⟩
  unfold maxLen at hl
  have HA : Hid _ := h
  have HSR : Hid (Srt ps) := hs
  have HNIL : Hid (NilOk _ _ _) := hnil
  have HG : Hid _ := getK_pos key hs
  have hpl := posL_le key ps
  have SC : Hid (posL (key + 1) ps = posL key ps + if (getK key ps).isSome then 1 else 0) := by show posL (key + 1) ps = _; rw [posL_succ key hs, hasK_some]
  have HS0 : Hid (StB _ _ _) := StB.made w ⟨6, key, val, hi⟩ 43 45
  have PLC : Hid (∀ W, PairsAt W base b o ps → Calls Tryd.prog 104 #[.slice base ps.length c, .int .i64 key] W fun e w' => e = .returned (.tuple #[.int .i64 (posL key ps : Nat), .bool (getK key ps).isSome]) ∧ Below W.heap.size W w') := fun W hW => place_any base b o c ps key W hW HSR.out
  unfold AnsP
  clear h hs hnil
  have ER : stepR ps ⟨6, key, val, hi⟩ = tellR (pAt ps (((posL key ps : Nat) : Int) - 1)) := by
    have : stepR ps ⟨6, key, val, hi⟩ = tellR (nbN ps 6 key ps.length) := by simp [stepR]
    rw [this, nb_back ps key HSR.out]
  have EP : (tellR (pAt ps (((posL key ps : Nat) : Int) - 1))).pairs = [] := by cases pAt ps (((posL key ps : Nat) : Int) - 1) <;> rfl
  rw [ER, EP]
  clear ER EP
  obtain ⟨r, hr⟩ : ∃ r, r = tellR (pAt ps (((posL key ps : Nat) : Int) - 1)) := ⟨_, rfl⟩
  rw [← hr]
  have PA : Hid (∀ W, PairsAt W base b o ps → Calls Tryd.prog 105 #[.slice base ps.length c, .int .i64 (((posL key ps : Nat) : Int) - 1)] W fun e w' => e = .returned (.agg #[.bool r.ok, .int .i64 r.key, .int .i64 r.val, .slice none 0 0]) ∧ Below W.heap.size W w') := fun W hW => by rw [hr]; exact pairAt_any base b o c ps (((posL key ps : Nat) : Int) - 1) W hW
  clear hr
  obtain ⟨q, hq⟩ : ∃ q, q = (getK key ps).isSome := ⟨_, rfl⟩
  rw [← hq] at PLC
  clear SC HG hq
  obtain ⟨m, hm⟩ : ∃ m, m = posL key ps := ⟨_, rfl⟩
  rw [← hm] at PLC hpl PA
  clear hm
  have m1 : (m : Int) ≤ (ps.length : Int) := by omega
  have m0 : (0 : Int) ≤ (m : Int) := Int.natCast_nonneg _
  go_enter Tryd.func85, Tryd.ntmps85
  go_wp2_with fail
  refine (PLC.out _ (HA.out.below HS0.out.below)).mono ?_
  rintro e w1 ⟨rfl, hb1⟩
  have S1 := HS0.out.low hb1 (by simp)
  have HS1 : Hid (StB _ _ _) := S1
  obtain ⟨a0, a1, a2, a3⟩ := S1.op
  obtain ⟨b0, b1, b2, b3⟩ := S1.res
  have fr := fun i => S1.free i
  have z1 := S1.size
  simp only at a0 a1 a2 a3
  clear S1 hb1
  go_wp2_with fail
  refine (PA.out _ (HA.out.below HS1.out.below)).mono ?_
  rintro e w2 ⟨rfl, hb2⟩
  have S2 := HS1.out.low hb2 z1
  have HS2 : Hid (StB _ _ _) := S2
  clear a0 a1 a2 a3 b0 b1 b2 b3 fr
  obtain ⟨b0, b1, b2, b3⟩ := S2.res
  have fr := fun i => S2.free i
  have z2 := S2.size
  clear S2 hb2
  have HF : Hid _ := HS2.out.fin r.ok r.key r.val (.slice none 0 0)
  go_wp2_with fail
  obtain ⟨⟨q0, q1, q2, q3⟩, hbf, hof⟩ := HF.out
  refine bodyPost_ret (v := .agg #[.bool r.ok, .int .i64 r.key, .int .i64 r.val, (.slice none 0 0)]) (by simp [results, Tryd.results85, go_sem, q0, q1, q2, q3]) rfl ⟨none, 0, 0, rfl, hbf, OwnPM.nil _ _⟩

set_option maxRecDepth 100000 in
set_option maxHeartbeats 1000000 in
theorem ans7 (base : Option Addr) (b o c : Nat) (ps : PL) (key val hi : Int) (w : World) (h : PairsAt w base b o ps) (hs : Srt ps) (hnil : NilOk base ps.length c) (hcap : ps.length ≤ c) (hcm : c ≤ maxLen) (hby : ps.length * 16 ≤ 140737488355328) : AnsP base c ps ⟨7, key, val, hi⟩ w := by
  have hl := h.len
  have HU : Hid (ps.length ≤ c ∧ c ≤ maxLen ∧ ps.length * 16 ≤ 140737488355328) := ⟨hcap, hcm, hby⟩
  unfold maxLen at hl
  have HA : Hid _ := h
  have HSR : Hid (Srt ps) := hs
  have HNIL : Hid (NilOk _ _ _) := hnil
  have HG : Hid _ := getK_pos key hs
  have hpl := posL_le key ps
  have SC : Hid (posL (key + 1) ps = posL key ps + if (getK key ps).isSome then 1 else 0) := by show posL (key + 1) ps = _; rw [posL_succ key hs, hasK_some]
  have HS0 : Hid (StB _ _ _) := StB.made w ⟨7, key, val, hi⟩ 43 45
  have PLC : Hid (∀ W, PairsAt W base b o ps → Calls Tryd.prog 104 #[.slice base ps.length c, .int .i64 key] W fun e w' => e = .returned (.tuple #[.int .i64 (posL key ps : Nat), .bool (getK key ps).isSome]) ∧ Below W.heap.size W w') := fun W hW => place_any base b o c ps key W hW HSR.out
  unfold AnsP
  clear h hs hnil
  have ER : stepR ps ⟨7, key, val, hi⟩ = tellR (pAt ps 0) := by
    have : stepR ps ⟨7, key, val, hi⟩ = tellR (nbN ps 7 key ps.length) := by simp [stepR]
    rw [this, nb_min ps key]
  have EP : (tellR (pAt ps 0)).pairs = [] := by cases pAt ps 0 <;> rfl
  rw [ER, EP]
  clear ER EP
  obtain ⟨r, hr⟩ : ∃ r, r = tellR (pAt ps 0) := ⟨_, rfl⟩
  rw [← hr]
  have PA : Hid (∀ W, PairsAt W base b o ps → Calls Tryd.prog 105 #[.slice base ps.length c, .int .i64 0] W fun e w' => e = .returned (.agg #[.bool r.ok, .int .i64 r.key, .int .i64 r.val, .slice none 0 0]) ∧ Below W.heap.size W w') := fun W hW => by rw [hr]; exact pairAt_any base b o c ps 0 W hW
  clear hr
  obtain ⟨q, hq⟩ : ∃ q, q = (getK key ps).isSome := ⟨_, rfl⟩
  rw [← hq] at PLC
  clear SC HG hq
  obtain ⟨m, hm⟩ : ∃ m, m = posL key ps := ⟨_, rfl⟩
  rw [← hm] at PLC hpl
  clear hm
  have m1 : (m : Int) ≤ (ps.length : Int) := by omega
  have m0 : (0 : Int) ≤ (m : Int) := Int.natCast_nonneg _
  go_enter Tryd.func85, Tryd.ntmps85
  go_wp2_with fail
  refine (PLC.out _ (HA.out.below HS0.out.below)).mono ?_
  rintro e w1 ⟨rfl, hb1⟩
  have S1 := HS0.out.low hb1 (by simp)
  have HS1 : Hid (StB _ _ _) := S1
  obtain ⟨a0, a1, a2, a3⟩ := S1.op
  obtain ⟨b0, b1, b2, b3⟩ := S1.res
  have fr := fun i => S1.free i
  have z1 := S1.size
  simp only at a0 a1 a2 a3
  clear S1 hb1
  go_wp2_with fail
  refine (PA.out _ (HA.out.below HS1.out.below)).mono ?_
  rintro e w2 ⟨rfl, hb2⟩
  have S2 := HS1.out.low hb2 z1
  have HS2 : Hid (StB _ _ _) := S2
  clear a0 a1 a2 a3 b0 b1 b2 b3 fr
  obtain ⟨b0, b1, b2, b3⟩ := S2.res
  have fr := fun i => S2.free i
  have z2 := S2.size
  clear S2 hb2
  have HF : Hid _ := HS2.out.fin r.ok r.key r.val (.slice none 0 0)
  go_wp2_with fail
  obtain ⟨⟨q0, q1, q2, q3⟩, hbf, hof⟩ := HF.out
  refine bodyPost_ret (v := .agg #[.bool r.ok, .int .i64 r.key, .int .i64 r.val, (.slice none 0 0)]) (by simp [results, Tryd.results85, go_sem, q0, q1, q2, q3]) rfl ⟨none, 0, 0, rfl, hbf, OwnPM.nil _ _⟩

set_option maxRecDepth 100000 in
set_option maxHeartbeats 1000000 in
theorem ans8 (base : Option Addr) (b o c : Nat) (ps : PL) (key val hi : Int) (w : World) (h : PairsAt w base b o ps) (hs : Srt ps) (hnil : NilOk base ps.length c) (hcap : ps.length ≤ c) (hcm : c ≤ maxLen) (hby : ps.length * 16 ≤ 140737488355328) : AnsP base c ps ⟨8, key, val, hi⟩ w := by
  have hl := h.len
  have HU : Hid (ps.length ≤ c ∧ c ≤ maxLen ∧ ps.length * 16 ≤ 140737488355328) := ⟨hcap, hcm, hby⟩
  unfold maxLen at hl
  have HA : Hid _ := h
  have HSR : Hid (Srt ps) := hs
  have HNIL : Hid (NilOk _ _ _) := hnil
  have HG : Hid _ := getK_pos key hs
  have hpl := posL_le key ps
  have SC : Hid (posL (key + 1) ps = posL key ps + if (getK key ps).isSome then 1 else 0) := by show posL (key + 1) ps = _; rw [posL_succ key hs, hasK_some]
  have HS0 : Hid (StB _ _ _) := StB.made w ⟨8, key, val, hi⟩ 43 45
  have PLC : Hid (∀ W, PairsAt W base b o ps → Calls Tryd.prog 104 #[.slice base ps.length c, .int .i64 key] W fun e w' => e = .returned (.tuple #[.int .i64 (posL key ps : Nat), .bool (getK key ps).isSome]) ∧ Below W.heap.size W w') := fun W hW => place_any base b o c ps key W hW HSR.out
  unfold AnsP
  clear h hs hnil
  have ER : stepR ps ⟨8, key, val, hi⟩ = tellR (pAt ps ((ps.length : Int) - 1)) := by
    have : stepR ps ⟨8, key, val, hi⟩ = tellR (nbN ps 8 key ps.length) := by simp [stepR]
    rw [this, nb_max ps key]
  have EP : (tellR (pAt ps ((ps.length : Int) - 1))).pairs = [] := by cases pAt ps ((ps.length : Int) - 1) <;> rfl
  rw [ER, EP]
  clear ER EP
  obtain ⟨r, hr⟩ : ∃ r, r = tellR (pAt ps ((ps.length : Int) - 1)) := ⟨_, rfl⟩
  rw [← hr]
  have PA : Hid (∀ W, PairsAt W base b o ps → Calls Tryd.prog 105 #[.slice base ps.length c, .int .i64 ((ps.length : Int) - 1)] W fun e w' => e = .returned (.agg #[.bool r.ok, .int .i64 r.key, .int .i64 r.val, .slice none 0 0]) ∧ Below W.heap.size W w') := fun W hW => by rw [hr]; exact pairAt_any base b o c ps ((ps.length : Int) - 1) W hW
  clear hr
  obtain ⟨q, hq⟩ : ∃ q, q = (getK key ps).isSome := ⟨_, rfl⟩
  rw [← hq] at PLC
  clear SC HG hq
  obtain ⟨m, hm⟩ : ∃ m, m = posL key ps := ⟨_, rfl⟩
  rw [← hm] at PLC hpl
  clear hm
  have m1 : (m : Int) ≤ (ps.length : Int) := by omega
  have m0 : (0 : Int) ≤ (m : Int) := Int.natCast_nonneg _
  go_enter Tryd.func85, Tryd.ntmps85
  go_wp2_with fail
  refine (PLC.out _ (HA.out.below HS0.out.below)).mono ?_
  rintro e w1 ⟨rfl, hb1⟩
  have S1 := HS0.out.low hb1 (by simp)
  have HS1 : Hid (StB _ _ _) := S1
  obtain ⟨a0, a1, a2, a3⟩ := S1.op
  obtain ⟨b0, b1, b2, b3⟩ := S1.res
  have fr := fun i => S1.free i
  have z1 := S1.size
  simp only at a0 a1 a2 a3
  clear S1 hb1
  go_wp2_with fail
  refine (PA.out _ (HA.out.below HS1.out.below)).mono ?_
  rintro e w2 ⟨rfl, hb2⟩
  have S2 := HS1.out.low hb2 z1
  have HS2 : Hid (StB _ _ _) := S2
  clear a0 a1 a2 a3 b0 b1 b2 b3 fr
  obtain ⟨b0, b1, b2, b3⟩ := S2.res
  have fr := fun i => S2.free i
  have z2 := S2.size
  clear S2 hb2
  have HF : Hid _ := HS2.out.fin r.ok r.key r.val (.slice none 0 0)
  go_wp2_with fail
  obtain ⟨⟨q0, q1, q2, q3⟩, hbf, hof⟩ := HF.out
  refine bodyPost_ret (v := .agg #[.bool r.ok, .int .i64 r.key, .int .i64 r.val, (.slice none 0 0)]) (by simp [results, Tryd.results85, go_sem, q0, q1, q2, q3]) rfl ⟨none, 0, 0, rfl, hbf, OwnPM.nil _ _⟩

set_option maxRecDepth 100000 in
set_option maxHeartbeats 1000000 in
theorem ans9 (base : Option Addr) (b o c : Nat) (ps : PL) (key val hi : Int) (w : World) (h : PairsAt w base b o ps) (hs : Srt ps) (hnil : NilOk base ps.length c) (hcap : ps.length ≤ c) (hcm : c ≤ maxLen) (hby : ps.length * 16 ≤ 140737488355328) : AnsP base c ps ⟨9, key, val, hi⟩ w := by
  have hl := h.len
  have HU : Hid (ps.length ≤ c ∧ c ≤ maxLen ∧ ps.length * 16 ≤ 140737488355328) := ⟨hcap, hcm, hby⟩
  unfold maxLen at hl
  have HA : Hid _ := h
  have HSR : Hid (Srt ps) := hs
  have HNIL : Hid (NilOk _ _ _) := hnil
  have HG : Hid _ := getK_pos key hs
  have hpl := posL_le key ps
  have SC : Hid (posL (key + 1) ps = posL key ps + if (getK key ps).isSome then 1 else 0) := by show posL (key + 1) ps = _; rw [posL_succ key hs, hasK_some]
  have HS0 : Hid (StB _ _ _) := StB.made w ⟨9, key, val, hi⟩ 43 45
  have PLC : Hid (∀ W, PairsAt W base b o ps → Calls Tryd.prog 104 #[.slice base ps.length c, .int .i64 key] W fun e w' => e = .returned (.tuple #[.int .i64 (posL key ps : Nat), .bool (getK key ps).isSome]) ∧ Below W.heap.size W w') := fun W hW => place_any base b o c ps key W hW HSR.out
  unfold AnsP
  clear h hs hnil
  have ER : stepR ps ⟨9, key, val, hi⟩ = ⟨true, 0, 0, inL key hi ps⟩ := by simp [stepR]
  rw [ER]
  have hil : (inL key hi ps).length * 16 ≤ 140737488355328 := Nat.le_trans (Nat.mul_le_mul_right 16 (List.length_filter_le _ _)) HU.out.2.2
  have BT : Hid (∀ W, PairsAt W base b o ps → Calls Tryd.prog 106 #[.slice base ps.length c, .int .i64 key, .int .i64 hi] W fun e w' => ∃ a o' c', e = .returned (.slice a (inL key hi ps).length c') ∧ Below W.heap.size W w' ∧ PairsAt w' a b o' (inL key hi ps) ∧ NilOk a (inL key hi ps).length c') := fun W hW => between_any base b o c ps key hi W hW HSR.out HNIL.out HU.out.1 HU.out.2.1
  obtain ⟨q, hq⟩ : ∃ q, q = (getK key ps).isSome := ⟨_, rfl⟩
  rw [← hq] at PLC
  clear SC HG hq ER
  obtain ⟨m, hm⟩ : ∃ m, m = posL key ps := ⟨_, rfl⟩
  rw [← hm] at PLC hpl
  clear hm
  obtain ⟨L, hL⟩ : ∃ L, L = inL key hi ps := ⟨_, rfl⟩
  rw [← hL] at BT hil ⊢
  clear hL
  go_enter Tryd.func85, Tryd.ntmps85
  go_wp2_with fail
  refine (PLC.out _ (HA.out.below HS0.out.below)).mono ?_
  rintro e w1 ⟨rfl, hb1⟩
  have S1 := HS0.out.low hb1 (by simp)
  have HS1 : Hid (StB _ _ _) := S1
  obtain ⟨a0, a1, a2, a3⟩ := S1.op
  obtain ⟨b0, b1, b2, b3⟩ := S1.res
  have fr := fun i => S1.free i
  have z1 := S1.size
  simp only at a0 a1 a2 a3
  clear S1 hb1
  go_wp2_with fail
  refine (BT.out _ (HA.out.below HS1.out.below)).mono ?_
  rintro e w2 ⟨ab, ob, cb, rfl, hb2, hpb, hnb⟩
  have HS2 : Hid (StB _ _ _) := HS1.out.low hb2 z1
  have CL : Hid (Calls _ _ _ _ _) := clone_anyM ab b ob cb L w2 hpb hnb hil
  have z2 := HS2.out.size
  clear hb2 hpb hnb a0 a1 a2 a3 b0 b1 b2 b3 fr
  go_wp2_with fail
  refine CL.out.mono ?_
  rintro e w3 ⟨v3, rfl, ho3, hb3⟩
  have S3 := HS2.out.low hb3 z2
  obtain ⟨a4, g4, c4, rfl, hq4⟩ := ho3
  have P3 : Hid (OwnPM w3 w2.heap.size L (.slice a4 L.length c4)) := ⟨a4, g4, c4, rfl, hq4⟩
  have HS3 : Hid (StB _ _ _) := S3
  obtain ⟨b0, b1, b2, b3⟩ := S3.res
  have fr := fun i => S3.free i
  have z3 := S3.size
  clear S3 hb3 hq4
  have HF : Hid _ := HS3.out.fin true 0 0 (.slice a4 L.length c4)
  go_wp2_with fail
  obtain ⟨⟨q0, q1, q2, q3⟩, hbf, hof⟩ := HF.out
  refine bodyPost_ret (v := .agg #[.bool true, .int .i64 0, .int .i64 0, (.slice a4 L.length c4)]) (by simp [results, Tryd.results85, go_sem, q0, q1, q2, q3]) rfl ⟨a4, L.length, c4, rfl, hbf, (hof w2.heap.size _ _ (by omega) P3.out).down (by omega)⟩

theorem ans_any (base : Option Addr) (b o c : Nat) (ps : PL) (op : OpD) (w : World) (h : PairsAt w base b o ps) (hs : Srt ps) (hnil : NilOk base ps.length c) (hcap : ps.length ≤ c) (hcm : c ≤ maxLen) (hby : ps.length * 16 ≤ 140737488355328) (hk : kdErr op.kind = 0) : AnsP base c ps op w := by
  obtain ⟨kind, key, val, hi⟩ := op
  have hr : 1 ≤ kind ∧ kind ≤ 9 := by
    unfold kdErr at hk
    split at hk
    · cases hk
    · simp only at *; omega
  have hc : kind = 1 ∨ kind = 2 ∨ kind = 3 ∨ kind = 4 ∨ kind = 5 ∨ kind = 6 ∨ kind = 7 ∨ kind = 8 ∨ kind = 9 := by omega
  rcases hc with rfl | rfl | rfl | rfl | rfl | rfl | rfl | rfl | rfl
  · exact ans1 base b o c ps key val hi w h hs hnil hcap hcm hby
  · exact ans2 base b o c ps key val hi w h hs hnil hcap hcm hby
  · exact ans3 base b o c ps key val hi w h hs hnil hcap hcm hby
  · exact ans4 base b o c ps key val hi w h hs hnil hcap hcm hby
  · exact ans5 base b o c ps key val hi w h hs hnil hcap hcm hby
  · exact ans6 base b o c ps key val hi w h hs hnil hcap hcm hby
  · exact ans7 base b o c ps key val hi w h hs hnil hcap hcm hby
  · exact ans8 base b o c ps key val hi w h hs hnil hcap hcm hby
  · exact ans9 base b o c ps key val hi w h hs hnil hcap hcm hby
end Go.Proofs.YtcphajjonecmbaaDoor








namespace Go.Proofs.YtcphajjonecmbaaDoor

open Go.RowKit

theorem run_copy_sz {P : Program} (w : World) (dT sT ty elem : TypeId) (g o dLen dCap : Nat) (a : Addr) (sLen sCap sz : Nat) (cur : Array Value) (t : TypeId) (cs : List Value)
    (hu : P.underlying dT = some (.slice elem)) (hs : (P.info? elem).map (·.size) = some sz)
    (hg : w.heap[g]? = some (.cells cur t (0, 0))) (hn : cs.length = Nat.min sLen dLen * sz)
    (hsrc : ∀ j v, cs[j]? = some v → w.cell? (a.add j) = some v) (hfit : o + cs.length ≤ cur.size) (h1 : ∀ v ∈ cs, v.oneCell' = true) :
    (Builtin.copy_ #[dT, sT] ty #[.slice (some ⟨g, o, none⟩) dLen dCap, .slice (some a) sLen sCap]).run P w =
      .ok (goInt (Nat.min sLen dLen)) (w.setRow g (cur.toList.take o ++ cs ++ cur.toList.drop (o + cs.length)).toArray) := by
  have hl := run_loadCells_list (P := P) w a cs hsrc
  have hst := run_storeCells_at P g o t cs 0 cur w hg (by simpa using hfit) h1
  cases hq : P.info? elem with
  | none => simp [hq] at hs
  | some i =>
    have hi : i.size = sz := by simpa [hq] using hs
    simp [Builtin.copy_, run_underlying hu, Builtin.lenOf, Builtin.firstCells, sizeOf, typeInfo, hq, hi, ← hn, hl, hst]
theorem wpList_copy_runI {P : Program} (w : World) {ops : Array Oper} {rest : List Oper} {o : Oper} {a : Act} {Q : Exit → Act → World → Prop} (hgd : o.guard = none) (d s : Operand) (t t' : TypeId)
    (ho : o.op = .call { callee := .builtin .copy, args := #[d, s], argTypes := #[t, t'] }) (v u : Value) (hd : a.eval d = v) (hs : a.eval s = u) {v' : Value} {w' : World}
    (hr : (Builtin.copy_ #[t, t'] o.type #[v, u]).run P w = .ok v' w') (h : wpList P ops Q rest (a.put o.dst v') w') : wpList P ops Q (o :: rest) a w :=
  wpList_plain hgd fun _ hK => by
    unfold Oper.wp execOp
    simp only [ho, resolve, invoke, builtin, Sem.run_bind, Sem.run_pure, Result.andThen_ok, List.map_toArray, List.map_cons, List.map_nil, hd, hs, hr]
    exact hK _ _ h
theorem step_copy_runI {P : Program} {ops : Array Oper} {o : Oper} {a : Act} {w : World} {K : Act → World → Prop} {Q : Exit → Act → World → Prop} {E : Prop}
    (hg : o.guard = none) (d x : Operand) (dT sT : TypeId) (hop : o.op = Op.call { callee := Callee.builtin Builtin.copy, args := #[d, x], argTypes := #[dT, sT] })
    (v u : Value) (hd : a.eval d = v) (hx : a.eval x = u) {v' : Value} {w' : World} (hr : (Builtin.copy_ #[dT, sT] o.type #[v, u]).run P w = .ok v' w') (hK : K (a.put o.dst v') w') :
    if Region.wanted o (yielded ops a.tmps) = true then Oper.wp P o a w K Q else E := by
  have hw : Region.wanted o (yielded ops a.tmps) = true := by simp [Region.wanted, hg]
  rw [if_pos hw]
  unfold Oper.wp
  simp [execOp, hop, resolve, invoke, builtin, hd, hx, hr, Result.andThen]
  exact hK
theorem step_append_runI {P : Program} {ops : Array Oper} {o : Oper} {a : Act} {w : World} {K : Act → World → Prop} {Q : Exit → Act → World → Prop} {E : Prop}
    (hg : o.guard = none) (d x : Operand) (dT sT : TypeId) (hop : o.op = Op.call { callee := Callee.builtin Builtin.append, args := #[d, x], argTypes := #[dT, sT] })
    (v u : Value) (hd : a.eval d = v) (hx : a.eval x = u) {v' : Value} {w' : World} (hr : (Builtin.append_ #[dT, sT] o.type #[v, u]).run P w = .ok v' w') (hK : K (a.put o.dst v') w') :
    if Region.wanted o (yielded ops a.tmps) = true then Oper.wp P o a w K Q else E := by
  have hw : Region.wanted o (yielded ops a.tmps) = true := by simp [Region.wanted, hg]
  rw [if_pos hw]
  unfold Oper.wp
  simp [execOp, hop, resolve, invoke, builtin, hd, hx, hr, Result.andThen]
  exact hK
theorem setRow_at {w : World} {g : Nat} {cur : Array Value} {t : TypeId} (h : w.heap[g]? = some (.cells cur t (0, 0))) (cs : Array Value) : (w.setRow g cs).heap[g]? = some (.cells cs t (0, 0)) := by
  simp [World.setRow, Array.getElem?_modify, h]
theorem setRow_grown (w : World) (g : Nat) (cs : Array Value) : w.grownBy (w.setRow g cs) (some g) := by
  refine ⟨rfl, rfl, rfl, by simp [World.setRow], fun k hk hne => ?_⟩
  have : g ≠ k := fun e => hne (by rw [e])
  simp [World.setRow, Array.getElem?_modify, this]
theorem setRow_size (w : World) (g : Nat) (cs : Array Value) : (w.setRow g cs).heap.size = w.heap.size := by simp [World.setRow]
theorem drew_grown (w : World) (x : Option Nat) : w.grownBy w.drew x := ⟨rfl, rfl, rfl, Nat.le_refl _, fun _ _ _ => rfl⟩
theorem grown_trans {w w' w'' : World} {x : Option Nat} (h : w.grownBy w' x) (h' : w'.grownBy w'' x) : w.grownBy w'' x :=
  ⟨h'.os.trans h.os, h'.tape.trans h.tape, h'.output.trans h.output, Nat.le_trans h.size h'.size, fun k hk hne => (h'.block k (Nat.lt_of_lt_of_le hk h.size) hne).trans (h.block k hk hne)⟩
theorem run_clear2 {P : Program} (w : World) (t e ty : TypeId) (z : Value) (z0 z1 : Value) (ht : P.underlying t = some (.slice e)) (hv : ∀ w, (zeroValue e).run P w = .ok z w) (hz : z.cells = #[z0, z1]) (h0 : z0.oneCell' = true) (h1 : z1.oneCell' = true) (g o c : Nat) (cur : Array Value) (T : TypeId) (hg : w.heap[g]? = some (.cells cur T (0, 0))) (hfit : o + 2 ≤ cur.size) :
    (Builtin.clear_ #[t] ty #[.slice (some ⟨g, o, none⟩) 1 c]).run P w = .ok (.tuple #[]) (w.setRow g (cur.toList.take o ++ [z0, z1] ++ cur.toList.drop (o + 2)).toArray) := by
  have hzc : (Builtin.zeroCells z.cells 1).toList = [z0, z1] := by
    rw [hz]
    apply List.ext_getElem
    · simp [Builtin.zeroCells]
    · intro i h1 h2
      have : i = 0 ∨ i = 1 := by simp at h2; omega
      rcases this with rfl | rfl <;> simp [Builtin.zeroCells]
  have hst := run_storeCells_at P g o T [z0, z1] 0 cur w hg (by simpa using hfit) (by intro v hv'; simp at hv'; rcases hv' with rfl | rfl; exact h0; exact h1)
  simp only [Nat.add_zero] at hst
  simp [Builtin.clear_, run_underlying ht, hv, hzc, hst]
theorem pz_value : ∀ w, (zeroValue 93).run Tryd.prog w = .ok (.agg #[.int .i64 0, .int .i64 0]) w := Tryd.zeroValue93


end Go.Proofs.YtcphajjonecmbaaDoor


namespace Go.Proofs.YtcphajjonecmbaaDoor

open Go.RowKit

set_option maxRecDepth 100000 in
set_option maxHeartbeats 1000000 in
theorem del_walk (g cap n m : Nat) (w : World) (hm : m < n) (hn : n ≤ cap) (hc : cap ≤ 9223372036854775807) (hcm : ¬ cap = m + 1) (W1 W2 : World) (H : ∀ ty, (Builtin.append_ #[ 23, 23] ty #[.slice (some ⟨g, 0, none⟩) m cap, .slice (some ⟨g, (m + 1) * 2, none⟩) (n - (m + 1)) (cap - (m + 1))]).run Tryd.prog w.drew = .ok (.slice (some ⟨g, 0, none⟩) (n - 1) cap) W1)
    (H2 : ∀ ty, (Builtin.clear_ #[ 23 ] ty #[.slice (some ⟨g, (n - 1) * 2, none⟩) (n - (n - 1)) (cap - (n - 1))]).run Tryd.prog W1 = .ok (.tuple #[]) W2) :
    Calls Tryd.prog 107 #[.slice (some ⟨g, 0, none⟩) n cap, .int .i64 m, .int .i64 ((m : Int) + 1)] w fun e w' => e = .returned (.slice (some ⟨g, 0, none⟩) (n - 1) cap) ∧ w' = W2 := by
  have HU : Hid (cap ≤ 9223372036854775807) := hc
  have q1 : ((m : Int) == (m : Int) + 1) = false := by simp; omega
  have q0 : (m : Int) + 1 ≤ (n : Int) := by omega
  have q2 : m ≤ cap := by omega
  have q3 : m + 1 ≤ cap := by omega
  have q4 : ((m : Int) + 1).toNat = m + 1 := by omega
  have q5 : (m : Int) + 1 ≤ (cap : Int) := by omega
  have q6 : n - 1 ≤ cap := by omega
  have q7 : ¬ cap = n - 1 := by omega
  have q8 : (0 : Int) ≤ (m : Int) + 1 := by omega
  have mixed : Tryd.prog.follows .mixedOrders = true := by kernel_rfl
  go_enter Tryd.func107, Tryd.ntmps107
  go_wp2_with fail
  go_region_law_o (refine step_append_runI rfl (.tmp 22) (.tmp 25) 23 23 rfl (.slice (some ⟨g, 0, none⟩) m cap) (.slice (some ⟨g, (m + 1) * 2, none⟩) (n - (m + 1)) (cap - (m + 1))) (by simp [Act.eval, Act.put]) (by simp [Act.eval, Act.put]) (H _) ?_)
  go_wp2_with fail
  go_ret
  exact ⟨rfl, rfl⟩

set_option maxRecDepth 100000 in
set_option maxHeartbeats 1000000 in
theorem del_walk2 (g m : Nat) (w : World) (hc : m + 1 ≤ 9223372036854775807) (W1 W2 : World) (H : ∀ ty, (Builtin.append_ #[ 23, 23 ] ty #[.slice (some ⟨g, 0, none⟩) m (m + 1), .slice (some ⟨g, 0, none⟩) 0 0]).run Tryd.prog w.drew = .ok (.slice (some ⟨g, 0, none⟩) m (m + 1)) W1)
    (H2 : ∀ ty, (Builtin.clear_ #[ 23 ] ty #[.slice (some ⟨g, m * 2, none⟩) 1 1]).run Tryd.prog W1 = .ok (.tuple #[]) W2) :
    Calls Tryd.prog 107 #[.slice (some ⟨g, 0, none⟩) (m + 1) (m + 1), .int .i64 m, .int .i64 ((m : Int) + 1)] w fun e w' => e = .returned (.slice (some ⟨g, 0, none⟩) m (m + 1)) ∧ w' = W2 := by
  have q1 : ((m : Int) == (m : Int) + 1) = false := by simp; omega
  have q2 : (m : Int) ≤ (m : Int) + 1 := by omega
  have q4 : ((m : Int) + 1).toNat = m + 1 := by omega
  have q7 : ¬ m + 1 = m := by omega
  have q8 : (0 : Int) ≤ (m : Int) + 1 := by omega
  have q9 : m + 1 - m = 1 := by omega
  have HU : Hid (m + 1 ≤ 9223372036854775807) := hc
  have mixed : Tryd.prog.follows .mixedOrders = true := by kernel_rfl
  go_enter Tryd.func107, Tryd.ntmps107
  go_wp2_with fail
  go_region_law_o (refine step_append_runI rfl (.tmp 22) (.tmp 25) 23 23 rfl (.slice (some ⟨g, 0, none⟩) m (m + 1)) (.slice (some ⟨g, 0, none⟩) 0 0) (by simp [Act.eval, Act.put]) (by simp [Act.eval, Act.put]) (H _) ?_)
  go_wp2_with fail
  go_ret
  exact ⟨rfl, rfl⟩

set_option maxRecDepth 100000 in
set_option maxHeartbeats 1000000 in
theorem ins_grow_walk (g cap n m N G vb : Nat) (w : World) (hm : m < n) (hn : n ≤ cap) (hcn : cap < n + 1) (hc : n + 1 ≤ 9223372036854775807) (hG : n + 1 ≤ G) (hG63 : G ≤ 9223372036854775807) (W1 W2 W3 : World) (r2 r3 : Value)
    (H1 : ∀ ty, (Builtin.append_ #[ 23, 3] ty #[.slice (some ⟨g, 0, none⟩) m cap, .int .i64 ((n : Int) + 1 - (m : Int))]).run Tryd.prog w = .ok (.slice (some ⟨N, 0, none⟩) (n + 1) G) W1)
    (H2 : ∀ ty, (Builtin.copy_ #[ 23, 23] ty #[.slice (some ⟨N, m * 2, none⟩) (n + 1 - m) (G - m), .slice (some ⟨vb, 0, none⟩) 1 1]).run Tryd.prog W1 = .ok r2 W2)
    (H3 : ∀ ty, (Builtin.copy_ #[ 23, 23] ty #[.slice (some ⟨N, (m + 1) * 2, none⟩) (n + 1 - (m + 1)) (G - (m + 1)), .slice (some ⟨g, m * 2, none⟩) (n - m) (cap - m)]).run Tryd.prog W2.drew = .ok r3 W3) :
    Calls Tryd.prog 108 #[.slice (some ⟨g, 0, none⟩) n cap, .int .i64 m, .slice (some ⟨vb, 0, none⟩) 1 1] w fun e w' => e = .returned (.slice (some ⟨N, 0, none⟩) (n + 1) G) ∧ w' = W3 := by
  have q1 : ((m : Int) == (n : Int)) = false := by simp; omega
  have q2 : decide ((cap : Int) < (n : Int) + 1) = true := decide_eq_true (by omega)
  have q3 : (cap : Int) < (n : Int) + 1 := by omega
  have q4 : m ≤ cap := by omega
  have q5 : (m : Int) ≤ (n : Int) := by omega
  have q6 : ¬ cap = m := by omega
  have q7 : ¬ G = m := by omega
  have q8 : ¬ G = m + 1 := by omega
  have q9 : (m : Int) ≤ (n : Int) + 1 := by omega
  have q10 : (m : Int) + 1 ≤ (n : Int) + 1 := by omega
  have q11 : ((m : Int) + 1).toNat = m + 1 := by omega
  have q12 : (0 : Int) ≤ (m : Int) + 1 := by omega
  have q13 : IntKind.i64.wrap ((m : Int) + 1) = (m : Int) + 1 := by rw [IntKind.wrap_i64]; omega
  have q14 : m ≤ n + 1 := by omega
  have q15 : m + 1 ≤ n + 1 := by omega
  have q16 : m ≤ n := by omega
  have mixed : Tryd.prog.follows .mixedOrders = true := by kernel_rfl
  go_enter Tryd.func108, Tryd.ntmps108
  go_wp2_with (first
    | (at_builtin; refine Lib.wpList_append_run _ rfl _ _ _ _ rfl _ _ rfl rfl _ _ (H1 _) ?_)
    | (at_builtin; refine wpList_copy_runI _ rfl _ _ 23 23 rfl _ _ rfl rfl (H2 _) ?_))
  go_region_law_o (refine step_copy_runI rfl _ _ 23 23 rfl (.slice (some ⟨N, (m + 1) * 2, none⟩) (n + 1 - (m + 1)) (G - (m + 1))) (.slice (some ⟨g, m * 2, none⟩) (n - m) (cap - m)) (by simp [Act.eval, Act.put]) (by simp [Act.eval, Act.put]) (H3 _) ?_)
  go_wp2_with fail
  go_ret
  exact ⟨rfl, rfl⟩

set_option maxRecDepth 100000 in
set_option maxHeartbeats 1000000 in
theorem ins_shift_walk (g cap n m vb : Nat) (w : World) (hm : m < n) (hcn : n + 1 ≤ cap) (hc : cap ≤ 9223372036854775807) (W1 W2 : World) (r1 r2 : Value)
    (hov : ∀ lb cb, (callFunc 124 #[.slice (some ⟨vb, 0, none⟩) 1 1, .slice (some ⟨g, (m + 1) * 2, none⟩) lb cb]).run Tryd.prog w = .ok (.value (.bool false)) w)
    (H1 : ∀ ty, (Builtin.copy_ #[ 23, 23] ty #[.slice (some ⟨g, (m + 1) * 2, none⟩) (n + 1 - (m + 1)) (cap - (m + 1)), .slice (some ⟨g, m * 2, none⟩) (n + 1 - m) (cap - m)]).run Tryd.prog w.drew = .ok r1 W1)
    (H2 : ∀ ty, (Builtin.copy_ #[ 23, 23] ty #[.slice (some ⟨g, m * 2, none⟩) (n + 1 - m) (cap - m), .slice (some ⟨vb, 0, none⟩) 1 1]).run Tryd.prog W1 = .ok r2 W2) :
    Calls Tryd.prog 108 #[.slice (some ⟨g, 0, none⟩) n cap, .int .i64 m, .slice (some ⟨vb, 0, none⟩) 1 1] w fun e w' => e = .returned (.slice (some ⟨g, 0, none⟩) (n + 1) cap) ∧ w' = W2 := by
  have q1 : ((m : Int) == (n : Int)) = false := by simp; omega
  have q2 : decide ((cap : Int) < (n : Int) + 1) = false := decide_eq_false (by omega)
  have q3 : ¬ (cap : Int) < (n : Int) + 1 := by omega
  have q4 : m ≤ cap := by omega
  have q5 : (m : Int) ≤ (n : Int) := by omega
  have q6 : ¬ cap = m := by omega
  have q8 : ¬ cap = m + 1 := by omega
  have q9 : (m : Int) ≤ (n : Int) + 1 := by omega
  have q10 : (m : Int) + 1 ≤ (n : Int) + 1 := by omega
  have q11 : ((m : Int) + 1).toNat = m + 1 := by omega
  have q12 : (0 : Int) ≤ (m : Int) + 1 := by omega
  have q13 : IntKind.i64.wrap ((m : Int) + 1) = (m : Int) + 1 := by rw [IntKind.wrap_i64]; omega
  have q14 : m ≤ n + 1 := by omega
  have q15 : m + 1 ≤ n + 1 := by omega
  have q16 : m ≤ n := by omega
  have q17 : (n : Int) + 1 ≤ (cap : Int) := by omega
  have q18 : ((n : Int) + 1).toNat = n + 1 := by omega
  have q19 : (0 : Int) ≤ (n : Int) + 1 := by omega
  have mixed : Tryd.prog.follows .mixedOrders = true := by kernel_rfl
  go_enter Tryd.func108, Tryd.ntmps108
  go_wp2_with (simp only [hov])
  go_region_law_o (refine step_copy_runI rfl _ _ 23 23 rfl (.slice (some ⟨g, (m + 1) * 2, none⟩) (n + 1 - (m + 1)) (cap - (m + 1))) (.slice (some ⟨g, m * 2, none⟩) (n + 1 - m) (cap - m)) (by simp [Act.eval, Act.put]) (by simp [Act.eval, Act.put]) (H1 _) ?_)
  go_wp2_with (at_builtin; refine wpList_copy_runI _ rfl _ _ 23 23 rfl _ _ rfl rfl (H2 _) ?_)
  go_ret
  exact ⟨rfl, rfl⟩
end Go.Proofs.YtcphajjonecmbaaDoor

namespace Go.Proofs.YtcphajjonecmbaaDoor

open Go.RowKit

def splice (l : List Value) (o : Nat) (cs : List Value) : List Value := l.take o ++ cs ++ l.drop (o + cs.length)
theorem splice_len (l : List Value) (o : Nat) (cs : List Value) (h : o + cs.length ≤ l.length) : (splice l o cs).length = l.length := by simp [splice]; omega
theorem splice_take (l : List Value) (o : Nat) (cs : List Value) (h : o ≤ l.length) (k : Nat) (hk : k = o + cs.length) : (splice l o cs).take k = l.take o ++ cs := by
  unfold splice
  rw [List.take_append_of_le_length (by simp; omega), List.take_of_length_le (by simp; omega)]
theorem splice_take_le (l : List Value) (o : Nat) (cs : List Value) (h : o ≤ l.length) (k : Nat) (hk : k ≤ o) : (splice l o cs).take k = l.take k := by
  unfold splice
  rw [List.append_assoc, List.take_append_of_le_length (by simp; omega), List.take_take, Nat.min_eq_left hk]
theorem splice_drop (l : List Value) (o : Nat) (cs : List Value) (h : o ≤ l.length) : (splice l o cs).drop o = cs ++ l.drop (o + cs.length) := by
  unfold splice
  rw [List.append_assoc, List.drop_append_of_le_length (by simp; omega), List.drop_of_length_le (by simp; omega), List.nil_append]
theorem pairCells_drop : ∀ (ps : PL) (k : Nat), pairCells (ps.drop k) = (pairCells ps).drop (k * 2)
  | ps, 0 => by simp
  | [], k + 1 => by simp [pairCells]
  | p :: t, k + 1 => by
    rw [List.drop_succ_cons, pairCells_drop t k, show (k + 1) * 2 = k * 2 + 1 + 1 by omega]
    rfl
theorem pairCells_take : ∀ (ps : PL) (k : Nat), pairCells (ps.take k) = (pairCells ps).take (k * 2)
  | ps, 0 => by simp [pairCells]
  | [], k + 1 => by simp [pairCells]
  | p :: t, k + 1 => by
    rw [List.take_succ_cons, show (k + 1) * 2 = k * 2 + 1 + 1 by omega]
    simp [pairCells, pairCells_take t k]
theorem row_cell {w : World} {g : Nat} {cur : Array Value} {t : TypeId} (hh : w.heap[g]? = some (.cells cur t (0, 0))) (j : Nat) : w.cell? ⟨g, j, none⟩ = cur.toList[j]? := by
  simp [World.cell?, hh]
/-- A piece of the row's cells, read back. -/
theorem row_news {w : World} {g : Nat} {cur : Array Value} {t : TypeId} {ps : PL} (hh : w.heap[g]? = some (.cells cur t (0, 0))) (h4 : cur.toList.take (ps.length * 2) = pairCells ps) (k : Nat) (j : Nat) (u : Value) (hu : (pairCells (ps.drop k))[j]? = some u) : w.cell? ((⟨g, k * 2, none⟩ : Addr).add j) = some u := by
  rw [addr_add'M, row_cell hh]
  rw [pairCells_drop, ← h4, List.getElem?_drop, List.getElem?_take] at hu
  split at hu
  · exact hu
  · cases hu
theorem pr_size : (Tryd.prog.info? 93).map (·.size) = some 2 := by kernel_rfl

theorem delete_any {w : World} {B : Nat} {v : Value} {ps : PL} {m : Nat} (h : w.ownsRow B 93 2 v ps.length (pairCells ps)) (hm : m < ps.length) :
    Calls Tryd.prog 107 #[v, .int .i64 m, .int .i64 ((m : Int) + 1)] w fun e w' => ∃ v', e = .returned v' ∧ w'.ownsRow B 93 2 v' (ps.take m ++ ps.drop (m + 1)).length (pairCells (ps.take m ++ ps.drop (m + 1))) ∧ w.grownBy w' v.ownBlock ∧ v'.ownBlock = v.ownBlock := by
  obtain ⟨i0, hi0, hz0, hz1, hz2⟩ := info_parts pr_infoM
  obtain ⟨_, h⟩ := h
  rcases h with ⟨rfl, h0⟩ | ⟨g, cap, cur, rfl, hg, hh, h1, h2, h3, h4⟩
  · omega
  obtain ⟨n, hn⟩ : ∃ n, n = ps.length := ⟨_, rfl⟩
  have hcl : cur.toList.length = cap * 2 := by simpa using h3
  have hnl : (pairCells (ps.drop (m + 1))).length = (n - (m + 1)) * 2 := by rw [pairCells_length, List.length_drop, hn]
  have hone := pairCells_oneM (ps.drop (m + 1))
  have hwh : w.drew.heap[g]? = some (.cells cur 93 (0, 0)) := hh
  unfold maxLen at h2
  -- the row behind the append, behind the clear
  obtain ⟨c1, hc1⟩ : ∃ c1, c1 = splice cur.toList (m * 2) (pairCells (ps.drop (m + 1))) := ⟨_, rfl⟩
  obtain ⟨c2, hc2⟩ : ∃ c2, c2 = splice c1 ((n - 1) * 2) [.int .i64 0, .int .i64 0] := ⟨_, rfl⟩
  have l1 : c1.length = cap * 2 := by rw [hc1, splice_len _ _ _ (by omega), hcl]
  have l2 : c2.length = cap * 2 := by rw [hc2, splice_len _ _ _ (by simp; omega), l1]
  have A1 : ∀ (A : Addr) (c : Nat) ty, (n - (m + 1) ≠ 0 → A = ⟨g, (m + 1) * 2, none⟩) → (Builtin.append_ #[ 23, 23 ] ty #[.slice (some ⟨g, 0, none⟩) m cap, .slice (some A) (n - (m + 1)) c]).run Tryd.prog w.drew = .ok (.slice (some ⟨g, 0, none⟩) (n - 1) cap) (w.drew.setRow g c1.toArray) := by
    intro A c ty hA
    have r := run_append_room (P := Tryd.prog) w.drew 23 ty 93 i0 prs_underM hi0 g m cap cur hwh A (n - (m + 1)) c (pairCells (ps.drop (m + 1))) (by rw [hz1]; exact hnl) (fun j u hu => by
      by_cases hz : n - (m + 1) = 0
      · rw [hz] at hnl
        have hnil : pairCells (ps.drop (m + 1)) = [] := List.length_eq_zero_iff.1 (by omega)
        rw [hnil] at hu
        simp at hu
      · rw [hA hz]
        exact row_news (w := w.drew) hwh h4 (m + 1) j u hu) hone (by omega) (by rw [hz1, hnl, h3]; omega)
    rw [hz1] at r
    rw [r, show m + (n - (m + 1)) = n - 1 by omega, hc1]
    rfl
  have A2 : ∀ (c : Nat) ty, (Builtin.clear_ #[ 23 ] ty #[.slice (some ⟨g, (n - 1) * 2, none⟩) 1 c]).run Tryd.prog (w.drew.setRow g c1.toArray) = .ok (.tuple #[]) ((w.drew.setRow g c1.toArray).setRow g c2.toArray) := by
    intro c ty
    have r := run_clear2 (P := Tryd.prog) (w.drew.setRow g c1.toArray) 23 93 ty (.agg #[.int .i64 0, .int .i64 0]) (.int .i64 0) (.int .i64 0) prs_underM pz_value rfl rfl rfl g ((n - 1) * 2) c c1.toArray 93 (setRow_at hwh _) (by simp; omega)
    rw [r, hc2]
    rfl
  have FIN : ∀ (W : World), W = (w.drew.setRow g c1.toArray).setRow g c2.toArray → W.ownsRow B 93 2 (.slice (some ⟨g, 0, none⟩) (n - 1) cap) (ps.take m ++ ps.drop (m + 1)).length (pairCells (ps.take m ++ ps.drop (m + 1))) ∧ w.grownBy W (some g) := by
    rintro W rfl
    have hlen : (ps.take m ++ ps.drop (m + 1)).length = n - 1 := by simp; omega
    refine ⟨⟨by rw [pairCells_length], Or.inr ⟨g, cap, c2.toArray, by rw [hlen], hg, setRow_at (setRow_at hwh _) _, by rw [hlen]; omega, by unfold maxLen; omega, by simpa using l2, ?_⟩⟩, grown_trans (grown_trans (drew_grown _ _) (setRow_grown _ _ _)) (setRow_grown _ _ _)⟩
    rw [hlen, hc2, splice_take_le _ _ _ (by omega) _ (Nat.le_refl _), hc1, splice_take _ _ _ (by omega) _ (by omega), pairCells_append, pairCells_take, ← h4, List.take_take, Nat.min_eq_left (by omega)]
  rw [← hn] at hm h1 ⊢
  by_cases hcm : cap = m + 1
  · obtain rfl : n = m + 1 := by omega
    subst hcm
    have D := del_walk2 g m w (by omega) _ _ (fun ty => by have := A1 ⟨g, 0, none⟩ 0 ty (fun q => by omega); simpa using this) (fun ty => by have := A2 1 ty; simpa using this)
    refine D.mono ?_
    rintro e w' ⟨rfl, hw⟩
    obtain ⟨f1, f2⟩ := FIN w' hw
    exact ⟨_, rfl, by simpa using f1, f2, rfl⟩
  · have D := del_walk g cap n m w hm h1 (by omega) hcm _ _ (fun ty => A1 ⟨g, (m + 1) * 2, none⟩ _ ty (fun _ => rfl)) (fun ty => by rw [show n - (n - 1) = 1 by omega]; exact A2 _ ty)
    refine D.mono ?_
    rintro e w' ⟨rfl, hw⟩
    obtain ⟨f1, f2⟩ := FIN w' hw
    exact ⟨_, rfl, f1, f2, rfl⟩
end Go.Proofs.YtcphajjonecmbaaDoor

namespace Go.Proofs.YtcphajjonecmbaaDoor

open Go.RowKit

theorem zeroCells_len (z0 z1 : Value) (k : Nat) : (Builtin.zeroCells #[z0, z1] k).size = k * 2 := by simp [Builtin.zeroCells]
/-- What Insert leaves. -/
def InsP (w : World) (B : Nat) (v : Value) (R : PL) (e : Ending) (w' : World) : Prop := ∃ v', e = .returned v' ∧ w'.ownsRow B 93 2 v' R.length (pairCells R) ∧ w.grownBy w' v.ownBlock ∧ (∀ k, v'.ownBlock = some k → v.ownBlock = some k ∨ w.heap.size ≤ k)
theorem grown_any {w w' : World} {x y : Option Nat} (h : w.grownBy w' x) (hx : ∀ k, x = some k → w.heap.size ≤ k ∨ y = some k) : w.grownBy w' y := by
  refine ⟨h.os, h.tape, h.output, h.size, fun k hk hne => h.block k hk (fun e => ?_)⟩
  rcases hx k e.symm with q | q
  · omega
  · exact hne q.symm

theorem ins_grow {w : World} {B : Nat} {ps : PL} {g cap vb : Nat} {cur : Array Value} (m : Nat) (key val : Int) (hg : B ≤ g) (hh : w.heap[g]? = some (.cells cur 93 (0, 0))) (h1 : ps.length ≤ cap) (h3 : cur.size = cap * 2) (h4 : cur.toList.take (ps.length * 2) = pairCells ps)
    (hm : m < ps.length) (hroom : cap < ps.length + 1) (hby : (ps.length + 1) * 16 ≤ 140737488355328) (hv : w.heap[vb]? = some (.cells #[.int .i64 key, .int .i64 val] 93 (0, 0))) :
    Calls Tryd.prog 108 #[.slice (some ⟨g, 0, none⟩) ps.length cap, .int .i64 m, .slice (some ⟨vb, 0, none⟩) 1 1] w (InsP w B (.slice (some ⟨g, 0, none⟩) ps.length cap) (ps.take m ++ (key, val) :: ps.drop m)) := by
  obtain ⟨i0, hi0, hz0, hz1, hz2⟩ := info_parts pr_infoM
  obtain ⟨n, hn⟩ : ∃ n, n = ps.length := ⟨_, rfl⟩
  have hgl : g < w.heap.size := (Array.getElem?_eq_some_iff.1 hh).1
  have hvl : vb < w.heap.size := (Array.getElem?_eq_some_iff.1 hv).1
  have hcl : cur.toList.length = cap * 2 := by simpa using h3
  rw [← hn] at h1 h4 hm hroom hby ⊢
  have htl : (pairCells (ps.take m)).length = m * 2 := by rw [pairCells_length, List.length_take]; omega
  have hdl : (pairCells (ps.drop m)).length = (n - m) * 2 := by rw [pairCells_length, List.length_drop, hn]
  have hwh : w.drew.heap[g]? = some (.cells cur 93 (0, 0)) := hh
  have hold : (Builtin.firstCells i0.size m (.slice (some ⟨g, 0, none⟩) m cap)).run Tryd.prog w.drew = .ok (pairCells (ps.take m)).toArray w.drew := by
    rw [hz1]
    exact run_firstCells_some w.drew 2 m ⟨g, 0, none⟩ m cap (pairCells (ps.take m)) htl (fun j u hu => by
      rw [addr_add'M, Nat.zero_add, row_cell hwh]
      rw [pairCells_take, ← h4, List.take_take, List.getElem?_take] at hu
      split at hu
      · exact hu
      · cases hu)
  obtain ⟨G, hG⟩ : ∃ G, G = grownCap w (n + 1) cap 93 := ⟨_, rfl⟩
  have hGn : n + 1 ≤ G := by rw [hG]; exact grownCap_ge w _ _ _
  have hGm : G ≤ maxLen := by rw [hG]; exact grownCap_le_maxLen w (n + 1) cap _ (by unfold maxLen; omega)
  obtain ⟨R0, hR0⟩ : ∃ R0 : Array Value, R0 = (pairCells (ps.take m)).toArray ++ Builtin.zeroCells #[.int .i64 0, .int .i64 0] (n + 1 - m) ++ Builtin.zeroCells #[.int .i64 0, .int .i64 0] (G - (n + 1)) := ⟨_, rfl⟩
  have l0 : R0.size = G * 2 := by rw [hR0]; simp only [Array.size_append, zeroCells_len, List.size_toArray, htl]; omega
  have t0 : R0.toList.take (m * 2) = pairCells (ps.take m) := by
    rw [hR0, Array.toList_append, Array.toList_append, List.append_assoc, List.take_append_of_le_length (by simp [htl]), List.take_of_length_le (by simp [htl])]
  obtain ⟨W1, hW1⟩ : ∃ W1, W1 = w.drew.alloc (.cells R0 93) := ⟨_, rfl⟩
  have H1 : ∀ ty, (Builtin.append_ #[ 23, 3 ] ty #[.slice (some ⟨g, 0, none⟩) m cap, .int .i64 ((n : Int) + 1 - (m : Int))]).run Tryd.prog w = .ok (.slice (some ⟨w.heap.size, 0, none⟩) (n + 1) G) W1 := fun ty => by
    have r := Lib.run_append_grow_zeros (P := Tryd.prog) w 23 3 ty 93 i0 _ .i64 .i64 prs_underM (by kernel_rfl) hi0 hz0 (some ⟨g, 0, none⟩) m cap (pairCells (ps.take m)) hold (n + 1 - m) (by omega) (by omega) (by omega) (by omega) (by rw [hz2]; omega) (by rw [hz2, show m + (n + 1 - m) = n + 1 by omega]; exact growslice_fits hroom hby)
    rw [show m + (n + 1 - m) = n + 1 by omega, ← hG] at r
    rw [show (n : Int) + 1 - (m : Int) = ((n + 1 - m : Nat) : Int) by omega, r, hW1, hR0]
    rfl
  have hb1 : W1.heap[w.heap.size]? = some (.cells R0 93 (0, 0)) := by rw [hW1]; exact heap_alloc_at _ _ _ rfl
  have ho1 : ∀ k, k < w.heap.size → W1.heap[k]? = w.heap[k]? := fun k hk => by
    rw [hW1]; exact (below_allocM w.drew _).block k hk
  -- the pair laid, then the rest
  obtain ⟨c1, hc1⟩ : ∃ c1, c1 = splice R0.toList (m * 2) [.int .i64 key, .int .i64 val] := ⟨_, rfl⟩
  obtain ⟨c2, hc2⟩ : ∃ c2, c2 = splice c1 ((m + 1) * 2) (pairCells (ps.drop m)) := ⟨_, rfl⟩
  have hR0l : R0.toList.length = G * 2 := by simpa using l0
  have l1 : c1.length = G * 2 := by rw [hc1, splice_len _ _ _ (by simp; omega), hR0l]
  have l2 : c2.length = G * 2 := by rw [hc2, splice_len _ _ _ (by rw [hdl, l1]; omega), l1]
  have H2 : ∀ ty, (Builtin.copy_ #[ 23, 23 ] ty #[.slice (some ⟨w.heap.size, m * 2, none⟩) (n + 1 - m) (G - m), .slice (some ⟨vb, 0, none⟩) 1 1]).run Tryd.prog W1 = .ok (goInt (Nat.min 1 (n + 1 - m))) (W1.setRow w.heap.size c1.toArray) := fun ty => by
    have r := run_copy_sz (P := Tryd.prog) W1 23 23 ty 93 w.heap.size (m * 2) (n + 1 - m) (G - m) ⟨vb, 0, none⟩ 1 1 2 R0 93 [.int .i64 key, .int .i64 val] prs_underM pr_size hb1 (by rw [show Nat.min 1 (n + 1 - m) = 1 from Nat.min_eq_left (by omega)]; rfl) (fun j u hu => by
      rw [addr_add'M, Nat.zero_add, row_cell ((ho1 vb hvl).trans hv)]
      exact hu) (by rw [l0]; simp; omega) (by simp [Value.oneCell'])
    rw [r, hc1]
    rfl
  have hb2 : (W1.setRow w.heap.size c1.toArray).heap[w.heap.size]? = some (.cells c1.toArray 93 (0, 0)) := setRow_at hb1 _
  have hg2 : (W1.setRow w.heap.size c1.toArray).drew.heap[g]? = some (.cells cur 93 (0, 0)) := by
    have := (setRow_grown W1 w.heap.size c1.toArray).block g (by have := (Array.getElem?_eq_some_iff.1 hb1).1; omega) (fun e => by cases e; omega)
    exact this.trans ((ho1 g hgl).trans hh)
  have H3 : ∀ ty, (Builtin.copy_ #[ 23, 23 ] ty #[.slice (some ⟨w.heap.size, (m + 1) * 2, none⟩) (n + 1 - (m + 1)) (G - (m + 1)), .slice (some ⟨g, m * 2, none⟩) (n - m) (cap - m)]).run Tryd.prog (W1.setRow w.heap.size c1.toArray).drew = .ok (goInt (Nat.min (n - m) (n + 1 - (m + 1)))) ((W1.setRow w.heap.size c1.toArray).drew.setRow w.heap.size c2.toArray) := fun ty => by
    have r := run_copy_sz (P := Tryd.prog) (W1.setRow w.heap.size c1.toArray).drew 23 23 ty 93 w.heap.size ((m + 1) * 2) (n + 1 - (m + 1)) (G - (m + 1)) ⟨g, m * 2, none⟩ (n - m) (cap - m) 2 c1.toArray 93 (pairCells (ps.drop m)) prs_underM pr_size hb2 (by rw [hdl, show Nat.min (n - m) (n + 1 - (m + 1)) = n - m from Nat.min_eq_left (by omega)]) (fun j u hu => row_news hg2 (by rw [← hn]; exact h4) m j u hu) (by rw [hdl]; simp [l1]; omega) (pairCells_oneM _)
    rw [r, hc2]
    rfl
  have D := ins_grow_walk g cap n m w.heap.size G vb w hm h1 hroom (by omega) hGn (by unfold maxLen at hGm; omega) _ _ _ _ _ H1 H2 H3
  refine D.mono ?_
  rintro e w' ⟨rfl, rfl⟩
  have hlen : (ps.take m ++ (key, val) :: ps.drop m).length = n + 1 := by simp; omega
  refine ⟨_, rfl, ⟨by rw [pairCells_length], Or.inr ⟨w.heap.size, G, c2.toArray, by rw [hlen], Nat.le_trans hg (by omega), setRow_at (w := (W1.setRow w.heap.size c1.toArray).drew) hb2 _, by rw [hlen]; exact hGn, hGm, by simpa using l2, ?_⟩⟩, ?_, fun k hk => by cases hk; exact Or.inr (Nat.le_refl _)⟩
  · rw [hlen, hc2, splice_take _ _ _ (by omega) _ (by rw [hdl]; omega), hc1, splice_take _ _ _ (by omega) _ (by simp; omega), t0, pairCells_append]
    simp [pairCells]
  · have g1 : w.grownBy W1 (some w.heap.size) := by
      refine ⟨by rw [hW1]; rfl, by rw [hW1]; rfl, by rw [hW1]; rfl, by rw [hW1]; simp, fun k hk _ => ho1 k hk⟩
    exact grown_any (grown_trans (grown_trans (grown_trans g1 (setRow_grown _ _ _)) (drew_grown _ _)) (setRow_grown _ _ _)) (fun k hk => by cases hk; exact Or.inl (Nat.le_refl _))

theorem ins_shift {w : World} {B : Nat} {ps : PL} {g cap vb : Nat} {cur : Array Value} (m : Nat) (key val : Int) (hg : B ≤ g) (hh : w.heap[g]? = some (.cells cur 93 (0, 0))) (h2 : cap ≤ maxLen) (h3 : cur.size = cap * 2) (h4 : cur.toList.take (ps.length * 2) = pairCells ps)
    (hm : m < ps.length) (hroom : ps.length + 1 ≤ cap) (hv : w.heap[vb]? = some (.cells #[.int .i64 key, .int .i64 val] 93 (0, 0))) (hne : vb ≠ g) :
    Calls Tryd.prog 108 #[.slice (some ⟨g, 0, none⟩) ps.length cap, .int .i64 m, .slice (some ⟨vb, 0, none⟩) 1 1] w (InsP w B (.slice (some ⟨g, 0, none⟩) ps.length cap) (ps.take m ++ (key, val) :: ps.drop m)) := by
  obtain ⟨n, hn⟩ : ∃ n, n = ps.length := ⟨_, rfl⟩
  have hcl : cur.toList.length = cap * 2 := by simpa using h3
  rw [← hn] at h4 hm hroom ⊢
  have hvl : vb < w.heap.size := (Array.getElem?_eq_some_iff.1 hv).1
  have hdl : (pairCells (ps.drop m)).length = (n - m) * 2 := by rw [pairCells_length, List.length_drop, hn]
  have hwh : w.drew.heap[g]? = some (.cells cur 93 (0, 0)) := hh
  obtain ⟨c1, hc1⟩ : ∃ c1, c1 = splice cur.toList ((m + 1) * 2) (pairCells (ps.drop m)) := ⟨_, rfl⟩
  obtain ⟨c2, hc2⟩ : ∃ c2, c2 = splice c1 (m * 2) [.int .i64 key, .int .i64 val] := ⟨_, rfl⟩
  have l1 : c1.length = cap * 2 := by rw [hc1, splice_len _ _ _ (by rw [hdl, hcl]; omega), hcl]
  have l2 : c2.length = cap * 2 := by rw [hc2, splice_len _ _ _ (by simp; omega), l1]
  have hov : ∀ lb cb, (callFunc 124 #[.slice (some ⟨vb, 0, none⟩) 1 1, .slice (some ⟨g, (m + 1) * 2, none⟩) lb cb]).run Tryd.prog w = .ok (.value (.bool false)) w := fun lb cb => by
    rw [run_callFunc_extern Tryd.func124 (by kernel_rfl) (by kernel_rfl) (by kernel_rfl) (e := Extern.SlicesOverlaps.overlaps #[ 23, 23 ] #[ 4 ]) (by kernel_rfl),
      Lib.run_overlaps_apart w 23 4 93 prs_underM 2 Tryd.sizeOf93 ⟨vb, 0, none⟩ ⟨g, (m + 1) * 2, none⟩ 1 1 lb cb hne 93 93 2 cur.size (by simp [World.shape?, hv]) (by simp [World.shape?, hh]) (by omega) (by simp [World.frozen?, hv]) (by simp [World.frozen?, hv])]
    rfl
  have H1 : ∀ ty, (Builtin.copy_ #[ 23, 23 ] ty #[.slice (some ⟨g, (m + 1) * 2, none⟩) (n + 1 - (m + 1)) (cap - (m + 1)), .slice (some ⟨g, m * 2, none⟩) (n + 1 - m) (cap - m)]).run Tryd.prog w.drew = .ok (goInt (Nat.min (n + 1 - m) (n + 1 - (m + 1)))) (w.drew.setRow g c1.toArray) := fun ty => by
    have r := run_copy_sz (P := Tryd.prog) w.drew 23 23 ty 93 g ((m + 1) * 2) (n + 1 - (m + 1)) (cap - (m + 1)) ⟨g, m * 2, none⟩ (n + 1 - m) (cap - m) 2 cur 93 (pairCells (ps.drop m)) prs_underM pr_size hwh (by rw [hdl, show Nat.min (n + 1 - m) (n + 1 - (m + 1)) = n - m from by simp [Nat.min_def]; omega]) (fun j u hu => row_news hwh (by rw [← hn]; exact h4) m j u hu) (by rw [hdl, h3]; omega) (pairCells_oneM _)
    rw [r, hc1]
    rfl
  have hb1 : (w.drew.setRow g c1.toArray).heap[g]? = some (.cells c1.toArray 93 (0, 0)) := setRow_at hwh _
  have hv1 : (w.drew.setRow g c1.toArray).heap[vb]? = some (.cells #[.int .i64 key, .int .i64 val] 93 (0, 0)) := ((setRow_grown w.drew g c1.toArray).block vb hvl (fun e => by cases e; exact hne rfl)).trans hv
  have H2 : ∀ ty, (Builtin.copy_ #[ 23, 23 ] ty #[.slice (some ⟨g, m * 2, none⟩) (n + 1 - m) (cap - m), .slice (some ⟨vb, 0, none⟩) 1 1]).run Tryd.prog (w.drew.setRow g c1.toArray) = .ok (goInt (Nat.min 1 (n + 1 - m))) ((w.drew.setRow g c1.toArray).setRow g c2.toArray) := fun ty => by
    have r := run_copy_sz (P := Tryd.prog) (w.drew.setRow g c1.toArray) 23 23 ty 93 g (m * 2) (n + 1 - m) (cap - m) ⟨vb, 0, none⟩ 1 1 2 c1.toArray 93 [.int .i64 key, .int .i64 val] prs_underM pr_size hb1 (by rw [show Nat.min 1 (n + 1 - m) = 1 from Nat.min_eq_left (by omega)]; rfl) (fun j u hu => by
      rw [addr_add'M, Nat.zero_add, row_cell hv1]
      exact hu) (by simp [l1]; omega) (by simp [Value.oneCell'])
    rw [r, hc2]
    rfl
  unfold maxLen at h2
  have D := ins_shift_walk g cap n m vb w hm hroom (by omega) _ _ _ _ hov H1 H2
  refine D.mono ?_
  rintro e w' ⟨rfl, rfl⟩
  have hlen : (ps.take m ++ (key, val) :: ps.drop m).length = n + 1 := by simp; omega
  refine ⟨_, rfl, ⟨by rw [pairCells_length], Or.inr ⟨g, cap, c2.toArray, by rw [hlen], hg, setRow_at hb1 _, by rw [hlen]; exact hroom, by unfold maxLen; omega, by simpa using l2, ?_⟩⟩, grown_trans (grown_trans (drew_grown _ _) (setRow_grown _ _ _)) (setRow_grown _ _ _), fun k hk => Or.inl hk⟩
  rw [hlen, hc2]
  have e1 : splice c1 (m * 2) [.int .i64 key, .int .i64 val] = (c1.take (m * 2) ++ [.int .i64 key, .int .i64 val]) ++ c1.drop ((m + 1) * 2) := by
    unfold splice
    rw [show m * 2 + ([.int .i64 key, .int .i64 val] : List Value).length = (m + 1) * 2 by simp; omega]
  rw [e1, hc1, splice_take_le _ _ _ (by omega) _ (by omega), splice_drop _ _ _ (by omega), ← List.append_assoc, List.take_append_of_le_length (by simp [hdl, hcl]; omega), List.take_of_length_le (by simp [hdl, hcl]; omega), pairCells_append, pairCells_take, ← h4, List.take_take, Nat.min_eq_left (by omega)]
  simp [pairCells]
end Go.Proofs.YtcphajjonecmbaaDoor


namespace Go.Proofs.YtcphajjonecmbaaDoor

open Go.RowKit

set_option maxRecDepth 100000 in
set_option maxHeartbeats 1000000 in
theorem ins_end {w : World} {B : Nat} {v : Value} {ps : PL} {vb : Nat} (key val : Int) (h : w.ownsRow B 93 2 v ps.length (pairCells ps)) (hv : w.heap[vb]? = some (.cells #[.int .i64 key, .int .i64 val] 93 (0, 0))) (hby : (ps.length + 1) * 16 ≤ 140737488355328) (hB : B ≤ w.heap.size) :
    Calls Tryd.prog 108 #[v, .int .i64 (ps.length : Nat), .slice (some ⟨vb, 0, none⟩) 1 1] w (InsP w B v (ps ++ [(key, val)])) := by
  obtain ⟨i0, hi0, hz0, hz1, hz2⟩ := info_parts pr_infoM
  have n1 : ps.length + 1 ≤ maxLen := by unfold maxLen; omega
  have HNEWS : Hid (∀ j u, ([.int .i64 key, .int .i64 val] : List Value)[j]? = some u → w.cell? ((⟨vb, 0, none⟩ : Addr).add j) = some u) := fun j u hu => by
    rw [addr_add'M, Nat.zero_add, row_cell hv]; exact hu
  have HO : Hid (World.ownsRow _ _ _ _ _ _ _) := h
  have hsh : (v = .slice none 0 0 ∧ ps.length = 0) ∨ ∃ g cap, v = .slice (some ⟨g, 0, none⟩) ps.length cap ∧ ps.length ≤ cap ∧ cap ≤ 9223372036854775807 := by
    obtain ⟨_, h⟩ := h
    rcases h with h | ⟨g, cap, cur, e, _, _, h1, h2, _⟩
    · exact Or.inl h
    · exact Or.inr ⟨g, cap, e, h1, by unfold maxLen at h2; omega⟩
  clear h hv
  have FIN : Hid (∀ (gg cap : Nat) (w3 : World), w3.ownsRow B 93 2 (.slice (some ⟨gg, 0, none⟩) (ps.length + 1) cap) (ps.length + 1) (pairCells ps ++ [.int .i64 key, .int .i64 val]) → w.grownBy w3 v.ownBlock → (v.ownBlock = some gg ∨ gg = w.heap.size) → InsP w B v (ps ++ [(key, val)]) (.returned (.slice (some ⟨gg, 0, none⟩) (ps.length + 1) cap)) w3) := by
    intro gg cap w3 h1 h2 h3
    refine ⟨_, rfl, by rw [List.length_append, pair_snoc]; exact h1, h2, fun k hk => ?_⟩
    cases hk
    rcases h3 with q | q
    · exact Or.inl q
    · exact Or.inr (by show w.heap.size ≤ gg; omega)
  rcases hsh with ⟨rfl, h0⟩ | ⟨g, cap, rfl, h1, h2⟩
  · obtain rfl : ps = [] := List.length_eq_zero_iff.1 h0
    have n2 : (0 + 1) * 16 ≤ 140737488355328 := by omega
    show Calls Tryd.prog _ #[.slice none 0 0, .int .i64 0, _] w _
    go_enter Tryd.func108, Tryd.ntmps108
    go_wp2_with (first | (at_builtin; (refine wpList_append_lies _ (by rfl) _ _ _ (by rfl) B 93 i0 _ 2 16 prs_underM hi0 hz0 hz1 hz2 rfl (by omega) _ 0 _ (by rfl) HO.out ⟨vb, 0, none⟩ 1 1 [.int .i64 key, .int .i64 val] (by rfl) (by rfl) HNEWS.out (by simp [Value.oneCell']) Nat.one_pos n1 n2 hB w.heap.size rfl ?_); intro gg cap w3 hown hgrow hat hlt))
    go_ret
    exact FIN.out _ _ _ hown hgrow hat
  · have q1 : ((ps.length : Int) == (ps.length : Int)) = true := by simp
    go_enter Tryd.func108, Tryd.ntmps108
    go_wp2_with (first | (at_builtin; (refine wpList_append_lies _ (by rfl) _ _ _ (by rfl) B 93 i0 _ 2 16 prs_underM hi0 hz0 hz1 hz2 rfl (by omega) _ ps.length _ (by rfl) HO.out ⟨vb, 0, none⟩ 1 1 [.int .i64 key, .int .i64 val] (by rfl) (by rfl) HNEWS.out (by simp [Value.oneCell']) Nat.one_pos n1 hby hB w.heap.size rfl ?_); intro gg cap w3 hown hgrow hat hlt))
    all_goals go_ret
    all_goals exact FIN.out _ _ _ hown hgrow hat

theorem insert_any {w : World} {B : Nat} {v : Value} {ps : PL} {vb : Nat} (m : Nat) (key val : Int) (h : w.ownsRow B 93 2 v ps.length (pairCells ps)) (hm : m ≤ ps.length) (hv : w.heap[vb]? = some (.cells #[.int .i64 key, .int .i64 val] 93 (0, 0))) (hne : v.ownBlock ≠ some vb) (hby : (ps.length + 1) * 16 ≤ 140737488355328) (hB : B ≤ w.heap.size) :
    Calls Tryd.prog 108 #[v, .int .i64 (m : Nat), .slice (some ⟨vb, 0, none⟩) 1 1] w (InsP w B v (ps.take m ++ (key, val) :: ps.drop m)) := by
  by_cases he : m = ps.length
  · subst he
    have := ins_end key val h hv hby hB
    rw [List.take_length, List.drop_length]
    exact this
  · obtain ⟨_, h⟩ := h
    rcases h with ⟨rfl, h0⟩ | ⟨g, cap, cur, rfl, hg, hh, h1, h2, h3, h4⟩
    · omega
    · by_cases hr : ps.length + 1 ≤ cap
      · exact ins_shift m key val hg hh h2 h3 h4 (by omega) hr hv (fun e => hne (by rw [e]; rfl))
      · exact ins_grow m key val hg hh h1 h3 h4 (by omega) (by omega) hby hv

theorem owns_putM {w : World} {B sz : Nat} {e : TypeId} {n : Nat} {xs : List Value} {g cap : Nat} (h : w.ownsRow B e sz (.slice (some ⟨g, 0, none⟩) n cap) n xs) (j : Nat) (u : Value) : (w.setCell ⟨g, j, none⟩ u).ownsRow B e sz (.slice (some ⟨g, 0, none⟩) n cap) n (xs.set j u) := by
  obtain ⟨h0, h⟩ := h
  rcases h with ⟨h, _⟩ | ⟨g', cap', cur, hv, hg, hh, h1, h2, h3, h4⟩
  · cases h
  · cases hv
    refine ⟨by simpa using h0, Or.inr ⟨g, cap, cur.setIfInBounds j u, rfl, hg, ?_, h1, h2, by simpa using h3, ?_⟩⟩
    · simp [World.setCell, Array.getElem?_modify, hh]
    · rw [Array.toList_setIfInBounds, List.take_set, h4]
theorem owns_someM {w : World} {B sz : Nat} {e : TypeId} {v : Value} {n : Nat} {xs : List Value} (h : w.ownsRow B e sz v n xs) (hn : 0 < n) : ∃ g cap, v = .slice (some ⟨g, 0, none⟩) n cap ∧ B ≤ g ∧ g < w.heap.size ∧ n ≤ cap ∧ cap ≤ maxLen ∧ (∀ j, j < n * sz → w.cell? ⟨g, j, none⟩ = xs[j]?) ∧ ∀ j, w.frozen? ⟨g, j, none⟩ = false := by
  obtain ⟨_, h⟩ := h
  rcases h with ⟨_, h0⟩ | ⟨g, cap, cur, rfl, hg, hh, h1, h2, h3, h4⟩
  · omega
  · refine ⟨g, cap, rfl, hg, (Array.getElem?_eq_some_iff.1 hh).1, h1, h2, fun j hj => ?_, fun j => ?_⟩
    · rw [← h4, List.getElem?_take, if_pos hj]; simp [World.cell?, hh]
    · simp [World.frozen?, hh]
theorem set_pair : ∀ (ps : PL) (m : Nat) (val : Int), m < ps.length → (pairCells ps).set (m * 2 + 1) (.int .i64 val) = pairCells (ps.take m ++ (keyAt ps m, val) :: ps.drop (m + 1))
  | [], m, _, h => by simp at h
  | p :: t, 0, val, _ => by simp [pairCells, keyAt]
  | p :: t, m + 1, val, h => by
    have ih := set_pair t m val (by simpa using h)
    rw [show (m + 1) * 2 + 1 = m * 2 + 1 + 1 + 1 by omega, key_cons]
    simp only [pairCells, List.set_cons_succ, List.take_succ_cons, List.drop_succ_cons, List.cons_append]
    rw [ih]
theorem grown_of_below {w w1 : World} {x : Option Nat} (h : Below w.heap.size w w1) : w.grownBy w1 x := by
  obtain ⟨h1, h2, h3, h4, h5⟩ := h
  exact ⟨h1, h2, h3, h4, fun k hk _ => h5 k hk⟩
theorem grown_setCell {w : World} {g j : Nat} {u : Value} : w.grownBy (w.setCell ⟨g, j, none⟩ u) (some g) := by
  refine ⟨rfl, rfl, rfl, by simp, fun k hk hne => ?_⟩
  have : g ≠ k := fun e => hne (by rw [e])
  simp [World.setCell, Array.getElem?_modify, this]
theorem clone_own (bp : Option Addr) (gp op cp : Nat) (ps : PL) (w : World) (h : PairsAt w bp gp op ps) (hnil : NilOk bp ps.length cp) (hbig : ps.length * 16 ≤ 140737488355328) :
    Calls Tryd.prog 77 #[.slice bp ps.length cp] w fun e w' => ∃ v, e = .returned v ∧ w'.ownsRow w.heap.size 93 2 v ps.length (pairCells ps) ∧ Below w.heap.size w w' := by
  have hlen := h.len
  have qn : ∀ (w : World) (a : Option Addr) (n c n' c' : Nat), (binOp .eql 23 (.slice a n c) (.slice none n' c')).run Tryd.prog w = .ok (.bool a.isNone) w := fun w a n c n' c' => Lib.run_eql_slice_nil w _ _ a n c n' c' prs_underM
  cases bp with
  | none =>
    obtain ⟨h0, rfl⟩ := hnil rfl
    clear hnil h
    obtain rfl : ps = [] := List.length_eq_zero_iff.1 h0
    clear hlen h0 hbig
    show Calls Tryd.prog 77 #[.slice none 0 0] w _
    go_enter Tryd.func77, Tryd.ntmps77
    go_wp2_with fail
    go_ret
    exact ⟨_, rfl, World.ownsRow_nil _ _ _ _, Below.refl _ _⟩
  | some ad =>
    obtain ⟨i0, hi0, hz0, hz1, hz2⟩ := info_parts pr_infoM
    have HA : Hid _ := h
    clear hnil h
    have ho : (w.alloc (.cells #[] 93)).ownsRow w.heap.size 93 2 (.slice (some ⟨w.heap.size, 0, none⟩) 0 0) 0 [] := ⟨rfl, Or.inr ⟨w.heap.size, 0, #[], rfl, Nat.le_refl _, heap_alloc_at _ _ _ rfl, Nat.le_refl _, by unfold maxLen; omega, rfl, rfl⟩⟩
    have HO : Hid (World.ownsRow _ _ _ _ _ _ _) := ho
    have hnews : ∀ a, some ad = some a → ∀ j u, (pairCells ps)[j]? = some u → (w.alloc (.cells #[] 93)).cell? (a.add j) = some u := pairs_newsM (HA.out.below (below_allocM _ _))
    have HW : Hid _ := hnews
    clear ho hnews
    go_enter Tryd.func77, Tryd.ntmps77
    go_wp2_with (first | (at_builtin; (refine wpList_append_allM (by rfl) _ _ _ (by rfl) w.heap.size 93 i0 _ 2 16 prs_underM hi0 hz0 hz1 hz2 rfl (by omega) _ 0 [] (by rfl) HO.out (some ad) ps.length cp (pairCells ps) (by rfl) (fun h => by cases h) (pairCells_length _) HW.out (pairCells_oneM _) (by omega) (by omega) (by simp) ?_); intro v' w1 hown1 hgrow hnl))
    go_ret
    refine ⟨_, rfl, ?_, Below.grown (below_allocM _ _) hgrow (by simp) (by intro k hk; simp [Value.ownBlock] at hk; omega)⟩
    rw [Nat.zero_add, List.nil_append] at hown1
    exact hown1
end Go.Proofs.YtcphajjonecmbaaDoor

namespace Go.Proofs.YtcphajjonecmbaaDoor

open Go.RowKit

set_option maxRecDepth 100000 in
set_option maxHeartbeats 1000000 in
theorem chg2 {w : World} {B : Nat} {v : Value} {ps : PL} (key val hi : Int) (h : w.ownsRow B 93 2 v ps.length (pairCells ps)) (hs : Srt ps) (hby : (ps.length + 1) * 16 ≤ 140737488355328) (hB : B ≤ w.heap.size) :
    Calls Tryd.prog 86 #[v, .agg #[.int .i64 2, .int .i64 key, .int .i64 val, .int .i64 hi]] w (InsP w B v (stepL ps ⟨2, key, val, hi⟩)) := by
  obtain ⟨base, cap, g, rfl, hgB, hnilb, hp⟩ := pairs_of_owns h (by unfold maxLen; omega)
  have HO : Hid (World.ownsRow _ _ _ _ _ _ _) := h
  have HP : Hid (PairsAt _ _ _ _ _) := hp
  have HU : Hid ((ps.length + 1) * 16 ≤ 140737488355328 ∧ B ≤ w.heap.size) := ⟨hby, hB⟩
  have HG : Hid _ := getK_pos key hs
  have HPUT : Hid _ := putL_pos key val hs
  have HDEL : Hid _ := delL_pos key hs
  have hhk := hasK_some key ps
  have hpl := posL_le key ps
  have PLC : Hid (∀ W, PairsAt W base g 0 ps → Calls Tryd.prog 104 #[.slice base ps.length cap, .int .i64 key] W fun e w' => e = .returned (.tuple #[.int .i64 (posL key ps : Nat), .bool (getK key ps).isSome]) ∧ Below W.heap.size W w') := fun W hW => place_any base g 0 cap ps key W hW hs
  clear h hs hp hby hB hnilb hgB
  cases hg : getK key ps with
  | some v =>
    rw [hg] at PLC hhk
    have hlt : posL key ps < ps.length ∧ keyAt ps (posL key ps) = key := by
      have e := HG.out
      rw [hg] at e
      split at e
      · rename_i hq; exact hq
      · cases e
    simp only [Option.isSome_some, if_true] at hhk
    have EL : Hid (stepL ps ⟨2, key, val, hi⟩ = ps.take (posL key ps) ++ (key, val) :: ps.drop (posL key ps + 1)) := by
      show stepL ps ⟨2, key, val, hi⟩ = _
      have : stepL ps ⟨2, key, val, hi⟩ = putL key val ps := by simp [stepL]
      rw [this, HPUT.out, hhk]
    clear HG hg HPUT HDEL hhk
    obtain ⟨hlt, hke⟩ := hlt
    obtain ⟨m, hm⟩ : ∃ m, m = posL key ps := ⟨_, rfl⟩
    rw [← hm] at PLC hpl EL hlt hke
    clear hm
    have m0 : (0 : Int) ≤ (m : Int) := Int.natCast_nonneg _
    have m1 : (m : Int) < (ps.length : Int) := by omega
    have HKE : Hid _ := hke
    clear hke
    obtain rfl : base = some ⟨g, 0, none⟩ := HP.out.base (by omega)
    go_enter Tryd.func86, Tryd.ntmps86
    go_wp2_with fail
    refine (PLC.out _ (HP.out.below (below_allocM _ _))).mono ?_
    rintro e w1 ⟨rfl, hb1⟩
    have HB1 : Hid (Below w.heap.size w w1) := (below_allocM _ _).trans (hb1.mono (by simp))
    have z1 : w.heap.size < w1.heap.size := by have := hb1.size; simp at this; omega
    have a0 : w1.cell? ⟨w.heap.size, 0, none⟩ = some (.int .i64 2) := (hb1.cell (p := ⟨w.heap.size, 0, none⟩) (by simp)).trans (cell_newM w _ _ 0)
    have a1 : w1.cell? ⟨w.heap.size, 1, none⟩ = some (.int .i64 key) := (hb1.cell (p := ⟨w.heap.size, 1, none⟩) (by simp)).trans (cell_newM w _ _ 1)
    have a2 : w1.cell? ⟨w.heap.size, 2, none⟩ = some (.int .i64 val) := (hb1.cell (p := ⟨w.heap.size, 2, none⟩) (by simp)).trans (cell_newM w _ _ 2)
    have a3 : w1.cell? ⟨w.heap.size, 3, none⟩ = some (.int .i64 hi) := (hb1.cell (p := ⟨w.heap.size, 3, none⟩) (by simp)).trans (cell_newM w _ _ 3)
    have O1 : Hid (World.ownsRow _ _ _ _ _ _ _) := owns_belowM HO.out HB1.out
    clear hb1
    obtain ⟨g', cap', hv', _, hgl, _, _, hcs, hfz⟩ := owns_someM O1.out (by omega)
    cases hv'
    have d1 : w1.cell? ⟨g, m * 2 + 1, none⟩ = some (.int .i64 (valAt ps m)) := by rw [hcs _ (by omega)]; exact (pairCells_get ps m hlt).2
    have f1 : w1.frozen? ⟨g, m * 2 + 1, none⟩ = false := hfz _
    have R : Hid (InsP w B (.slice (some ⟨g, 0, none⟩) ps.length cap) (stepL ps ⟨2, key, val, hi⟩) (.returned (.slice (some ⟨g, 0, none⟩) ps.length cap)) (w1.setCell ⟨g, m * 2 + 1, none⟩ (.int .i64 val))) := by
      have hl : (ps.take m ++ (key, val) :: ps.drop (m + 1)).length = ps.length := by simp; omega
      refine ⟨_, rfl, ?_, grown_trans (grown_of_below HB1.out) grown_setCell, fun k hk => Or.inl hk⟩
      rw [EL.out, hl]
      have q := owns_putM O1.out (m * 2 + 1) (.int .i64 val)
      rw [set_pair ps m val hlt, HKE.out] at q
      exact q
    clear hcs hfz
    go_wp2_with fail
    go_ret
    exact R.out
  | none =>
    rw [hg] at PLC hhk
    simp only [Option.isSome_none, Bool.false_eq_true, if_false] at hhk
    have EL : Hid (stepL ps ⟨2, key, val, hi⟩ = ps.take (posL key ps) ++ (key, val) :: ps.drop (posL key ps)) := by
      show stepL ps ⟨2, key, val, hi⟩ = _
      have : stepL ps ⟨2, key, val, hi⟩ = putL key val ps := by simp [stepL]
      rw [this, HPUT.out, hhk, Nat.add_zero]
    clear HG hg HPUT HDEL hhk
    obtain ⟨m, hm⟩ : ∃ m, m = posL key ps := ⟨_, rfl⟩
    rw [← hm] at PLC hpl EL
    clear hm
    go_enter Tryd.func86, Tryd.ntmps86
    go_wp2_with fail
    refine (PLC.out _ (HP.out.below (below_allocM _ _))).mono ?_
    rintro e w1 ⟨rfl, hb1⟩
    have HB1 : Hid (Below w.heap.size w w1) := (below_allocM _ _).trans (hb1.mono (by simp))
    have z1 : w.heap.size < w1.heap.size := by have := hb1.size; simp at this; omega
    have a0 : w1.cell? ⟨w.heap.size, 0, none⟩ = some (.int .i64 2) := (hb1.cell (p := ⟨w.heap.size, 0, none⟩) (by simp)).trans (cell_newM w _ _ 0)
    have a1 : w1.cell? ⟨w.heap.size, 1, none⟩ = some (.int .i64 key) := (hb1.cell (p := ⟨w.heap.size, 1, none⟩) (by simp)).trans (cell_newM w _ _ 1)
    have a2 : w1.cell? ⟨w.heap.size, 2, none⟩ = some (.int .i64 val) := (hb1.cell (p := ⟨w.heap.size, 2, none⟩) (by simp)).trans (cell_newM w _ _ 2)
    have a3 : w1.cell? ⟨w.heap.size, 3, none⟩ = some (.int .i64 hi) := (hb1.cell (p := ⟨w.heap.size, 3, none⟩) (by simp)).trans (cell_newM w _ _ 3)
    have O1 : Hid (World.ownsRow _ _ _ _ _ _ _) := owns_belowM HO.out HB1.out
    clear hb1
    have INS : Hid (Calls _ _ _ _ _) := insert_any m key val (owns_belowM O1.out (below_allocM w1 (.cells #[.int .i64 key, .int .i64 val] 93))) hpl (heap_alloc_at _ _ _ rfl) (fun e => by have := (owns_ltM O1.out _ e).2; omega) HU.out.1 (by simp; have := HU.out.2; omega)
    go_wp2_with fail
    refine INS.out.mono ?_
    rintro e w2 ⟨v', rfl, ho, hgr, hbk⟩
    have HR : Hid (InsP w B (.slice base ps.length cap) (ps.take m ++ (key, val) :: ps.drop m) (.returned v') w2) := ⟨v', rfl, ho, grown_trans (grown_of_below (HB1.out.alloc (by omega) _)) hgr, fun k hk => (hbk k hk).imp id (fun q => by simp at q; omega)⟩
    clear ho hgr hbk
    go_wp2_with fail
    go_ret
    rw [EL.out]
    exact HR.out

set_option maxRecDepth 100000 in
set_option maxHeartbeats 1000000 in
theorem chg3 {w : World} {B : Nat} {v : Value} {ps : PL} (key val hi : Int) (h : w.ownsRow B 93 2 v ps.length (pairCells ps)) (hs : Srt ps) (hby : (ps.length + 1) * 16 ≤ 140737488355328) (hB : B ≤ w.heap.size) :
    Calls Tryd.prog 86 #[v, .agg #[.int .i64 3, .int .i64 key, .int .i64 val, .int .i64 hi]] w (InsP w B v (stepL ps ⟨3, key, val, hi⟩)) := by
  obtain ⟨base, cap, g, rfl, hgB, hnilb, hp⟩ := pairs_of_owns h (by unfold maxLen; omega)
  have HO : Hid (World.ownsRow _ _ _ _ _ _ _) := h
  have HP : Hid (PairsAt _ _ _ _ _) := hp
  have HU : Hid ((ps.length + 1) * 16 ≤ 140737488355328 ∧ B ≤ w.heap.size) := ⟨hby, hB⟩
  have HG : Hid _ := getK_pos key hs
  have HPUT : Hid _ := putL_pos key val hs
  have HDEL : Hid _ := delL_pos key hs
  have hhk := hasK_some key ps
  have hpl := posL_le key ps
  have PLC : Hid (∀ W, PairsAt W base g 0 ps → Calls Tryd.prog 104 #[.slice base ps.length cap, .int .i64 key] W fun e w' => e = .returned (.tuple #[.int .i64 (posL key ps : Nat), .bool (getK key ps).isSome]) ∧ Below W.heap.size W w') := fun W hW => place_any base g 0 cap ps key W hW hs
  clear h hs hp hby hB hnilb hgB
  cases hg : getK key ps with
  | some v =>
    rw [hg] at PLC
    have EL : Hid (stepL ps ⟨3, key, val, hi⟩ = ps) := by show stepL ps ⟨3, key, val, hi⟩ = ps; simp [stepL, hg]
    clear HG hg HPUT HDEL hhk
    go_enter Tryd.func86, Tryd.ntmps86
    go_wp2_with fail
    refine (PLC.out _ (HP.out.below (below_allocM _ _))).mono ?_
    rintro e w1 ⟨rfl, hb1⟩
    have HB1 : Hid (Below w.heap.size w w1) := (below_allocM _ _).trans (hb1.mono (by simp))
    have z1 : w.heap.size < w1.heap.size := by have := hb1.size; simp at this; omega
    have a0 : w1.cell? ⟨w.heap.size, 0, none⟩ = some (.int .i64 3) := (hb1.cell (p := ⟨w.heap.size, 0, none⟩) (by simp)).trans (cell_newM w _ _ 0)
    have a1 : w1.cell? ⟨w.heap.size, 1, none⟩ = some (.int .i64 key) := (hb1.cell (p := ⟨w.heap.size, 1, none⟩) (by simp)).trans (cell_newM w _ _ 1)
    have a2 : w1.cell? ⟨w.heap.size, 2, none⟩ = some (.int .i64 val) := (hb1.cell (p := ⟨w.heap.size, 2, none⟩) (by simp)).trans (cell_newM w _ _ 2)
    have a3 : w1.cell? ⟨w.heap.size, 3, none⟩ = some (.int .i64 hi) := (hb1.cell (p := ⟨w.heap.size, 3, none⟩) (by simp)).trans (cell_newM w _ _ 3)
    have O1 : Hid (World.ownsRow _ _ _ _ _ _ _) := owns_belowM HO.out HB1.out
    clear hb1
    go_wp2_with fail
    go_ret
    exact ⟨_, rfl, by rw [EL.out]; exact O1.out, grown_of_below HB1.out, fun k hk => Or.inl hk⟩
  | none =>
    rw [hg] at PLC hhk
    simp only [Option.isSome_none, Bool.false_eq_true, if_false] at hhk
    have EL : Hid (stepL ps ⟨3, key, val, hi⟩ = ps.take (posL key ps) ++ (key, val) :: ps.drop (posL key ps)) := by
      show stepL ps ⟨3, key, val, hi⟩ = _
      have : stepL ps ⟨3, key, val, hi⟩ = putL key val ps := by simp [stepL, hg]
      rw [this, HPUT.out, hhk, Nat.add_zero]
    clear HG hg HPUT HDEL hhk
    obtain ⟨m, hm⟩ : ∃ m, m = posL key ps := ⟨_, rfl⟩
    rw [← hm] at PLC hpl EL
    clear hm
    go_enter Tryd.func86, Tryd.ntmps86
    go_wp2_with fail
    refine (PLC.out _ (HP.out.below (below_allocM _ _))).mono ?_
    rintro e w1 ⟨rfl, hb1⟩
    have HB1 : Hid (Below w.heap.size w w1) := (below_allocM _ _).trans (hb1.mono (by simp))
    have z1 : w.heap.size < w1.heap.size := by have := hb1.size; simp at this; omega
    have a0 : w1.cell? ⟨w.heap.size, 0, none⟩ = some (.int .i64 3) := (hb1.cell (p := ⟨w.heap.size, 0, none⟩) (by simp)).trans (cell_newM w _ _ 0)
    have a1 : w1.cell? ⟨w.heap.size, 1, none⟩ = some (.int .i64 key) := (hb1.cell (p := ⟨w.heap.size, 1, none⟩) (by simp)).trans (cell_newM w _ _ 1)
    have a2 : w1.cell? ⟨w.heap.size, 2, none⟩ = some (.int .i64 val) := (hb1.cell (p := ⟨w.heap.size, 2, none⟩) (by simp)).trans (cell_newM w _ _ 2)
    have a3 : w1.cell? ⟨w.heap.size, 3, none⟩ = some (.int .i64 hi) := (hb1.cell (p := ⟨w.heap.size, 3, none⟩) (by simp)).trans (cell_newM w _ _ 3)
    have O1 : Hid (World.ownsRow _ _ _ _ _ _ _) := owns_belowM HO.out HB1.out
    clear hb1
    have INS : Hid (Calls _ _ _ _ _) := insert_any m key val (owns_belowM O1.out (below_allocM w1 (.cells #[.int .i64 key, .int .i64 val] 93))) hpl (heap_alloc_at _ _ _ rfl) (fun e => by have := (owns_ltM O1.out _ e).2; omega) HU.out.1 (by simp; have := HU.out.2; omega)
    go_wp2_with fail
    refine INS.out.mono ?_
    rintro e w2 ⟨v', rfl, ho, hgr, hbk⟩
    have HR : Hid (InsP w B (.slice base ps.length cap) (ps.take m ++ (key, val) :: ps.drop m) (.returned v') w2) := ⟨v', rfl, ho, grown_trans (grown_of_below (HB1.out.alloc (by omega) _)) hgr, fun k hk => (hbk k hk).imp id (fun q => by simp at q; omega)⟩
    clear ho hgr hbk
    go_wp2_with fail
    go_ret
    rw [EL.out]
    exact HR.out

set_option maxRecDepth 100000 in
set_option maxHeartbeats 1000000 in
theorem chg4 {w : World} {B : Nat} {v : Value} {ps : PL} (key val hi : Int) (h : w.ownsRow B 93 2 v ps.length (pairCells ps)) (hs : Srt ps) (hby : (ps.length + 1) * 16 ≤ 140737488355328) (hB : B ≤ w.heap.size) :
    Calls Tryd.prog 86 #[v, .agg #[.int .i64 4, .int .i64 key, .int .i64 val, .int .i64 hi]] w (InsP w B v (stepL ps ⟨4, key, val, hi⟩)) := by
  obtain ⟨base, cap, g, rfl, hgB, hnilb, hp⟩ := pairs_of_owns h (by unfold maxLen; omega)
  have HO : Hid (World.ownsRow _ _ _ _ _ _ _) := h
  have HP : Hid (PairsAt _ _ _ _ _) := hp
  have HU : Hid ((ps.length + 1) * 16 ≤ 140737488355328 ∧ B ≤ w.heap.size) := ⟨hby, hB⟩
  have HG : Hid _ := getK_pos key hs
  have HPUT : Hid _ := putL_pos key val hs
  have HDEL : Hid _ := delL_pos key hs
  have hhk := hasK_some key ps
  have hpl := posL_le key ps
  have PLC : Hid (∀ W, PairsAt W base g 0 ps → Calls Tryd.prog 104 #[.slice base ps.length cap, .int .i64 key] W fun e w' => e = .returned (.tuple #[.int .i64 (posL key ps : Nat), .bool (getK key ps).isSome]) ∧ Below W.heap.size W w') := fun W hW => place_any base g 0 cap ps key W hW hs
  clear h hs hp hby hB hnilb hgB
  cases hg : getK key ps with
  | some v =>
    rw [hg] at PLC hhk
    have hlt : posL key ps < ps.length ∧ keyAt ps (posL key ps) = key := by
      have e := HG.out
      rw [hg] at e
      split at e
      · rename_i hq; exact hq
      · cases e
    simp only [Option.isSome_some, if_true] at hhk
    have EL : Hid (stepL ps ⟨4, key, val, hi⟩ = ps.take (posL key ps) ++ ps.drop (posL key ps + 1)) := by
      show stepL ps ⟨4, key, val, hi⟩ = _
      have : stepL ps ⟨4, key, val, hi⟩ = delL key ps := by simp [stepL]
      rw [this, HDEL.out, hhk]
    clear HG hg HPUT HDEL hhk
    obtain ⟨hlt, _⟩ := hlt
    obtain ⟨m, hm⟩ : ∃ m, m = posL key ps := ⟨_, rfl⟩
    rw [← hm] at PLC hpl EL hlt
    clear hm
    have m1 : (m : Int) < (ps.length : Int) := by omega
    have q13 : IntKind.i64.wrap ((m : Int) + 1) = (m : Int) + 1 := by have := HP.out.len; unfold maxLen at this; rw [IntKind.wrap_i64]; omega
    have q14 : wrap64 ((m : Int) + 1) = (m : Int) + 1 := by have := HP.out.len; unfold maxLen at this; unfold wrap64; omega
    go_enter Tryd.func86, Tryd.ntmps86
    go_wp2_with fail
    refine (PLC.out _ (HP.out.below (below_allocM _ _))).mono ?_
    rintro e w1 ⟨rfl, hb1⟩
    have HB1 : Hid (Below w.heap.size w w1) := (below_allocM _ _).trans (hb1.mono (by simp))
    have z1 : w.heap.size < w1.heap.size := by have := hb1.size; simp at this; omega
    have a0 : w1.cell? ⟨w.heap.size, 0, none⟩ = some (.int .i64 4) := (hb1.cell (p := ⟨w.heap.size, 0, none⟩) (by simp)).trans (cell_newM w _ _ 0)
    have a1 : w1.cell? ⟨w.heap.size, 1, none⟩ = some (.int .i64 key) := (hb1.cell (p := ⟨w.heap.size, 1, none⟩) (by simp)).trans (cell_newM w _ _ 1)
    have a2 : w1.cell? ⟨w.heap.size, 2, none⟩ = some (.int .i64 val) := (hb1.cell (p := ⟨w.heap.size, 2, none⟩) (by simp)).trans (cell_newM w _ _ 2)
    have a3 : w1.cell? ⟨w.heap.size, 3, none⟩ = some (.int .i64 hi) := (hb1.cell (p := ⟨w.heap.size, 3, none⟩) (by simp)).trans (cell_newM w _ _ 3)
    have O1 : Hid (World.ownsRow _ _ _ _ _ _ _) := owns_belowM HO.out HB1.out
    clear hb1
    have DEL : Hid (Calls _ _ _ _ _) := delete_any O1.out hlt
    go_wp2_with fail
    refine DEL.out.mono ?_
    rintro e w2 ⟨v', rfl, ho, hgr, hbk⟩
    have HR : Hid (InsP w B (.slice base ps.length cap) (ps.take m ++ ps.drop (m + 1)) (.returned v') w2) := ⟨v', rfl, ho, grown_trans (grown_of_below HB1.out) hgr, fun k hk => Or.inl (hbk ▸ hk)⟩
    clear ho hgr hbk
    go_wp2_with fail
    go_ret
    rw [EL.out]
    exact HR.out
  | none =>
    rw [hg] at PLC hhk
    simp only [Option.isSome_none, Bool.false_eq_true, if_false] at hhk
    have EL : Hid (stepL ps ⟨4, key, val, hi⟩ = ps) := by
      show stepL ps ⟨4, key, val, hi⟩ = ps
      have : stepL ps ⟨4, key, val, hi⟩ = delL key ps := by simp [stepL]
      rw [this, HDEL.out, hhk, Nat.add_zero, List.take_append_drop]
    clear HG hg HPUT HDEL hhk
    go_enter Tryd.func86, Tryd.ntmps86
    go_wp2_with fail
    refine (PLC.out _ (HP.out.below (below_allocM _ _))).mono ?_
    rintro e w1 ⟨rfl, hb1⟩
    have HB1 : Hid (Below w.heap.size w w1) := (below_allocM _ _).trans (hb1.mono (by simp))
    have z1 : w.heap.size < w1.heap.size := by have := hb1.size; simp at this; omega
    have a0 : w1.cell? ⟨w.heap.size, 0, none⟩ = some (.int .i64 4) := (hb1.cell (p := ⟨w.heap.size, 0, none⟩) (by simp)).trans (cell_newM w _ _ 0)
    have a1 : w1.cell? ⟨w.heap.size, 1, none⟩ = some (.int .i64 key) := (hb1.cell (p := ⟨w.heap.size, 1, none⟩) (by simp)).trans (cell_newM w _ _ 1)
    have a2 : w1.cell? ⟨w.heap.size, 2, none⟩ = some (.int .i64 val) := (hb1.cell (p := ⟨w.heap.size, 2, none⟩) (by simp)).trans (cell_newM w _ _ 2)
    have a3 : w1.cell? ⟨w.heap.size, 3, none⟩ = some (.int .i64 hi) := (hb1.cell (p := ⟨w.heap.size, 3, none⟩) (by simp)).trans (cell_newM w _ _ 3)
    have O1 : Hid (World.ownsRow _ _ _ _ _ _ _) := owns_belowM HO.out HB1.out
    clear hb1
    go_wp2_with fail
    go_ret
    exact ⟨_, rfl, by rw [EL.out]; exact O1.out, grown_of_below HB1.out, fun k hk => Or.inl hk⟩

set_option maxRecDepth 100000 in
set_option maxHeartbeats 1000000 in
theorem chgO {w : World} {B : Nat} {v : Value} {ps : PL} (kind key val hi : Int) (h : w.ownsRow B 93 2 v ps.length (pairCells ps)) (hs : Srt ps) (hby : (ps.length + 1) * 16 ≤ 140737488355328) (hB : B ≤ w.heap.size) (hk : ¬ (2 ≤ kind ∧ kind ≤ 4)) :
    Calls Tryd.prog 86 #[v, .agg #[.int .i64 kind, .int .i64 key, .int .i64 val, .int .i64 hi]] w (InsP w B v (stepL ps ⟨kind, key, val, hi⟩)) := by
  obtain ⟨base, cap, g, rfl, hgB, hnilb, hp⟩ := pairs_of_owns h (by unfold maxLen; omega)
  have HO : Hid (World.ownsRow _ _ _ _ _ _ _) := h
  have HP : Hid (PairsAt _ _ _ _ _) := hp
  have HU : Hid ((ps.length + 1) * 16 ≤ 140737488355328 ∧ B ≤ w.heap.size) := ⟨hby, hB⟩
  have HG : Hid _ := getK_pos key hs
  have HPUT : Hid _ := putL_pos key val hs
  have HDEL : Hid _ := delL_pos key hs
  have hhk := hasK_some key ps
  have hpl := posL_le key ps
  have PLC : Hid (∀ W, PairsAt W base g 0 ps → Calls Tryd.prog 104 #[.slice base ps.length cap, .int .i64 key] W fun e w' => e = .returned (.tuple #[.int .i64 (posL key ps : Nat), .bool (getK key ps).isSome]) ∧ Below W.heap.size W w') := fun W hW => place_any base g 0 cap ps key W hW hs
  clear h hs hp hby hB hnilb hgB
  have EL : Hid (stepL ps ⟨kind, key, val, hi⟩ = ps) := stepL_same hk
  have k2 : (kind == 2) = false := by simp; omega
  have k3 : (kind == 3) = false := by simp; omega
  have k4 : (kind == 4) = false := by simp; omega
  obtain ⟨q, hq⟩ : ∃ q, q = (getK key ps).isSome := ⟨_, rfl⟩
  rw [← hq] at PLC
  clear HG hq HPUT HDEL hhk hk
  go_enter Tryd.func86, Tryd.ntmps86
  go_wp2_with fail
  refine (PLC.out _ (HP.out.below (below_allocM _ _))).mono ?_
  rintro e w1 ⟨rfl, hb1⟩
  have HB1 : Hid (Below w.heap.size w w1) := (below_allocM _ _).trans (hb1.mono (by simp))
  have z1 : w.heap.size < w1.heap.size := by have := hb1.size; simp at this; omega
  have a0 : w1.cell? ⟨w.heap.size, 0, none⟩ = some (.int .i64 kind) := (hb1.cell (p := ⟨w.heap.size, 0, none⟩) (by simp)).trans (cell_newM w _ _ 0)
  have a1 : w1.cell? ⟨w.heap.size, 1, none⟩ = some (.int .i64 key) := (hb1.cell (p := ⟨w.heap.size, 1, none⟩) (by simp)).trans (cell_newM w _ _ 1)
  have a2 : w1.cell? ⟨w.heap.size, 2, none⟩ = some (.int .i64 val) := (hb1.cell (p := ⟨w.heap.size, 2, none⟩) (by simp)).trans (cell_newM w _ _ 2)
  have a3 : w1.cell? ⟨w.heap.size, 3, none⟩ = some (.int .i64 hi) := (hb1.cell (p := ⟨w.heap.size, 3, none⟩) (by simp)).trans (cell_newM w _ _ 3)
  have O1 : Hid (World.ownsRow _ _ _ _ _ _ _) := owns_belowM HO.out HB1.out
  clear hb1
  go_wp2_with fail
  go_ret
  exact ⟨_, rfl, by rw [EL.out]; exact O1.out, grown_of_below HB1.out, fun k hk => Or.inl hk⟩

theorem chg_any {w : World} {B : Nat} {v : Value} {ps : PL} (op : OpD) (h : w.ownsRow B 93 2 v ps.length (pairCells ps)) (hs : Srt ps) (hby : (ps.length + 1) * 16 ≤ 140737488355328) (hB : B ≤ w.heap.size) :
    Calls Tryd.prog 86 #[v, .agg #[.int .i64 op.kind, .int .i64 op.key, .int .i64 op.val, .int .i64 op.hi]] w (InsP w B v (stepL ps op)) := by
  obtain ⟨kind, key, val, hi⟩ := op
  by_cases hk : 2 ≤ kind ∧ kind ≤ 4
  · have hc : kind = 2 ∨ kind = 3 ∨ kind = 4 := by omega
    rcases hc with rfl | rfl | rfl
    · exact chg2 key val hi h hs hby hB
    · exact chg3 key val hi h hs hby hB
    · exact chg4 key val hi h hs hby hB
  · exact chgO kind key val hi h hs hby hB hk
end Go.Proofs.YtcphajjonecmbaaDoor

namespace Go.Proofs.YtcphajjonecmbaaDoor

open Go.RowKit

set_option maxRecDepth 100000 in
set_option maxHeartbeats 1000000 in
theorem equal_any (ba bb : Option Addr) (ga oa ca gb ob cb : Nat) (a b : PL) (w : World) (ha : PairsAt w ba ga oa a) (hb : PairsAt w bb gb ob b) :
    Calls Tryd.prog 131 #[.slice ba a.length ca, .slice bb b.length cb] w fun e w' => e = .returned (.bool (plEqM a b)) ∧ Below w.heap.size w w' := by
  have la := ha.len
  have lb := hb.len
  unfold maxLen at la lb
  have HA : Hid _ := ha
  have HB : Hid _ := hb
  clear ha hb
  have hpn := pair_neqM
  by_cases hl : a.length = b.length
  · have hd : ((a.length : Int) != (b.length : Int)) = false := by simp [hl]
    have HL : Hid _ := hl
    clear hl
    go_enter Tryd.func131, Tryd.ntmps131
    go_wp2_with fail
    go_loopw [13] (fun i wr => ∃ j : Nat, j ≤ a.length ∧ i = .int .i64 j ∧ (∀ k, k < j → keyAt a k = keyAt b k ∧ valAt a k = valAt b k) ∧ Below w.heap.size w wr) (fun i _ => a.length - (intOf i).toNat)
    case atStart => exact ⟨0, Nat.zero_le _, rfl, fun k hk => by omega, Below.refl _ _⟩
    case round =>
      obtain ⟨j, hj, rfl, hall, hbw⟩ := hrel
      have HAL : Hid _ := hall
      clear hall
      by_cases hlt : j < a.length
      · have hlb : j < b.length := by have := HL.out; omega
        obtain rfl : ba = some ⟨ga, oa, none⟩ := HA.out.base (by omega)
        obtain rfl : bb = some ⟨gb, ob, none⟩ := HB.out.base (by omega)
        obtain ⟨c0, c1⟩ := (HA.out.below hbw).cells j hlt
        obtain ⟨c2, c3⟩ := (HB.out.below hbw).cells j hlb
        have j0 : (0 : Int) ≤ (j : Int) := Int.natCast_nonneg _
        have j1 : (j : Int) < (a.length : Int) := by omega
        have j2 : (j : Int) < (b.length : Int) := by omega
        by_cases hq : keyAt a j = keyAt b j ∧ valAt a j = valAt b j
        · have hx : (decide (keyAt a j = keyAt b j) && decide (valAt a j = valAt b j)) = true := by simp [hq.1, hq.2]
          have HQ : Hid _ := hq
          clear hq
          go_wp2_with fail
          go_quiet (fail)
          go_wp2_with fail
          refine ⟨⟨j + 1, by omega, by go_num, fun k hk => ?_, below_drewN hbw _⟩, by simp [intOf]; omega⟩
          by_cases e : k = j
          · subst e; exact HQ.out
          · exact HAL.out k (by omega)
        · have hx : (decide (keyAt a j = keyAt b j) && decide (valAt a j = valAt b j)) = false := by simp; intro h1 h2; exact hq ⟨h1, h2⟩
          have F : Hid (plEqM a b = false) := by
            show plEqM a b = false
            unfold plEqM
            simp only [decide_eq_false_iff_not]
            intro h
            exact hq (by rw [h]; exact ⟨rfl, rfl⟩)
          clear hq
          go_wp2_with fail
          go_quiet (fail)
          go_wp2_with fail
          go_ret
          exact ⟨by rw [F.out]; rfl, below_drewN hbw _⟩
      · have F : Hid (plEqM a b = true) := by
          show plEqM a b = true
          unfold plEqM
          simp only [decide_eq_true_eq]
          exact pl_ext HL.out (fun i hi => HAL.out i (by omega))
        go_wp2_with fail
        go_ret
        exact ⟨by rw [F.out]; rfl, hbw⟩
  · have hd : ((a.length : Int) != (b.length : Int)) = true := by simp; omega
    have F : Hid (plEqM a b = false) := by
      show plEqM a b = false
      unfold plEqM
      simp only [decide_eq_false_iff_not]
      intro h
      exact hl (by rw [h])
    clear hl
    go_enter Tryd.func131, Tryd.ntmps131
    go_wp2_with fail
    go_ret
    exact ⟨by rw [F.out]; rfl, Below.refl _ _⟩


theorem psame_any (ba bb : Option Addr) (ga oa ca gb ob cb : Nat) (a b : PL) (w : World) (ha : PairsAt w ba ga oa a) (hb : PairsAt w bb gb ob b) :
    Calls Tryd.prog 117 #[.slice ba a.length ca, .slice bb b.length cb] w fun e w' => e = .returned (.bool (plEqM a b)) ∧ Below w.heap.size w w' := by
  have H : Hid (Calls _ _ _ _ _) := equal_any ba bb ga oa ca gb ob cb a b w ha hb
  clear ha hb
  go_enter Tryd.func117, Tryd.ntmps117
  go_wp2_with fail
  refine H.out.mono ?_
  rintro e w1 ⟨rfl, hb⟩
  go_wp2_with fail
  go_ret
  exact ⟨rfl, hb⟩

set_option maxRecDepth 100000 in
set_option maxHeartbeats 1000000 in
theorem psameRet_any (ba bb : Option Addr) (ga oa ca gb ob cb : Nat) (a b : RetD) (w : World) (ha : PairsAt w ba ga oa a.pairs) (hb : PairsAt w bb gb ob b.pairs) :
    Calls Tryd.prog 98 #[.agg #[.bool a.ok, .int .i64 a.key, .int .i64 a.val, .slice ba a.pairs.length ca], .agg #[.bool b.ok, .int .i64 b.key, .int .i64 b.val, .slice bb b.pairs.length cb]] w fun e w' => e = .returned (.bool (retEqM a b)) ∧ Below w.heap.size w w' := by
  have HA : Hid _ := ha
  have HB : Hid _ := hb
  clear ha hb
  obtain ⟨ok, key, val, ps⟩ := a
  obtain ⟨ok', key', val', ps'⟩ := b
  unfold retEqM
  simp only at HA HB ⊢
  by_cases h1 : (ok == ok') = true
  · by_cases h2 : key = key'
    · by_cases h3 : val = val'
      · subst h2 h3
        go_enter Tryd.func98, Tryd.ntmps98
        go_wp2_with fail
        refine (psame_any _ _ ga oa _ gb ob _ ps ps' _ (HA.out.below ((below_allocM _ _).alloc (by simp) _)) (HB.out.below ((below_allocM _ _).alloc (by simp) _))).mono ?_
        rintro e w1 ⟨rfl, hb⟩
        go_wp2_with fail
        go_ret
        exact ⟨by simp [h1], ((below_allocM _ _).alloc (by simp) _).trans (hb.mono (by simp; omega))⟩
      · have h4 : (val == val') = false := by rw [beq_eq_false_iff_ne]; exact h3
        subst h2
        go_enter Tryd.func98, Tryd.ntmps98
        go_wp2_with fail
        go_ret
        exact ⟨by simp [h3], (below_allocM _ _).alloc (by simp) _⟩
    · have h4 : (key == key') = false := by rw [beq_eq_false_iff_ne]; exact h2
      go_enter Tryd.func98, Tryd.ntmps98
      go_wp2_with fail
      go_ret
      exact ⟨by simp [h2], (below_allocM _ _).alloc (by simp) _⟩
  · have h4 : (ok == ok') = false := by simpa using h1
    clear h1
    go_enter Tryd.func98, Tryd.ntmps98
    go_wp2_with fail
    go_ret
    exact ⟨by simp [h4], (below_allocM _ _).alloc (by simp) _⟩

theorem plEq_comm (a b : PL) : plEqM a b = plEqM b a := by unfold plEqM; exact decide_eq_decide.2 ⟨Eq.symm, Eq.symm⟩
theorem retEq_comm (a b : RetD) : retEqM a b = retEqM b a := by
  unfold retEqM
  rw [plEq_comm, show decide (a.key = b.key) = decide (b.key = a.key) from decide_eq_decide.2 ⟨Eq.symm, Eq.symm⟩, show decide (a.val = b.val) = decide (b.val = a.val) from decide_eq_decide.2 ⟨Eq.symm, Eq.symm⟩]
  cases a.ok <;> cases b.ok <;> rfl
theorem runErr_one (ps : PL) (o : OpD) : runErr ps [o] = doErr ps o := by
  unfold runErr doErr kErr
  have : kN [o] [o].length = decide (kdErr o.kind = 0) := by simp [kN, opAt]
  rw [this]
  split
  · unfold kdErr; split <;> simp_all
  · rfl

set_option maxRecDepth 100000 in
set_option maxHeartbeats 1000000 in
theorem refusal_any (base : Option Addr) (b o c : Nat) (ps : PL) (ob : Option Addr) (bo oo co : Nat) (ops : List OpD) (w : World) (h : PairsAt w base b o ps) (hop : OpsAt w ob bo oo ops) :
    Calls Tryd.prog 84 #[.slice base ps.length c, .slice ob ops.length co] w fun e w' => e = .returned (.int .i64 (runErr ps ops)) ∧ Below w.heap.size w w' := by
  have hlo := hop.len
  unfold maxLen at hlo
  have HA : Hid _ := h
  have HOP : Hid _ := hop
  clear h hop
  by_cases hc : ckErr ps = 0
  · have q1 : (ckErr ps != 0) = false := by simp [hc]
    have ER : Hid (runErr ps ops = kErr ops) := by show runErr ps ops = _; unfold runErr; rw [if_pos hc]
    clear hc
    go_enter Tryd.func84, Tryd.ntmps84
    go_wp2_with fail
    refine (pcheck_any base b o c ps _ HA.out).mono ?_
    rintro e w1 ⟨rfl, hb1⟩
    have HB1 : Hid _ := hb1
    clear hb1
    go_wp2_with fail
    go_loopw [16] (fun i wr => ∃ j : Nat, j ≤ ops.length ∧ i = .int .i64 j ∧ kN ops j = true ∧ Below w.heap.size w wr) (fun i _ => ops.length - (intOf i).toNat)
    case atStart => exact ⟨0, Nat.zero_le _, rfl, rfl, HB1.out⟩
    case round =>
      obtain ⟨j, hj, rfl, hkj, hbw⟩ := hrel
      have HKJ : Hid _ := hkj
      have HB : Hid _ := hbw
      have s2 := hbw.size
      clear hkj hbw
      by_cases hlt : j < ops.length
      · obtain rfl : ob = some ⟨bo, oo, none⟩ := HOP.out.base (by omega)
        obtain ⟨c0, c1, c2, c3⟩ := (HOP.out.below HB.out).cells j hlt
        have j0 : (0 : Int) ≤ (j : Int) := Int.natCast_nonneg _
        have j1 : (j : Int) < (ops.length : Int) := by omega
        by_cases hb : kdErr (opAt ops j).kind = 0
        · have q2 : (kdErr (opAt ops j).kind != 0) = false := by simp [hb]
          have N : Hid (kN ops (j + 1) = true) := by show (kN ops j && decide (kdErr (opAt ops j).kind = 0)) = true; rw [HKJ.out, decide_eq_true hb]; rfl
          clear hb
          go_wp2_with fail
          refine (pkind_any _ _).mono ?_
          rintro e w2 ⟨rfl, rfl⟩
          go_wp2_with fail
          exact ⟨⟨j + 1, by omega, by go_num, N.out, HB.out.alloc s2 _⟩, by simp [intOf]; omega⟩
        · have q2 : (kdErr (opAt ops j).kind != 0) = true := by simp [hb]
          have E5 : Hid (kdErr (opAt ops j).kind = kErr ops) := by
            show kdErr (opAt ops j).kind = kErr ops
            unfold kErr
            rw [kN_not hlt hb]
            unfold kdErr at hb ⊢
            split at hb
            · rw [if_pos (by assumption)]; rfl
            · exact absurd rfl hb
          clear hb
          go_wp2_with fail
          refine (pkind_any _ _).mono ?_
          rintro e w2 ⟨rfl, rfl⟩
          go_wp2_with fail
          go_ret
          exact ⟨by rw [ER.out, ← E5.out]; rfl, HB.out.alloc s2 _⟩
      · have E0 : Hid (kErr ops = 0) := by
          show kErr ops = 0
          unfold kErr
          rw [show ops.length = j by omega, HKJ.out]; rfl
        go_wp2_with fail
        go_ret
        exact ⟨by rw [ER.out, E0.out]; rfl, HB.out⟩
  · have hc2 : ckErr ps = 11 := (ckErr_cases ps).resolve_left hc
    have q1 : (ckErr ps != 0) = true := by simp [hc]
    have ER : Hid (ckErr ps = runErr ps ops) := by show ckErr ps = _; unfold runErr; rw [if_neg hc]; exact hc2
    clear hc hc2
    go_enter Tryd.func84, Tryd.ntmps84
    go_wp2_with fail
    refine (pcheck_any base b o c ps _ HA.out).mono ?_
    rintro e w1 ⟨rfl, hb1⟩
    go_wp2_with fail
    go_ret
    exact ⟨by rw [← ER.out]; rfl, hb1⟩
theorem own_of_row {w : World} {B : Nat} {v : Value} {ps : PL} (h : w.ownsRow B 93 2 v ps.length (pairCells ps)) (hl : ps.length ≤ maxLen) : OwnPM w B ps v := by
  obtain ⟨base, cap, g, e, h1, h2, hp⟩ := pairs_of_owns h hl
  exact ⟨base, g, cap, e, h1, hp, fun q => (h2 q).2⟩
theorem ops_one {w : World} {N : Nat} {o : OpD} (hN : N < w.heap.size) (h : w.cell? ⟨N, 0, none⟩ = some (.int .i64 o.kind) ∧ w.cell? ⟨N, 1, none⟩ = some (.int .i64 o.key) ∧ w.cell? ⟨N, 2, none⟩ = some (.int .i64 o.val) ∧ w.cell? ⟨N, 3, none⟩ = some (.int .i64 o.hi)) : OpsAt w (some ⟨N, 0, none⟩) N 0 [o] := by
  refine ⟨fun _ => rfl, fun _ => hN, fun i hi => ?_, by unfold maxLen; simp⟩
  obtain rfl : i = 0 := by simpa using hi
  simpa [opAt] using h
end Go.Proofs.YtcphajjonecmbaaDoor

namespace Go.Proofs.YtcphajjonecmbaaDoor

open Go.RowKit

/-- Is that answer right? -/
def fitB (ps : PL) (o : OpD) (r : RetD) : Bool := if doErr ps o = 0 then retEqM r (doR ps o) else false
theorem OwnPM.pairs {w : World} {B : Nat} {ps : PL} {a : Option Addr} {n c : Nat} (h : OwnPM w B ps (.slice a n c)) : n = ps.length ∧ ∃ g, PairsAt w a g 0 ps := by
  obtain ⟨a', g, cap, e, _, hp, _⟩ := h
  simp only [Value.slice.injEq] at e
  obtain ⟨rfl, rfl, rfl⟩ := e
  exact ⟨rfl, g, hp⟩

end Go.Proofs.YtcphajjonecmbaaDoor



namespace Go.Proofs.YtcphajjonecmbaaDoor

open Go.RowKit
end Go.Proofs.YtcphajjonecmbaaDoor

namespace Go.Proofs.YtcphajjonecmbaaDoor

open Go.RowKit
end Go.Proofs.YtcphajjonecmbaaDoor
