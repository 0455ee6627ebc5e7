/- Layer 6: places and neighbours; the program's between. -/
import Derived.Test.YtjpfgfcggekklaaMG3
namespace Go.Proofs.Ytjpfgfcggekklaa
open Go.RowKit

theorem posL_zero {key : Int} {t : PL} (h : ∀ x ∈ t, ¬ x.1 < key) : posL key t = 0 := by
  unfold posL
  rw [List.length_eq_zero_iff, List.filter_eq_nil_iff]
  intro x hx
  simpa using h x hx
theorem posL_succ (key : Int) : ∀ {ps : PL}, Srt ps → posL (key + 1) ps = posL key ps + hasK key ps
  | [], _ => by simp [posL, hasK, getK]
  | p :: t, h => by
    obtain ⟨h1, h2⟩ := List.pairwise_cons.1 h
    rw [posL_cons _ h, posL_cons _ h]
    by_cases q : p.1 < key
    · rw [if_pos (by omega), if_pos q, hasK_ne (by omega), posL_succ key h2]; omega
    · rw [if_neg q]
      by_cases q2 : p.1 = key
      · rw [if_pos (by omega), hasK_eq q2, posL_zero (fun x hx => by have := h1 x hx; omega)]
      · rw [if_neg (by omega), hasK_ne q2, hasK_none (fun x hx => by have := h1 x hx; omega)]
theorem hasK_some (key : Int) (ps : PL) : hasK key ps = if (getK key ps).isSome then 1 else 0 := by
  unfold hasK
  cases getK key ps <;> rfl
def NilOk (a : Option Addr) (n c : Nat) : Prop := a = none → n = 0 ∧ c = 0
theorem nb_next (ps : PL) (key : Int) (h : Srt ps) : nbN ps 5 key ps.length = pAt ps ((posL (key + 1) ps : Nat) : Int) := by
  rw [nbN_next ps key _ (Nat.le_refl _), List.take_length]
  have e : (ps.filter fun p => decide (key < p.1)) = ps.filter fun p => decide (key + 1 ≤ p.1) := by
    apply List.filter_congr
    intro x _
    by_cases q : key < x.1 <;> simp [q] <;> omega
  rw [e, filter_from (key + 1) h]
  unfold pAt
  have hl := posL_le (key + 1) ps
  by_cases q : posL (key + 1) ps < ps.length
  · rw [if_pos (by omega), List.head?_drop, pair_eta ps _ q]; rfl
  · rw [if_neg (by omega), List.drop_eq_nil_of_le (by omega)]; rfl
theorem nb_back (ps : PL) (key : Int) (h : Srt ps) : nbN ps 6 key ps.length = pAt ps (((posL key ps : Nat) : Int) - 1) := by
  rw [nbN_back ps key _ (Nat.le_refl _), List.take_length, (below_take key h).1]
  unfold pAt
  have hl := posL_le key ps
  rw [List.getLast?_eq_getElem?, List.length_take, Nat.min_eq_left hl]
  by_cases q : posL key ps = 0
  · rw [if_neg (by omega), q]; simp
  · rw [if_pos (by omega), List.getElem?_take, if_pos (by omega), show (((posL key ps : Nat) : Int) - 1).toNat = posL key ps - 1 by omega, pair_eta ps _ (by omega)]
theorem nb_min (ps : PL) (key : Int) : nbN ps 7 key ps.length = pAt ps 0 := by
  rw [law_min]
  unfold pAt
  by_cases q : ps.length = 0
  · rw [if_neg (by omega), List.getElem?_eq_none (by omega)]
  · rw [if_pos (by omega), pair_eta ps 0 (by omega)]; rfl
theorem nb_max (ps : PL) (key : Int) : nbN ps 8 key ps.length = pAt ps ((ps.length : Int) - 1) := by
  rw [law_max]
  unfold pAt
  by_cases q : ps.length = 0
  · rw [if_neg (by omega), List.getElem?_eq_none (by omega)]
  · rw [if_pos (by omega), show ((ps.length : Int) - 1).toNat = ps.length - 1 by omega, pair_eta ps _ (by omega)]
theorem key_sub (ps : PL) (f t i : Nat) (hi : f + i < t) : keyAt ((ps.take t).drop f) i = keyAt ps (f + i) ∧ valAt ((ps.take t).drop f) i = valAt ps (f + i) := by
  simp [keyAt, valAt, List.getD_eq_getElem?_getD, hi]
/-- A piece of the pairs. -/
theorem PairsAt.sub {w : World} {b o : Nat} {ps : PL} {A : Option Addr} (h : PairsAt w (some ⟨b, o, none⟩) b o ps) (f t : Nat) (ht : t ≤ ps.length) (hA : f < t → A = some ⟨b, o + f * 2, none⟩) : PairsAt w A b (o + f * 2) ((ps.take t).drop f) := by
  have hl : ((ps.take t).drop f).length = t - f := by simp; omega
  refine ⟨fun q => hA (by omega), fun q => h.lt (by omega), fun i hi => ?_, ?_⟩
  · obtain ⟨k, v⟩ := key_sub ps f t i (by omega)
    obtain ⟨c0, c1⟩ := h.cells (f + i) (by omega)
    rw [k, v, show o + f * 2 + i * 2 = o + (f + i) * 2 by omega]
    exact ⟨c0, c1⟩
  · have := h.len; omega

set_option maxRecDepth 100000 in
set_option maxHeartbeats 1000000 in
theorem between_any (base : Option Addr) (b o c : Nat) (ps : PL) (lo hi : Int) (w : World) (h : PairsAt w base b o ps) (hs : Srt ps) (hnil : base = none → ps.length = 0 ∧ c = 0) (hcap : ps.length ≤ c) (hcm : c ≤ maxLen) :
    Calls Try.prog 53 #[.slice base ps.length c, .int .i64 lo, .int .i64 hi] w fun e w' => ∃ a o' c', e = .returned (.slice a (inL lo hi ps).length c') ∧ Below w.heap.size w w' ∧ PairsAt w' a b o' (inL lo hi ps) ∧ NilOk a (inL lo hi ps).length c' := by
  unfold maxLen at hcm
  have HA : Hid _ := h
  have HS : Hid _ := hs
  have HNIL : Hid _ := hnil
  clear h hs hnil
  by_cases hlh : hi < lo
  · have E : Hid (inL lo hi ps = []) := by
      show inL lo hi ps = []
      unfold inL
      rw [List.filter_eq_nil_iff]
      intro x _
      simp; omega
    go_enter Try.func53, Try.ntmps53
    go_wp2_with fail
    go_ret
    exact ⟨none, 0, 0, by rw [E.out]; rfl, Below.refl _ _, by rw [E.out]; exact ⟨fun h => absurd rfl h, fun h => absurd rfl h, fun i hi => by simp at hi, by simp⟩, fun _ => ⟨by rw [E.out]; rfl, rfl⟩⟩
  · have P1 : Hid (∀ W, PairsAt W base b o ps → Calls Try.prog 51 #[.slice base ps.length c, .int .i64 lo] W fun e w' => e = .returned (.tuple #[.int .i64 (posL lo ps : Nat), .bool (getK lo ps).isSome]) ∧ Below W.heap.size W w') := fun W hW => place_any base b o c ps lo W hW HS.out
    have P2 : Hid (∀ W, PairsAt W base b o ps → Calls Try.prog 51 #[.slice base ps.length c, .int .i64 hi] W fun e w' => e = .returned (.tuple #[.int .i64 (posL hi ps : Nat), .bool (getK hi ps).isSome]) ∧ Below W.heap.size W w') := fun W hW => place_any base b o c ps hi W hW HS.out
    have f1 := posL_mono (show lo ≤ hi by omega) ps
    have f2 := posL_le (hi + 1) ps
    have f3 := posL_succ hi HS.out
    rw [hasK_some] at f3
    have F4 : Hid (inL lo hi ps = (ps.take (posL (hi + 1) ps)).drop (posL lo ps)) := inL_pos lo hi HS.out
    obtain ⟨f, hf⟩ : ∃ f, f = posL lo ps := ⟨_, rfl⟩
    obtain ⟨t, ht⟩ : ∃ t, t = posL (hi + 1) ps := ⟨_, rfl⟩
    obtain ⟨m, hm⟩ : ∃ m, m = posL hi ps := ⟨_, rfl⟩
    obtain ⟨q, hq⟩ : ∃ q, q = (getK hi ps).isSome := ⟨_, rfl⟩
    obtain ⟨q', hq'⟩ : ∃ q', q' = (getK lo ps).isSome := ⟨_, rfl⟩
    rw [← hf, ← ht] at F4
    rw [← ht, ← hm, ← hq] at f3
    rw [← hf, ← hm] at f1
    rw [← ht] at f2
    rw [← hf, ← hq'] at P1
    rw [← hm, ← hq] at P2
    clear hf ht hm hq hq'
    have HL : Hid ((inL lo hi ps).length = t - f) := by show (inL lo hi ps).length = _; rw [F4.out]; simp; omega
    have t0 : (0 : Int) ≤ (f : Int) := Int.natCast_nonneg _
    have SUBS : Hid (∀ W A, PairsAt W base b o ps → base = some ⟨b, o, none⟩ → (f < t → A = some ⟨b, o + f * 2, none⟩) → PairsAt W A b (o + f * 2) (inL lo hi ps)) := by
      intro W A hW hb hA
      rw [F4.out]
      subst hb
      exact hW.sub f t f2 hA
    have END : Hid (∀ W A C, Below w.heap.size w W → (A = base ∧ c = f ∧ C = 0 ∨ A = base.map (fun x => x.add (f * 2)) ∧ C = c - f) → ∃ a o' c', Ending.returned (.slice A (t - f) C) = .returned (.slice a (inL lo hi ps).length c') ∧ Below w.heap.size w W ∧ PairsAt W a b o' (inL lo hi ps) ∧ NilOk a (inL lo hi ps).length c') := by
      intro W A C hb hA
      have hW := HA.out.below hb
      refine ⟨A, o + f * 2, C, by rw [HL.out], hb, ?_, ?_⟩
      · by_cases hz : f < t
        · have hbs := HA.out.base (by omega)
          refine SUBS.out W A hW hbs (fun _ => ?_)
          rcases hA with ⟨_, h2, _⟩ | ⟨h1, _⟩
          · omega
          · rw [h1, hbs]; simp [addr_add']
        · exact ⟨fun q => absurd (by rw [HL.out]; omega) q, fun q => absurd (by rw [HL.out]; omega) q, fun i hi => by rw [HL.out] at hi; omega, by rw [HL.out]; have := HA.out.len; omega⟩
      · intro hn
        rw [HL.out]
        have hbn : base = none := by
          rcases hA with ⟨h1, _⟩ | ⟨h1, _⟩
          · rw [← h1]; exact hn
          · rw [h1] at hn; simpa using hn
        obtain ⟨z1, z2⟩ := HNIL.out hbn
        rcases hA with ⟨_, _, h3⟩ | ⟨_, h3⟩ <;> omega
    cases q
    · have f3' : t = m := by simpa using f3
      subst f3'
      clear f3
      go_enter Try.func53, Try.ntmps53
      go_wp2_with fail
      refine (P1.out _ HA.out).mono ?_
      rintro e w1 ⟨rfl, hb1⟩
      have HB1 : Hid _ := hb1
      clear hb1
      go_wp2_with fail
      refine (P2.out _ (HA.out.below HB1.out)).mono ?_
      rintro e w2 ⟨rfl, hb2⟩
      have HB2 : Hid (Below w.heap.size w w2) := HB1.out.trans (hb2.mono HB1.out.size)
      clear hb2
      have g1 : (f : Int) ≤ (t : Int) := by omega
      have g2 : (t : Int) ≤ (c : Int) := by omega
      go_wp2_with fail
      all_goals go_ret
      all_goals first
        | exact END.out _ _ _ HB2.out (Or.inr ⟨rfl, rfl⟩)
        | exact END.out _ _ _ HB2.out (Or.inl ⟨rfl, by assumption, rfl⟩)
        | exact END.out _ _ _ HB2.out (Or.inl ⟨rfl, rfl, rfl⟩)
    · have f3' : t = m + 1 := by simpa using f3
      subst f3'
      clear f3
      have g0 : ((m + 1 : Nat) : Int) = (m : Int) + 1 := by omega
      go_enter Try.func53, Try.ntmps53
      go_wp2_with fail
      refine (P1.out _ HA.out).mono ?_
      rintro e w1 ⟨rfl, hb1⟩
      have HB1 : Hid _ := hb1
      clear hb1
      go_wp2_with fail
      refine (P2.out _ (HA.out.below HB1.out)).mono ?_
      rintro e w2 ⟨rfl, hb2⟩
      have HB2 : Hid (Below w.heap.size w w2) := HB1.out.trans (hb2.mono HB1.out.size)
      clear hb2
      have g1 : (f : Int) ≤ (m : Int) + 1 := by omega
      have g2 : (m : Int) + 1 ≤ (c : Int) := by omega
      go_wp2_with fail
      all_goals go_ret
      all_goals first
        | exact END.out _ _ _ HB2.out (Or.inr ⟨rfl, rfl⟩)
        | exact END.out _ _ _ HB2.out (Or.inl ⟨rfl, by assumption, rfl⟩)
        | exact END.out _ _ _ HB2.out (Or.inl ⟨rfl, rfl, rfl⟩)
end Go.Proofs.Ytjpfgfcggekklaa
