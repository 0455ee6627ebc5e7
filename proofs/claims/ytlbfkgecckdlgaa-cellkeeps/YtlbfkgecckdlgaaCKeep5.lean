/- Layer 2: CellKeeps, walked. -/
import Derived.Test.YtlbfkgecckdlgaaCKeep4
import Derived.Test.YtlbfkgecckdlgaaCRound
namespace Go.Proofs.Ytlbfkgecckdlgaa
open Go.RowKit

structure Fr (W w' : World) (a : Option Addr) (g n : Nat) (F : Nat → Int) : Prop where
  nums : NumsAt w' a g 0 n F
  ge : n ≠ 0 → W.heap.size ≤ g
def RefOut (W : World) (n1 n2 n3 : Nat) (F1 F2 F3 : Nat → Int) (E : Int) (e : Ending) (w' : World) : Prop := ∃ a1 c1 g1 a2 c2 g2 a3 c3 g3, e = .returned (.tuple #[.slice a1 n1 c1, .slice a2 n2 c2, .slice a3 n3 c3, .int .i64 E]) ∧ Below W.heap.size W w' ∧ Fr W w' a1 g1 n1 F1 ∧ Fr W w' a2 g2 n2 F2 ∧ Fr W w' a3 g3 n3 F3
def OurOut (W : World) (n1 n2 n3 : Nat) (F1 F2 F3 : Nat → Int) (E : Int) (e : Ending) (w' : World) : Prop := ∃ a1 c1 g1 a2 c2 g2 a3 c3 g3, e = .returned (.tuple #[.slice a1 n1 c1, .slice a2 n2 c2, .slice a3 n3 c3, .int .i64 E]) ∧ Below W.heap.size W w' ∧ (Fr W w' a1 g1 n1 F1 ∧ Fr W w' a2 g2 n2 F2 ∧ Fr W w' a3 g3 n3 F3) ∧ (Spo w' a1 g1 n1 c1 ∧ c1 < n1 + 2 ∧ (a1 ≠ none → W.heap.size ≤ g1)) ∧ (Spo w' a2 g2 n2 c2 ∧ c2 < n2 + 2 ∧ (a2 ≠ none → W.heap.size ≤ g2)) ∧ (Spo w' a3 g3 n3 c3 ∧ (a3 ≠ none → W.heap.size ≤ g3))
theorem Fr.kp {X : Nat → Prop} {W w w' : World} {a : Option Addr} {g n : Nat} {F : Nat → Int} (h : Fr W w a g n F) (hk : Kp X w w') (hX : n ≠ 0 → ¬ X g) : Fr W w' a g n F := ⟨h.1.kp hk hX, h.2⟩
theorem Fr.below {W w w' : World} {a : Option Addr} {g n : Nat} {F : Nat → Int} (h : Fr W w a g n F) (hb : Below w.heap.size w w') : Fr W w' a g n F := ⟨h.1.below hb, h.2⟩
theorem w77_nums {w : World} {g m : Nat} {f : Nat → Int} (h : RowAt w g (m + 2) (w77 f m)) (hm : m + 2 ≤ maxLen) : NumsAt w (some ⟨g, 0, none⟩) g 0 m f :=
  ⟨fun _ => rfl, fun _ => h.lt, fun i hi => by rw [Nat.zero_add, (h.cells i (by omega)).1, w77, if_pos hi], by omega⟩

theorem kp_grown {X : Nat → Prop} {w W W' : World} {row : Option Nat} (h : Kp X w W) (hg : W.grownBy W' row) (hr : ∀ k, row = some k → X k ∨ w.heap.size ≤ k) : Kp X w W' := by
  refine ⟨hg.os.trans h.os, hg.tape.trans h.tape, hg.output.trans h.output, Nat.le_trans h.size hg.size, fun k hk hn => ?_⟩
  rw [hg.block k (Nat.lt_of_lt_of_le hk h.size) (fun e => by rcases hr k e.symm with q | q; exact hn q; omega)]
  exact h.block k hk hn
theorem tz_of {tb B : Nat} {ks : List Int} {w w' : World} (h : TapeAt tb B ks w) (hb : Below w.heap.size w w') : ∃ r, r < w.heap.size ∧ tb ≤ r ∧ TapeZ tb B w'.heap.size r ks w' := by
  obtain ⟨⟨kv, hc, ho⟩, hz, hlt, hs⟩ := h
  have hsz := hb.size
  have ho' : w'.ownsRow B 3 1 kv ks.length (ks.map (Value.int .i64)) := owns_same ho (fun g hg hl => hb.block g hl)
  have htb : tb < w.heap.size := by omega
  have hc' : w'.cell? ⟨tb, 0, none⟩ = some kv := (hb.cell (p := ⟨tb, 0, none⟩) htb).trans hc
  have hz' : w'.frozen? ⟨tb, 0, none⟩ = false := by rw [World.frozen?_of_block (w := w) (w' := w') (a := ⟨tb, 0, none⟩) (hb.block tb htb)]; exact hz
  cases hkv : kv.ownBlock with
  | none => exact ⟨tb, htb, Nat.le_refl _, ⟨kv, hc', ho', fun g hg => by rw [hkv] at hg; cases hg⟩, hz', hlt, by omega, Nat.le_refl _⟩
  | some r => exact ⟨r, owns_lt ho r hkv, by have := owns_ge ho r hkv; omega, ⟨kv, hc', ho', fun g hg => by rw [hkv] at hg; cases hg; exact Or.inl rfl⟩, hz', hlt, by omega, Nat.le_refl _⟩
theorem tape_start {W w : World} (hb : Below (W.heap.size + 1) (W.alloc (.cells #[.slice none 0 0] 114)) w) : TapeAt W.heap.size w.heap.size [] w := by
  have hs := hb.size
  simp at hs
  refine ⟨⟨.slice none 0 0, ?_, World.ownsRow_nil _ _ _ _⟩, ?_, by omega, Nat.le_refl _⟩
  · rw [hb.cell (p := ⟨W.heap.size, 0, none⟩) (by show W.heap.size < W.heap.size + 1; omega)]; simp
  · rw [World.frozen?_of_block (w := W.alloc (.cells #[.slice none 0 0] 114)) (w' := w) (a := ⟨W.heap.size, 0, none⟩) (hb.block W.heap.size (by omega))]; simp

theorem below_of_kp {X : Nat → Prop} {n : Nat} {w0 w w' : World} (hb : Below n w0 w) (hk : Kp X w w') (hX : ∀ k, X k → n ≤ k) (hn : n ≤ w.heap.size) : Below n w0 w' :=
  ⟨hk.os.trans hb.os, hk.tape.trans hb.tape, hk.output.trans hb.output, Nat.le_trans hb.size hk.size, fun k h => (hk.block k (by omega) (fun q => by have := hX k q; omega)).trans (hb.block k h)⟩
theorem one_row {w : World} {B : Nat} {v : Value} {u : Int} (h : w.ownsRow B 3 1 v 1 [.int .i64 u]) : ∃ g c, v = .slice (some ⟨g, 0, none⟩) 1 c ∧ B ≤ g ∧ Spo w (some ⟨g, 0, none⟩) g 1 c := by
  have h' := h
  obtain ⟨_, h⟩ := h
  rcases h with ⟨_, q⟩ | ⟨g, cap, cur, rfl, hg, hh, h1, h2, h3, h4⟩
  · cases q
  · have hr := (row_of_owns (F := fun _ => u) (n := 1) (by simpa using h')).1
    exact ⟨g, cap, rfl, hg, fun q => (by cases q), fun _ => ⟨rfl, hr.lt⟩, hr.any (Nat.le_refl _), fun _ => ⟨B, _, h'⟩⟩

set_option maxRecDepth 100000 in
set_option maxHeartbeats 1000000 in
theorem keeps_core (cb co m ca ab ao n cap : Nat) (x base : Option Addr) (f dk di da db : Nat → Int) (w : World) (hx : NumsAt w x cb co m f) (hxn : x = none → m = 0 ∧ ca = 0) (hm8 : (m + 2) * 8 ≤ 140737488355328) (h : CActs w base ab ao n dk di da db) (hbytes : n * 32 ≤ 140737488355328) (n1 n2 n3 : Nat) (F1 F2 F3 : Nat → Int) (E : Int) (hn1 : n1 ≤ 1000) (hn2 : n2 ≤ 1000) (hn3 : n3 ≤ 1000)
    (hR : ∀ (W : World), NumsAt W x cb co m f → CActs W base ab ao n dk di da db → Calls Try.prog 12 #[.slice x m ca, .slice base n cap] W (RefOut W n1 n2 n3 F1 F2 F3 E))
    (hM : ∀ (W : World) (y b : Option Addr) (d g g' c : Nat), NumsAt W y g' 0 m f → CActs W b g 0 n dk di da db → Calls Try.prog 13 #[.slice y m d, .slice b n c] W (OurOut W n1 n2 n3 F1 F2 F3 E)) :
    Calls Try.prog 4 #[.slice x m ca, .slice base n cap] w fun e w' => e = .returned (.bool true) ∧ Below w.heap.size w w' := by
  obtain ⟨i0, hi0, hz0, hz1, hz2⟩ := info_parts int_info
  have HA : Hid _ := h
  have HR : Hid _ := hR
  have HM : Hid _ := hM
  have HX : Hid _ := hx
  clear hR hM
  have HN : Hid (∀ W : World, Below w.heap.size w W → ∀ ad, x = some ad → ∀ j u, ((List.range m).map fun j => Value.int .i64 (f j))[j]? = some u → (W.alloc (.cells #[] 3)).cell? (ad.add j) = some u) := by
    intro W hW ad hxa j u hu
    have hk := (hx.below hW).below ((Below.refl W.heap.size W).alloc (Nat.le_refl _) (.cells #[] 3))
    have hj : j < m := by
      obtain ⟨q, _⟩ := List.getElem?_eq_some_iff.1 hu
      simpa using q
    have h0 := hk.base (by omega)
    rw [hxa] at h0
    cases h0
    have := hk.cells j hj
    rw [List.getElem?_map, List.getElem?_range hj] at hu
    simp at hu
    rw [← hu]
    unfold Addr.add
    split
    · rename_i q; subst q; simpa using this
    · exact this
  have HO : Hid (∀ W : World, (W.alloc (.cells #[] 3)).ownsRow W.heap.size 3 1 (.slice (some ⟨W.heap.size, 0, none⟩) 0 0) 0 []) := fun W => ⟨rfl, Or.inr ⟨W.heap.size, 0, #[], rfl, Nat.le_refl _, heap_alloc_at _ _ _ rfl, Nat.le_refl _, by unfold maxLen; omega, rfl, rfl⟩⟩
  have hlen := hx.len
  clear h hx
  go_enter Try.func4, Try.ntmps4
  go_wp2_with (first | (go_at_call 11; refine (awake_any _).mono ?_; rintro e w1 ⟨rfl, hb1⟩) | (at_builtin; (refine wpList_append_all (by rfl) _ _ _ (by rfl) w1.heap.size 3 i0 _ 1 8 ints_under hi0 hz0 hz1 hz2 rfl (by omega) _ 0 [] (by rfl) (HO.out w1) x m ca ((List.range m).map fun j => Value.int .i64 (f j)) (by rfl) hxn (by simp) (HN.out w1 hb1) (by simp [Value.oneCell']) (by unfold maxLen; omega) (by omega) (by simp) ?_); intro v1 w2 hown2 hgrow2 hnil2; have hB2 : Below w.heap.size w w2 := below_grown (hb1.alloc hb1.size _) (HO.out w1) hb1.size hgrow2) | (at_builtin; (refine wpList_append_lies _ (by rfl) _ _ _ (by rfl) w1.heap.size 3 i0 _ 1 8 ints_under hi0 hz0 hz1 hz2 rfl (by omega) _ (0 + m) _ (by rfl) (hown2.alloc _) ⟨w2.heap.size, 0, none⟩ 2 2 [.int .i64 77, .int .i64 78] (by rfl) (by rfl) (World.news_of_block (cs := #[.int .i64 77, .int .i64 78]) (t := 3) (fr := (0, 0)) (heap_alloc_at _ _ _ (by simp))) (by simp [Value.oneCell']) (by omega) (by unfold maxLen; omega) (by omega) (by have := hgrow2.size; simp at this; simp; omega) (w2.heap.size + 1) (by simp) ?_); intro gg cap3 w3 hown3 hgrow3 hat3 hlt3; have hB3 : Below w.heap.size w w3 := below_grown (hB2.alloc hB2.size _) (hown2.alloc _) hb1.size hgrow3; rw [Nat.zero_add, List.nil_append, w77_list] at hown3; obtain ⟨hr3, hcap, hgg⟩ := row_of_owns hown3; have hcap' : (m : Int) ≤ (cap3 : Int) := Int.ofNat_le.2 (by omega); have hm0 : (0 : Int) ≤ (m : Int) := Int.natCast_nonneg _))
  refine (to_any ab ao n cap dk di da db _ base (HA.out.below hB3) hbytes).mono ?_
  rintro e w4 ⟨v4, rfl, hb4, ho4⟩
  obtain ⟨b4, c4, g4, rfl, hg4, hn4, ha4⟩ := cacts_of_owns ho4 HA.out.len
  have hB4 : Below w.heap.size w w4 := hB3.trans (hb4.mono hB3.size)
  clear hown2 hgrow2 hnil2 hB2 hown3 hgrow3 hat3 hlt3
  have hl4 := anyA_of_owns ho4 ha4
  clear ho4
  have hlen2 : m + 2 ≤ maxLen := by unfold maxLen; omega
  have hr4 := hr3.below hb4
  have hgl : gg < w3.heap.size := hr3.lt
  have hs34 := hb4.size
  go_wp2_with fail
  refine Calls.mono (HR.out _ (HX.out.below hB4) (HA.out.below hB4)) ?_
  rintro e w5 ⟨a1, c1, g1, a2, c2, g2, a3, c3, g3, rfl, hb5, f1, f2, f3⟩
  have hB5 : Below w.heap.size w w5 := hB4.trans (hb5.mono hB4.size)
  have ha5 := ha4.below hb5
  have hr5 := hr4.below hb5
  go_wp2_with fail
  refine Calls.mono (HM.out _ _ _ _ _ _ _ (w77_nums hr5 hlen2) ha5) ?_
  rintro e w6 ⟨p1, d1, k1, p2, d2, k2', p3, d3, k3, rfl, hb6, _, ⟨s1, r1, l1⟩, ⟨s2, r2, l2⟩, ⟨s3, l3⟩⟩
  have ha6 := ha5.below hb6
  have hr6 := hr5.below hb6
  go_wp2_with fail
  refine Calls.mono (HM.out _ _ _ _ _ _ _ (w77_nums hr6 hlen2) ha6) ?_
  rintro e w7 ⟨t1, e1, h1, t2, e2, h2, t3, e3, h3, rfl, hb7, ⟨v1f, v2f, v3f⟩, _, _, _⟩
  have hB7 : Below w.heap.size w w7 := (hB5.trans (hb6.mono hB5.size)).trans (hb7.mono (Nat.le_trans hB5.size hb6.size))
  have hr7 := hr6.below hb7
  have hs45 := hb5.size
  have hs56 := hb6.size
  have hs67 := hb7.size
  have hb67 : Below w5.heap.size w5 w7 := hb6.trans (hb7.mono hb6.size)
  have fl1 := f1.nums.lt
  have fl2 := f2.nums.lt
  have fl3 := f3.nums.lt
  have q1 : Hid _ := f1.below hb67
  have q2 : Hid _ := f2.below hb67
  have q3 : Hid _ := f3.below hb67
  have U1 : Hid _ := v1f
  have U2 : Hid _ := v2f
  have U3 : Hid _ := v3f
  have kp7 : Kp (fun _ => False) w6 w7 := Kp.of_below hb7
  have S1 : Hid _ := s1.kp kp7 (fun _ h => h)
  have S2 : Hid _ := s2.kp kp7 (fun _ h => h)
  have S3 : Hid _ := s3.kp kp7 (fun _ h => h)
  have lt1 := fun q => (s1.base q).2
  have lt2 := fun q => (s2.base q).2
  have lt3 := fun q => (s3.base q).2
  have hl7 : AnyA w7 b4 g4 n := hl4.kp (X := fun _ => False) (Kp.of_below (hb5.trans (hb67.mono hb5.size))) (fun _ h => h)
  have hl4s : n ≠ 0 → g4 < w4.heap.size := fun hn => (hl4.1 hn).2
  clear hr3 hr4 hr5 hr6 hB5 ha5 ha6 hB3 ha4 f1 f2 f3 v1f v2f v3f s1 s2 s3 hl4 hb67 kp7 hb4 hb5 hb6 hb7 hB4
  go_wp2_with (first | (at_builtin; (refine wpList_append_all (by rfl) _ _ _ (by rfl) w7.heap.size 3 i0 _ 1 8 ints_under hi0 hz0 hz1 hz2 rfl (by omega) _ 0 [] (by rfl) (HO.out w7) x m ca ((List.range m).map fun j => Value.int .i64 (f j)) (by rfl) hxn (by simp) (HN.out w7 hB7) (by simp [Value.oneCell']) (by unfold maxLen; omega) (by omega) (by simp) ?_); intro vA wA hownA hgrowA hnilA; have hBA : Below w7.heap.size w7 wA := below_grown ((Below.refl _ w7).alloc (Nat.le_refl _) _) (HO.out w7) (Nat.le_refl _) hgrowA) | (at_builtin; (refine wpList_append_lies _ (by rfl) _ _ _ (by rfl) w7.heap.size 3 i0 _ 1 8 ints_under hi0 hz0 hz1 hz2 rfl (by omega) _ (0 + m) _ (by rfl) (hownA.alloc _) ⟨wA.heap.size, 0, none⟩ 2 2 [.int .i64 77, .int .i64 78] (by rfl) (by rfl) (World.news_of_block (cs := #[.int .i64 77, .int .i64 78]) (t := 3) (fr := (0, 0)) (heap_alloc_at _ _ _ (by simp))) (by simp [Value.oneCell']) (by omega) (by unfold maxLen; omega) (by omega) (by have := hgrowA.size; simp at this; simp; omega) (wA.heap.size + 1) (by simp) ?_); intro gh cap8 w8 hown8 hgrow8 hat8 hlt8; have hB8 : Below w7.heap.size w7 w8 := below_grown (hBA.alloc hBA.size _) (hownA.alloc _) (Nat.le_refl _) hgrow8; rw [Nat.zero_add, List.nil_append, w77_list] at hown8; obtain ⟨hr8, _, _⟩ := row_of_owns hown8))
  refine (ints_same gg 0 gh 0 (m + 2) _ _ _ _ (w77 f m) _ ((hr7.below hB8).nums hlen2 _ (Nat.le_refl _)) (hr8.nums hlen2 _ (Nat.le_refl _))).mono ?_
  rintro e w9 ⟨rfl, hb9⟩
  have hB9 : Below w7.heap.size w7 w9 := hB8.trans (hb9.mono hB8.size)
  have hs79 := hB9.size
  have kp9 : Kp (fun _ => False) w7 w9 := Kp.of_below hB9
  have hl9 : AnyA w9 b4 g4 n := hl7.kp kp9 (fun _ h => h)
  have hr9 : RowAt w9 gg (m + 2) (w77 f m) := hr7.below hB9
  have hs4 := hB7.size
  have hsw1 := hb1.size
  have KW : Hid (Kp (fun _ => False) w w9) := Kp.of_below (hB7.trans (hB9.mono hB7.size))
  have T1 : Hid _ := S1.out.kp kp9 (fun _ h => h)
  have T2 : Hid _ := S2.out.kp kp9 (fun _ h => h)
  have T3 : Hid _ := S3.out.kp kp9 (fun _ h => h)
  have Q1 : Hid _ := q1.out.below hB9
  have Q2 : Hid _ := q2.out.below hB9
  have Q3 : Hid _ := q3.out.below hB9
  have V1 : Hid _ := U1.out.below hB9
  have V2 : Hid _ := U2.out.below hB9
  have V3 : Hid _ := U3.out.below hB9
  clear hownA hgrowA hnilA hBA hown8 hgrow8 hat8 hlt8 hr8 hB8 hb9 hr7 hl7 S1 S2 S3 q1 q2 q3 U1 U2 U3 hB9 hB7 kp9 hb1
  go_wp2_with fail
  go_loopw [75] (fun i wr => ∃ j : Nat, j ≤ m ∧ i = .int .i64 j ∧ AnyI wr gg m ∧ Kp (fun k => k = gg) w9 wr) (fun i _ => m - (intOf i).toNat)
  case atStart => exact ⟨0, Nat.zero_le _, rfl, hr9.any (by omega), Kp.refl _ _⟩
  case round =>
    obtain ⟨j, hj, rfl, hp, hk⟩ := hrel
    by_cases hlt : j < m
    · obtain ⟨⟨u, hc⟩, hz⟩ := hp j hlt
      have j0 : (0 : Int) ≤ (j : Int) := Int.natCast_nonneg _
      have j1 : (j : Int) < (m : Int) := by omega
      go_wp2_with fail
      exact ⟨⟨j + 1, by omega, by go_num, hp.set _ _, hk.setb rfl _ _⟩, by simp [intOf]; omega⟩
    · obtain rfl : m = j := by omega
      have hl10 : AnyA wr b4 g4 n := hl9.kp hk (fun hn e => by have := hg4 hn; omega)
      clear hp hl9 hr9
      go_wp2_with fail
      go_loopw [87] (fun i ws => ∃ j : Nat, j ≤ n ∧ i = .int .i64 j ∧ AnyA ws b4 g4 n ∧ Kp (fun k => k = gg ∨ n ≠ 0 ∧ k = g4) w9 ws) (fun i _ => n - (intOf i).toNat)
      case atStart => exact ⟨0, Nat.zero_le _, rfl, hl10, hk.mono (fun _ h => Or.inl h)⟩
      case round =>
        clear hk hl10
        obtain ⟨j, hj, rfl, hp1, hk1⟩ := hrel
        by_cases hlt : j < n
        · obtain ⟨hb0, hb1⟩ := hp1.1 (by omega)
          subst hb0
          obtain ⟨⟨u0, q0⟩, z0⟩ := hp1.2 (j * 4) (by omega)
          obtain ⟨⟨u1, q1⟩, z1⟩ := hp1.2 (j * 4 + 1) (by omega)
          obtain ⟨⟨u2, q2⟩, z2⟩ := hp1.2 (j * 4 + 2) (by omega)
          obtain ⟨⟨u3, q3⟩, z3⟩ := hp1.2 (j * 4 + 3) (by omega)
          have j0 : (0 : Int) ≤ (j : Int) := Int.natCast_nonneg _
          have j1 : (j : Int) < (n : Int) := by omega
          have hX : g4 = gg ∨ n ≠ 0 ∧ g4 = g4 := Or.inr ⟨by omega, rfl⟩
          go_wp2_with fail
          exact ⟨⟨j + 1, by omega, by go_num, (((hp1.set _ _).set _ _).set _ _).set _ _, (((hk1.setb hX _ _).setb hX _ _).setb hX _ _).setb hX _ _⟩, by simp [intOf]; omega⟩
        · obtain rfl : n = j := by omega
          have k2 : Kp (fun k => k = gg ∨ n ≠ 0 ∧ k = g4 ∨ w5.heap.size ≤ k ∧ k < w6.heap.size) w9 wr := hk1.mono (fun _ h => h.elim Or.inl (fun h => Or.inr (Or.inl h)))
          have z1 : Spo wr p1 k1 n1 d1 := T1.out.kp hk1 (fun q h => by have := l1 q; have := lt1 q; rcases h with h | ⟨hn, h⟩; omega; have := hl4s hn; omega)
          have z2 : Spo wr p2 k2' n2 d2 := T2.out.kp hk1 (fun q h => by have := l2 q; have := lt2 q; rcases h with h | ⟨hn, h⟩; omega; have := hl4s hn; omega)
          have z3 : Spo wr p3 k3 n3 d3 := T3.out.kp hk1 (fun q h => by have := l3 q; have := lt3 q; rcases h with h | ⟨hn, h⟩; omega; have := hl4s hn; omega)
          clear T1 T2 T3 hp1 hk1
          have hsr := k2.size
          have hS0 : Sps (wr.alloc (.cells #[.slice p1 n1 d1, .slice p2 n2 d2, .slice p3 n3 d3] 22)) wr.heap.size w5.heap.size w6.heap.size 0 := by
            intro q _ hq
            have ka : Kp (fun _ => False) wr (wr.alloc (.cells #[.slice p1 n1 d1, .slice p2 n2 d2, .slice p3 n3 d3] 22)) := (Kp.refl _ _).alloc _
            rcases (show q = 0 ∨ q = 1 ∨ q = 2 by omega) with rfl | rfl | rfl
            · exact ⟨p1, k1, n1, d1, by simp, z1.kp ka (fun _ h => h), fun h => by omega, fun h => ⟨l1 h, lt1 h⟩, hn1⟩
            · exact ⟨p2, k2', n2, d2, by simp, z2.kp ka (fun _ h => h), fun h => by omega, fun h => ⟨l2 h, lt2 h⟩, hn2⟩
            · exact ⟨p3, k3, n3, d3, by simp, z3.kp ka (fun _ h => h), fun h => rfl, fun h => ⟨l3 h, lt3 h⟩, hn3⟩
          have K0 : Kp (fun k => k = gg ∨ n ≠ 0 ∧ k = g4 ∨ w5.heap.size ≤ k ∧ k < w6.heap.size) w9 (wr.alloc (.cells #[.slice p1 n1 d1, .slice p2 n2 d2, .slice p3 n3 d3] 22)) := k2.alloc _
          have hL0 : wr.heap.size < (wr.alloc (.cells #[.slice p1 n1 d1, .slice p2 n2 d2, .slice p3 n3 d3] 22)).heap.size := by simp
          have hL6 : w6.heap.size ≤ wr.heap.size := by omega
          clear z1 z2 z3 k2
          go_wp2_with fail
          generalize hLL : wr.heap.size = L at *
          go_loopw [100] (fun i ws => ∃ j : Nat, j ≤ 3 ∧ i = .int .i64 j ∧ Sps ws L w5.heap.size w6.heap.size j ∧ Kp (fun k => k = gg ∨ n ≠ 0 ∧ k = g4 ∨ w5.heap.size ≤ k ∧ k < w6.heap.size) w9 ws ∧ L < ws.heap.size) (fun i _ => 3 - (intOf i).toNat)
          case atStart => exact ⟨0, by omega, rfl, hS0, K0, hL0⟩
          case round =>
            clear hS0 K0 hL0
            obtain ⟨j, hj, rfl, hS, hK, hLs⟩ := hrel
            by_cases hlt : j < 3
            · obtain ⟨a, g, nn, c, e, sp, rr, ll, mm⟩ := hS j (Nat.le_refl _) hlt
              have hS1 := hS.mono (Nat.le_succ j)
              have j0 : (0 : Int) ≤ (j : Int) := Int.natCast_nonneg _
              have j1 : (j : Int) < 3 := by omega
              clear hS
              go_wp2_with fail
              go_loopw [106] (fun i ws => ∃ k : Nat, k ≤ nn ∧ i = .int .i64 k ∧ Spo ws a g nn c ∧ Sps ws L w5.heap.size w6.heap.size (j + 1) ∧ Kp (fun k => k = gg ∨ n ≠ 0 ∧ k = g4 ∨ w5.heap.size ≤ k ∧ k < w6.heap.size) w9 ws ∧ L < ws.heap.size) (fun i _ => nn - (intOf i).toNat)
              case atStart => exact ⟨0, by omega, rfl, sp, hS1, hK, hLs⟩
              case round =>
                clear sp hS1 hK hLs e
                obtain ⟨k, hk, rfl, sp, hS1, hK, hLs⟩ := hrel
                by_cases hlk : k < nn
                · have hne : a ≠ none := fun q => by have := (sp.nn q).1; omega
                  obtain ⟨ea, _⟩ := sp.base hne
                  obtain ⟨hg1, hg2⟩ := ll hne
                  subst ea
                  obtain ⟨⟨u, hc⟩, hz⟩ := sp.any k hlk
                  have k0 : (0 : Int) ≤ (k : Int) := Int.natCast_nonneg _
                  have k1 : (k : Int) < (nn : Int) := by omega
                  go_wp2_with fail
                  exact ⟨⟨k + 1, by omega, by go_num, sp.set _ _ _, hS1.set (by omega) _ _, hK.setb (Or.inr (Or.inr ⟨hg1, hg2⟩)) _ _, by simpa using hLs⟩, by simp [intOf]; omega⟩
                · obtain rfl : nn = k := by omega
                  by_cases hroom : nn + 2 ≤ c
                  · obtain ⟨B, xs, ho⟩ := sp.room hroom
                    have hj2 := rr hroom
                    have hne : a ≠ none := fun q => by have := (sp.nn q).2; omega
                    obtain ⟨ea, hgl2⟩ := sp.base hne
                    obtain ⟨hg1, hg2⟩ := ll hne
                    have hBg := owns_ge ho g (by rw [ea]; rfl)
                    clear sp hS1
                    go_wp2_with (at_builtin; (refine wpList_append_all (by rfl) _ _ _ (by rfl) B 3 i0 _ 1 8 ints_under hi0 hz0 hz1 hz2 rfl (by omega) _ nn xs (by rfl) (ho.alloc _) (some ⟨wr.heap.size, 0, none⟩) 2 2 [.int .i64 (-8), .int .i64 (-8)] (by rfl) (by simp) (by simp) (fun ad h => by cases h; exact World.news_of_block (cs := #[.int .i64 (-8), .int .i64 (-8)]) (t := 3) (fr := (0, 0)) (heap_alloc_at _ _ _ rfl)) (by simp [Value.oneCell']) (by unfold maxLen; omega) (by omega) (by simp; omega) ?_); intro vz wz hownz hgrowz hnilz)
                    refine ⟨⟨j + 1, by omega, by go_num, fun q h1 h2 => by omega, kp_grown (hK.alloc _) hgrowz (fun k hk => ?_), ?_⟩, by simp [intOf]; omega⟩
                    · rw [ea] at hk
                      simp [Value.ownBlock] at hk
                      subst hk
                      exact Or.inl (Or.inr (Or.inr ⟨hg1, hg2⟩))
                    · have := hgrowz.size
                      simp at this
                      omega
                  · obtain ⟨olds, ho1, ho2⟩ := sp.olds (wr.alloc (.cells #[.int .i64 (-8), .int .i64 (-8)] 3)) (fun p hp => ((Below.refl wr.heap.size wr).alloc (Nat.le_refl _) _).cell hp)
                    have hnn := sp.nn
                    clear sp
                    go_wp2_with (at_builtin; (refine wpList_append_grows _ (by rfl) _ _ _ (by rfl) 3 i0 _ 1 8 ints_under hi0 hz0 hz1 hz2 rfl (by omega) a nn c olds (by rfl) hnn ho1 ho2 ⟨wr.heap.size, 0, none⟩ 2 2 [.int .i64 (-8), .int .i64 (-8)] (by rfl) (by simp) (World.news_of_block (cs := #[.int .i64 (-8), .int .i64 (-8)]) (t := 3) (fr := (0, 0)) (heap_alloc_at _ _ _ rfl)) (by simp [Value.oneCell']) (by omega) (by unfold maxLen; omega) (by omega) ?_); intro vz wz hownz hgrowz)
                    have hkz : Kp (fun _ => False) wr wz := kp_grown ((Kp.refl _ wr).alloc _) hgrowz (fun k hk => by cases hk)
                    refine ⟨⟨j + 1, by omega, by go_num, hS1.kp hLs hkz (fun _ h => h), kp_grown (hK.alloc _) hgrowz (fun k hk => by cases hk), ?_⟩, by simp [intOf]; omega⟩
                    have := hkz.size
                    omega
            · obtain rfl : j = 3 := by omega
              clear hS
              go_wp2_with fail
              refine (newTape_any _).mono ?_
              rintro e wT ⟨rfl, rfl⟩
              go_wp2_with fail
              refine (newNum_any _ _).mono ?_
              rintro e wN ⟨rfl, hsN, hbN⟩
              have hbN' : Below (wr.heap.size + 1) (wr.alloc (.cells #[.slice none 0 0] 114)) wN := by simpa using hbN
              have hsN' : NSt wN (wr.heap.size + 1) 1 := by simpa using hsN
              have hNl := hsN'.lt
              have HL : Hid _ := nLoad (gate_tape wr.heap.size wN.heap.size 100000 (Nat.le_refl _)) [] (by simp) (wr.heap.size + 1) 0 1 wN (tape_start hbN') (by unfold TapeX; omega) hsN'.lt hsN'.cell hsN'.fro
              have BN : Hid (Below wr.heap.size wr wN) := ((Below.refl _ wr).alloc (Nat.le_refl _) _).trans (hbN'.mono (by omega))
              clear hbN hsN hbN' hsN'
              go_wp2_with fail
              refine Calls.mono HL.out ?_
              rintro e wL ⟨rfl, htL, hsL⟩
              have htL' : TapeAt wr.heap.size wN.heap.size [1] wL := htL
              have BL : Hid (Below wr.heap.size wr wL) := below_of_kp BN.out hsL.kp (fun k h => by unfold TapeX at h; omega) (by omega)
              have sL := hsL.kp.size
              clear htL hsL HL BN
              go_wp2_with fail
              refine (kinds_any _ _ [1] wL htL' (by simp) (by simp)).mono ?_
              rintro e wK ⟨vK, rfl, hoK, hbK⟩
              obtain ⟨g1', c1', rfl, hgK, spK⟩ := one_row hoK
              have sK := hbK.size
              have ho1 : ∃ xs, wK.ownsRow wL.heap.size 3 1 (.slice (some ⟨g1', 0, none⟩) 1 c1') 1 xs := ⟨_, hoK⟩
              have any1 := spK.any
              clear hoK spK
              go_wp2_with fail
              go_loopw [126] (fun i ws => ∃ k : Nat, k ≤ 1 ∧ i = .int .i64 k ∧ (∃ xs, ws.ownsRow wL.heap.size 3 1 (.slice (some ⟨g1', 0, none⟩) 1 c1') 1 xs) ∧ AnyI ws g1' 1 ∧ Below wL.heap.size wL ws) (fun i _ => 1 - (intOf i).toNat)
              case atStart => exact ⟨0, by omega, rfl, ho1, any1, hbK⟩
              case round =>
                clear ho1 any1 hbK
                obtain ⟨k, hk, rfl, ⟨xs, ho1⟩, any1, hbK⟩ := hrel
                by_cases hlk : k < 1
                · obtain ⟨⟨u, hc⟩, hz⟩ := any1 k hlk
                  have k0 : (0 : Int) ≤ (k : Int) := Int.natCast_nonneg _
                  have k1 : (k : Int) < 1 := by omega
                  go_wp2_with fail
                  exact ⟨⟨k + 1, by omega, by go_num, owns_setCell ho1 _ _ _, any1.set _ _, Below.setCell hbK hgK _⟩, by simp [intOf]; omega⟩
                · obtain rfl : k = 1 := by omega
                  have sK2 := hbK.size
                  go_wp2_with (at_builtin; (refine wpList_append_all (by rfl) _ _ _ (by rfl) wL.heap.size 3 i0 _ 1 8 ints_under hi0 hz0 hz1 hz2 rfl (by omega) _ 1 xs (by rfl) (ho1.alloc _) (some ⟨wr.heap.size, 0, none⟩) 1 1 [.int .i64 98] (by rfl) (by simp) (by simp) (fun ad h => by cases h; exact World.news_of_block (cs := #[.int .i64 98]) (t := 3) (fr := (0, 0)) (heap_alloc_at _ _ _ rfl)) (by simp [Value.oneCell']) (by unfold maxLen; omega) (by omega) (by simp; omega) ?_); intro vz wz hownz hgrowz hnilz)
                  have hbz : Below wL.heap.size wL wz := below_grown (hbK.alloc sK2 _) (ho1.alloc _) (Nat.le_refl _) hgrowz
                  clear hownz hgrowz hnilz ho1 any1 hbK
                  refine (newNum_any _ _).mono ?_
                  rintro e wM ⟨rfl, hsM, hbM⟩
                  have sz := hbz.size
                  have hbM' : Below wL.heap.size wL wM := hbz.trans (hbM.mono sz)
                  obtain ⟨r, hr1, hr2, htz⟩ := tz_of htL' hbM'
                  have hMl := hsM.lt
                  have hTl := htL'.lt
                  have HS : Hid _ := nStore (gate_tapeZ _ _ wM.heap.size r 100 (by omega)) [1] (by simp) wz.heap.size 0 1 5 wM htz (by unfold TX; omega) hsM.lt hsM.cell hsM.fro
                  clear hbM hsM htz hbz
                  have sBL := BL.out.size
                  go_wp2_with fail
                  refine Calls.mono HS.out ?_
                  rintro e wS ⟨rfl, htS, hsS⟩
                  have BS := below_of_kp (BL.out.trans (hbM'.mono sBL)) hsS.kp (fun k h => by unfold TX at h; omega) (by omega)
                  have A1 : Hid _ := ((Q1.out.kp hK (fun hn h => by have := Q1.out.ge hn; have := fl1 hn; rcases h with h | ⟨h0, h⟩ | h; omega; have := hl4s h0; omega; omega)).below BS).nums
                  have A2 : Hid _ := ((Q2.out.kp hK (fun hn h => by have := Q2.out.ge hn; have := fl2 hn; rcases h with h | ⟨h0, h⟩ | h; omega; have := hl4s h0; omega; omega)).below BS).nums
                  have A3 : Hid _ := ((Q3.out.kp hK (fun hn h => by have := Q3.out.ge hn; have := fl3 hn; rcases h with h | ⟨h0, h⟩ | h; omega; have := hl4s h0; omega; omega)).below BS).nums
                  have B1 : Hid _ := ((V1.out.kp hK (fun hn h => by have := V1.out.ge hn; rcases h with h | ⟨h0, h⟩ | h; omega; have := hl4s h0; omega; omega)).below BS).nums
                  have B2 : Hid _ := ((V2.out.kp hK (fun hn h => by have := V2.out.ge hn; rcases h with h | ⟨h0, h⟩ | h; omega; have := hl4s h0; omega; omega)).below BS).nums
                  have B3 : Hid _ := ((V3.out.kp hK (fun hn h => by have := V3.out.ge hn; rcases h with h | ⟨h0, h⟩ | h; omega; have := hl4s h0; omega; omega)).below BS).nums
                  have KK := hK.size
                  have BW : Below w.heap.size w wS := by
                    have kq := hK.trans (Kp.of_below (X := fun k => k = gg ∨ n ≠ 0 ∧ k = g4 ∨ w5.heap.size ≤ k ∧ k < w6.heap.size) BS)
                    refine below_of_kp (X := fun k => k = gg ∨ n ≠ 0 ∧ k = g4 ∨ w5.heap.size ≤ k ∧ k < w6.heap.size) (w := w9) ⟨KW.out.os, KW.out.tape, KW.out.output, KW.out.size, fun k hk => KW.out.block k hk (fun h => h)⟩ kq (fun k h => ?_) (by omega)
                    rcases h with h | ⟨h0, h⟩ | h
                    · omega
                    · have := hg4 h0; omega
                    · omega
                  have TS : Hid _ := htS.at_
                  clear HS htS hsS BS BL hK Q1 Q2 Q3 V1 V2 V3 hbM' KW
                  go_wp2_with fail
                  refine (ints_same h1 0 g1 0 n1 _ _ _ _ F1 _ B1.out A1.out).mono ?_
                  rintro e x1 ⟨rfl, y1⟩
                  have A2' : Hid _ := A2.out.below y1
                  have B2' : Hid _ := B2.out.below y1
                  clear A1 B1 A2 B2
                  go_wp2_with fail
                  refine (ints_same h2 0 g2 0 n2 _ _ _ _ F2 _ B2'.out A2'.out).mono ?_
                  rintro e x2 ⟨rfl, y2⟩
                  have y12 : Below wS.heap.size wS x2 := y1.trans (y2.mono y1.size)
                  have A3' : Hid _ := A3.out.below y12
                  have B3' : Hid _ := B3.out.below y12
                  clear A2' B2' A3 B3 y1 y2
                  go_wp2_with fail
                  refine (ints_same h3 0 g3 0 n3 _ _ _ _ F3 _ B3'.out A3'.out).mono ?_
                  rintro e x3 ⟨rfl, y3⟩
                  have y13 : Below wS.heap.size wS x3 := y12.trans (y3.mono y12.size)
                  obtain ⟨_, _, _, hz3⟩ := tz_of TS.out y13
                  have TS3 : TapeAt _ _ [1, 2] x3 := hz3.at_
                  clear A3' B3' y12 y3 TS hz3
                  go_wp2_with fail
                  refine (kinds_any _ _ [1, 2] x3 TS3 (by simp) (by simp)).mono ?_
                  rintro e x4 ⟨vK2, rfl, hoK2, y4⟩
                  have hoK3 : x4.ownsRow x3.heap.size 3 1 vK2 2 ((List.range 2).map fun j : Nat => .int .i64 ((j : Int) + 1)) := hoK2
                  obtain ⟨aK, cK, gK, rfl, nK⟩ := owns_nums hoK3 (by unfold maxLen; omega)
                  have y14 : Below wS.heap.size wS x4 := y13.trans (y4.mono y13.size)
                  clear hoK2 hoK3 y4 y13 TS3
                  go_wp2_with fail
                  have y14a : Below wS.heap.size wS (x4.alloc (.cells #[.int .i64 1, .int .i64 2] 3)) := y14.alloc y14.size _
                  refine (ints_same gK 0 x4.heap.size 0 2 _ _ _ _ (fun j : Nat => (j : Int) + 1) _ (nK.below ((Below.refl _ x4).alloc (Nat.le_refl _) _)) ⟨fun _ => rfl, fun _ => by simp, fun i hi => by rcases (show i = 0 ∨ i = 1 by omega) with rfl | rfl <;> simp, by unfold maxLen; omega⟩).mono ?_
                  rintro e x5 ⟨rfl, y5⟩
                  go_wp2
                  go_ret
                  exact ⟨by simp, BW.trans ((y14a.trans (y5.mono y14a.size)).mono BW.size)⟩
end Go.Proofs.Ytlbfkgecckdlgaa
