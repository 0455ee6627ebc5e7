/- Layer 2: the reference's Marks. -/
import Derived.Test.YtlbfkgecckdlgaaCMarks
import Derived.Test.YtlbfkgecckdlgaaCErr
namespace Go.Proofs.Ytlbfkgecckdlgaa
open Go.RowKit

theorem swapping_any (d : Int) (w : World) : Calls Try.prog 96 #[.int .i64 d] w fun e w' => e = .returned (.bool (decide (d = 1 ∨ d = 2 ∨ d = 4 ∨ d = 5))) ∧ w = w' := by
  by_cases h : d = 1 ∨ d = 2 ∨ d = 4 ∨ d = 5
  · rw [decide_eq_true h]
    rcases h with rfl | rfl | rfl | rfl
    all_goals
      go_enter Try.func96, Try.ntmps96
      go_wp2
      go_ret
      exact ⟨rfl, rfl⟩
  · rw [decide_eq_false h]
    have h1 : ¬ d = 1 := fun e => h (Or.inl e)
    have h2 : ¬ d = 2 := fun e => h (Or.inr (Or.inl e))
    have h4 : ¬ d = 4 := fun e => h (Or.inr (Or.inr (Or.inl e)))
    have h5 : ¬ d = 5 := fun e => h (Or.inr (Or.inr (Or.inr e)))
    clear h
    go_enter Try.func96, Try.ntmps96
    go_wp2
    go_ret
    exact ⟨by simp [*], rfl⟩

theorem nN_bI {d : Int} (hd : d = 1 ∨ d = 2 ∨ d = 4 ∨ d = 5) (s : Bool) (a c : Int) : nN (bI s) d (bI (a != 0)) (bI (c != 0)) = bI (mN s d a c) := by
  rcases hd with rfl | rfl | rfl | rfl
  · simp [nN, mN]
  · simp [nN, mN]
  · simp [nN, mN]
  · by_cases h : s = (a != 0)
    · simp [nN, mN, h]
    · simp [nN, mN, h, bI_inj _ _ h]
theorem nO_bI {d : Int} (hd : d = 1 ∨ d = 2 ∨ d = 4 ∨ d = 5) (s : Bool) (a : Int) : (nO (bI s) d (bI (a != 0)) == 1) = mO s d a := by
  rcases hd with rfl | rfl | rfl | rfl
  · cases s <;> simp [nO, mO, bI]
  · simp [nO, mO]
  · cases s <;> simp [nO, mO, bI]
  · by_cases h : s = (a != 0)
    · simp [nO, mO, h]
    · have := bI_inj _ _ h
      simp [nO, mO, h, this]

theorem bI_if (b : Bool) : (if b then (1 : Int) else 0) = bI b := rfl
theorem bI_eq1 (b : Bool) : (bI b == 1) = b := by cases b <;> rfl

theorem owns_intsM {w : World} {B n : Nat} {v : Value} {f : Nat → Int} (hB : B ≤ w.heap.size) (h : w.ownsRow B 3 1 v n ((List.range n).map fun j => .int .i64 (f j))) : ∃ sa c g, v = .slice sa n c ∧ B ≤ g ∧ (n ≠ 0 → sa = some ⟨g, 0, none⟩ ∧ g < w.heap.size) ∧ IntsTo w g n n f := by
  by_cases hv : v = .slice none 0 0
  · subst hv
    obtain ⟨_, h⟩ := h
    rcases h with ⟨_, rfl⟩ | ⟨g, cap, cur, hv, _⟩
    · exact ⟨none, 0, w.heap.size, rfl, hB, fun h => absurd rfl h, fun j hj => by omega⟩
    · cases hv
  · obtain ⟨g, c, rfl, h1, h2, h3⟩ := owns_ints h hv
    exact ⟨_, c, g, rfl, h1, fun _ => ⟨rfl, h2⟩, h3⟩

/-- The reference's loop, behind j acts: o the answers, g the marks' block. -/
structure MInv (w1 wr : World) (g m j : Nat) (f : Nat → Bool) (dk di da db : Nat → Int) (o : Value) : Prop where
  own : wr.ownsRow w1.heap.size 4 1 o j ((List.range j).map fun j => .bool (cbo f dk di da db j))
  ints : IntsTo wr g m m (fun i => bI (csb f dk di da db j i))
  kp : Kp (fun k => k = g) w1 wr

theorem csb_ints {w w2 : World} {g m j : Nat} {f : Nat → Bool} {dk di da db : Nat → Int} (h : IntsTo w g m m (fun i => bI (csb f dk di da db j i))) (i0 : 0 ≤ di j)
    (hs : NumStep (fun _ => False) g (di j).toNat (bI (mN (csb f dk di da db j (di j).toNat) (dk j) (da j) (db j))) w w2) : IntsTo w2 g m m (fun i => bI (csb f dk di da db (j + 1) i)) := by
  have hi : ((di j).toNat : Int) = di j := by omega
  intro i hi'
  obtain ⟨a, z⟩ := h i hi'
  refine ⟨?_, (hs.fro i).trans z⟩
  rw [if_pos hi'] at a ⊢
  by_cases e : i = (di j).toNat
  · subst e
    rw [hs.cell a]
    simp [csb, hi]
  · rw [hs.other (fun q => e q.symm), a]
    simp only [csb]
    rw [if_neg (by omega)]

set_option maxRecDepth 100000 in
set_option maxHeartbeats 2000000 in
theorem refMarks_ok (cb co m ca ab ao n cap : Nat) (x base : Option Addr) (f : Nat → Bool) (dk di da db : Nat → Int) (w : World) (hx : BoolsAt w x cb co m f) (h : CActs w base ab ao n dk di da db) (hm : m ≤ 64) (hn : n ≤ 1000) (he : frst (fun j => ceErr (dk j) (di j) m) n = 0) :
    Calls Try.prog 43 #[.slice x m ca, .slice base n cap] w fun e w' => ∃ o l v, e = .returned (.tuple #[o, l, v, .int .i64 0]) ∧ Below w.heap.size w w' ∧ w'.ownsRow w.heap.size 4 1 o n ((List.range n).map fun j => .bool (cbo f dk di da db j)) ∧ w'.ownsRow w.heap.size 4 1 l m ((List.range m).map fun i => .bool (csb f dk di da db n i)) ∧ w'.ownsRow w.heap.size 3 1 v n ((List.range n).map fun j => .int .i64 (dk j)) := by
  obtain ⟨i0, hi0, hz0, hz1, hz2⟩ := info_parts int_info
  obtain ⟨k0, hk0, hy0, hy1, hy2⟩ := info_parts bool_info
  have HE : Hid _ := frst_zero he
  have HA : Hid _ := h
  have HX : Hid _ := hx
  have m0 : (m : Int) ≤ 64 := by omega
  have n0 : (n : Int) ≤ 1000 := by omega
  clear h hx he
  go_enter Try.func43, Try.ntmps43
  go_wp2_with fail
  go_loop [8] (fun i => ∃ j : Nat, j ≤ n ∧ i = .int .i64 j) (fun i => n - (intOf i).toNat)
  case atStart => exact ⟨0, Nat.zero_le _, rfl⟩
  case round =>
    obtain ⟨j, hj, rfl⟩ := hrel
    by_cases hlt : j < n
    · obtain rfl : base = some ⟨ab, ao, none⟩ := HA.out.base (by omega)
      obtain ⟨c0, c1, _, _⟩ := HA.out.cells j hlt
      obtain ⟨hd, q0, q1⟩ := ce_zero (HE.out j hlt)
      have j0 : (0 : Int) ≤ (j : Int) := Int.natCast_nonneg _
      have j1 : (j : Int) < (n : Int) := by omega
      have hd' : decide (dk j = 1 ∨ dk j = 2 ∨ dk j = 4 ∨ dk j = 5) = true := decide_eq_true hd
      clear hd
      go_wp2_with (first | (go_at_call 96; refine (swapping_any _ _).mono ?_; rintro e w' ⟨rfl, rfl⟩))
      exact ⟨⟨j + 1, by omega, by go_num⟩, by simp [intOf]; omega⟩
    · obtain rfl : j = n := by omega
      go_wp2_with fail
      have hb0 : Below w.heap.size w w := Below.refl _ _
      go_loopw [9, 10] (fun v i wr => ∃ k : Nat, k ≤ m ∧ i = .int .i64 k ∧ Below w.heap.size w wr ∧ wr.ownsRow w.heap.size 3 1 v k ((List.range k).map fun i => .int .i64 (bI (f i)))) (fun _ i _ => m - (intOf i).toNat)
      case atStart => exact ⟨0, Nat.zero_le _, rfl, hb0, World.ownsRow_nil _ _ _ _⟩
      case round =>
        obtain ⟨k, hk, rfl, hnx, hown⟩ := hrel
        have s1 := hnx.size
        by_cases hlt2 : k < m
        · obtain rfl : x = some ⟨cb, co, none⟩ := HX.out.base (by omega)
          have c0 := (HX.out.below hnx).cells k hlt2
          have j0 : (0 : Int) ≤ (k : Int) := Int.natCast_nonneg _
          have j1 : (k : Int) < (m : Int) := by omega
          have HN : Hid _ := hnx
          clear hnx
          go_wp2_with (first | (go_at_call 63; refine (bit_any _ _).mono ?_; rw [bI_if]; rintro e w' ⟨rfl, rfl⟩) | (at_builtin; (refine wpList_append_lies _ (by rfl) _ _ _ (by rfl) w.heap.size 3 i0 _ 1 8 ints_under hi0 hz0 hz1 hz2 rfl (by omega) _ k _ (by rfl) (hown.alloc _) ⟨wr.heap.size, 0, none⟩ 1 1 [.int .i64 (bI (f k))] (by rfl) (by rfl) (World.news_of_block (cs := #[.int .i64 (bI (f k))]) (t := 3) (fr := (0, 0)) (heap_alloc_at _ _ _ (by simp))) (by simp [Value.oneCell']) (by omega) (by unfold maxLen; omega) (by omega) (by simp; omega) (wr.heap.size + 1) (by simp) ?_); intro gg cap w3 hown3 hgrow hat hlt3))
          exact ⟨⟨k + 1, by omega, by go_num, Below.grown (HN.out.alloc s1 _) hgrow (by simp; omega) (owns_ge hown), by rw [List.range_succ, List.map_append]; exact hown3⟩, by simp [intOf]; omega⟩
        · obtain rfl : k = m := by omega
          obtain ⟨sa, cg, g, rfl, hg0, hg1, hi1⟩ := owns_intsM s1 hown
          have R0 : Hid _ := (⟨World.ownsRow_nil _ _ _ _, hi1, Kp.refl _ _⟩ : MInv wr wr g k 0 f dk di da db (.slice none 0 0))
          have HN : Hid _ := hnx
          generalize hw1 : wr = w1 at *
          clear hown hi1 hnx hw1
          go_wp2_with fail
          go_loopw [11, 12] (fun o i wr => ∃ q : Nat, q ≤ j ∧ i = .int .i64 q ∧ MInv w1 wr g k q f dk di da db o) (fun _ i _ => j - (intOf i).toNat)
          case atStart => exact ⟨0, Nat.zero_le _, rfl, R0.out⟩
          case round =>
            obtain ⟨q, hq, rfl, hp⟩ := hrel
            have HP : Hid _ := hp
            clear hp R0
            by_cases hlt3 : q < j
            · obtain rfl : base = some ⟨ab, ao, none⟩ := HA.out.base (by omega)
              have hA := HA.out.lt (by omega)
              obtain ⟨c0, c1, c2, c3⟩ := ((HA.out.kp (X := fun _ => False) (Kp.of_below HN.out) (fun _ h => h)).kp HP.out.kp (fun _ => by omega)).cells q hlt3
              obtain ⟨hd, r0, r1⟩ := ce_zero (HE.out q hlt3)
              obtain ⟨rfl, hg2⟩ := hg1 (by omega)
              have j0 : (0 : Int) ≤ (q : Int) := Int.natCast_nonneg _
              have j1 : (q : Int) < (j : Int) := by omega
              have hp1 : (di q).toNat < k := by omega
              obtain ⟨a1, z1⟩ := HP.out.ints (di q).toNat hp1
              rw [if_pos hp1] at a1
              have hO := one_any g (di q).toNat k cg (bI (csb f dk di da db q (di q).toNat)) (dk q) (bI (da q != 0)) (bI (db q != 0)) (by omega) (wr.alloc (.cells #[.int .i64 (dk q), .int .i64 (di q), .int .i64 (da q), .int .i64 (db q)] 52)).drew hp1 (by have := HP.out.kp.size; simp; omega) (((Kp.refl (fun _ => False) wr).alloc _).drew.cell (p := ⟨g, (di q).toNat, none⟩) (by have := HP.out.kp.size; simp; omega) (fun h => h) |>.trans a1) (((Kp.refl (fun _ => False) wr).alloc _).drew.frozen (p := ⟨g, (di q).toNat, none⟩) (by have := HP.out.kp.size; simp; omega) (fun h => h) |>.trans z1)
              rw [show (((di q).toNat : Nat) : Int) = di q from by omega, nN_bI hd] at hO
              have HO : Hid _ := hO
              have HD : Hid _ := hd
              have hgs : g < wr.heap.size := by have := HP.out.kp.size; omega
              clear hd hO a1 z1
              go_wp2_with fail
              go_region_held3 (fun w' => w'.cell? ⟨wr.heap.size, 0, none⟩ = some (.int .i64 (dk q)) ∧ w'.cell? ⟨wr.heap.size, 1, none⟩ = some (.int .i64 (di q)) ∧ w'.cell? ⟨wr.heap.size, 2, none⟩ = some (.int .i64 (da q)) ∧ w'.cell? ⟨wr.heap.size, 3, none⟩ = some (.int .i64 (db q)))
                (first | go_keep | exact ⟨(hs2.kp.cell (p := ⟨wr.heap.size, 0, none⟩) (by simp) (by rintro (h | h); exact h; simp at h; omega)).trans (by simp), (hs2.kp.cell (p := ⟨wr.heap.size, 1, none⟩) (by simp) (by rintro (h | h); exact h; simp at h; omega)).trans (by simp), (hs2.kp.cell (p := ⟨wr.heap.size, 2, none⟩) (by simp) (by rintro (h | h); exact h; simp at h; omega)).trans (by simp), (hs2.kp.cell (p := ⟨wr.heap.size, 3, none⟩) (by simp) (by rintro (h | h); exact h; simp at h; omega)).trans (by simp)⟩)
                (first | (go_at_call 63; refine (bit_any _ _).mono ?_; rw [bI_if]; rintro e w' ⟨rfl, rfl⟩) | (go_at_call 22; refine Calls.mono HO.out ?_; rintro e w2 ⟨rfl, hs2⟩))
              have ka : Kp (fun k => k = g) wr w2 := ((((Kp.refl (fun k => k = g) wr).alloc _).drew)).trans (hs2.kp.mono (fun _ h => h.elim (fun h => h.elim) id))
              have own2 := owns_kept HP.out.own (fun k hk hB => ka.block k hk (by omega))
              have s2 := ka.size
              have hs3 : NumStep (fun _ => False) g (di q).toNat (bI (mN (csb f dk di da db q (di q).toNat) (dk q) (da q) (db q))) wr w2 := num_alloc hgs ⟨⟨hs2.kp.os, hs2.kp.tape, hs2.kp.output, hs2.kp.size, hs2.kp.block⟩, hs2.at_⟩
              have ints2 : Hid _ := csb_ints HP.out.ints r0 hs3
              have kp2 : Hid _ := HP.out.kp.trans ka
              have sz2 := kp2.out.size
              have hq1 : (nO (bI (csb f dk di da db q (di q).toNat)) (dk q) (bI (da q != 0)) == 1) = cbo f dk di da db q := nO_bI HD.out _ _
              clear hs2 hs3 HO c0 c1 c2 c3 ka
              go_wp2_with (first | (at_builtin; (refine wpList_append_lies _ (by rfl) _ _ _ (by rfl) w1.heap.size 4 k0 _ 1 1 bools_under hk0 hy0 hy1 hy2 rfl (by omega) _ q _ (by rfl) (own2.alloc _) ⟨w2.heap.size, 0, none⟩ 1 1 [.bool (cbo f dk di da db q)] (by rfl) (by rfl) (World.news_of_block (cs := #[.bool (cbo f dk di da db q)]) (t := 4) (fr := (0, 0)) (heap_alloc_at _ _ _ (by simp))) (by simp [Value.oneCell']) (by omega) (by unfold maxLen; omega) (by omega) (by simp; omega) (w2.heap.size + 1) (by simp) ?_); intro gg cap w3 hown3 hgrow hat hlt4))
              have hge := owns_ge own2
              have hgb : ∀ k, k < w1.heap.size → w3.heap[k]? = w2.heap[k]? := fun k hk => by
                rw [hgrow.block k (by simp; omega) (fun e => by have := hge k e.symm; omega), Below.heap_alloc _ _ _ (by omega)]
              refine ⟨⟨q + 1, by omega, by go_num, ?_, IntsTo.same ints2.out (hgb g hg2), ?_⟩, by simp [intOf]; omega⟩
              · rw [List.range_succ, List.map_append]; exact hown3
              · refine ⟨hgrow.os.trans kp2.out.os, hgrow.tape.trans kp2.out.tape, hgrow.output.trans kp2.out.output, ?_, ?_⟩
                · have := hgrow.size; simp at this; omega
                · intro k hk hn
                  rw [hgb k hk]; exact kp2.out.block k hk hn
            · obtain rfl : q = j := by omega
              have sz1 := HP.out.kp.size
              have bw : Below w.heap.size w wr := HN.out.trans (HP.out.kp.to_below w.heap.size s1 (by omega))
              have BW : Hid _ := bw
              have HOW : Hid (World.ownsRow _ _ _ _ _ _ _) := HP.out.own
              have HIN : Hid _ := HP.out.ints
              generalize hw2 : wr = w2 at *
              have P0 : Hid _ := (⟨Below.refl _ _, World.ownsRow_nil _ _ _ _⟩ : Below w2.heap.size w2 w2 ∧ w2.ownsRow w2.heap.size 4 1 (.slice none 0 0) 0 ((List.range 0).map fun i => .bool (csb f dk di da db q i)))
              clear hw2 bw HP
              go_wp2_with fail
              go_loopw [15, 16] (fun l i wr => ∃ p : Nat, p ≤ k ∧ i = .int .i64 p ∧ Below w2.heap.size w2 wr ∧ wr.ownsRow w2.heap.size 4 1 l p ((List.range p).map fun i => .bool (csb f dk di da db q i))) (fun _ i _ => k - (intOf i).toNat)
              case atStart => exact ⟨0, Nat.zero_le _, rfl, P0.out.1, P0.out.2⟩
              case round =>
                obtain ⟨p, hp, rfl, hnx, hown⟩ := hrel
                have s3 := hnx.size
                clear P0
                by_cases hlt4 : p < k
                · obtain ⟨rfl, hg2⟩ := hg1 (by omega)
                  have a1 := (hnx.cell (p := ⟨g, p, none⟩) (by simp; omega)).trans (IntsTo.done HIN.out p hlt4)
                  have j0 : (0 : Int) ≤ (p : Int) := Int.natCast_nonneg _
                  have j1 : (p : Int) < (k : Int) := by omega
                  have hq1 := bI_eq1 (csb f dk di da db q p)
                  have HNX : Hid _ := hnx
                  clear hnx
                  go_wp2_with (first | (at_builtin; (refine wpList_append_lies _ (by rfl) _ _ _ (by rfl) w2.heap.size 4 k0 _ 1 1 bools_under hk0 hy0 hy1 hy2 rfl (by omega) _ p _ (by rfl) (hown.alloc _) ⟨wr.heap.size, 0, none⟩ 1 1 [.bool (csb f dk di da db q p)] (by rfl) (by rfl) (World.news_of_block (cs := #[.bool (csb f dk di da db q p)]) (t := 4) (fr := (0, 0)) (heap_alloc_at _ _ _ (by simp))) (by simp [Value.oneCell']) (by omega) (by unfold maxLen; omega) (by omega) (by simp; omega) (wr.heap.size + 1) (by simp) ?_); intro gg cap w3 hown3 hgrow hat hlt5))
                  exact ⟨⟨p + 1, by omega, by go_num, Below.grown (HNX.out.alloc s3 _) hgrow (by simp; omega) (owns_ge hown), by rw [List.range_succ, List.map_append]; exact hown3⟩, by simp [intOf]; omega⟩
                · obtain rfl : p = k := by omega
                  have bw : Below w.heap.size w wr := BW.out.trans (hnx.mono BW.out.size)
                  have HK : Hid _ := rkinds_any ab ao q cap dk di da db wr base (HA.out.kp (X := fun _ => False) (Kp.of_below bw) (fun _ h => h)) (by omega)
                  go_wp2_with fail
                  refine Calls.mono HK.out ?_
                  rintro e w4 ⟨v, rfl, hb4, hv4⟩
                  go_wp2
                  (try simp only [Exit.inBlock, Exit.then]); refine bodyPost_ret (results_tmp4 rfl _ _ _) rfl ?_
                  have sz4 := hb4.size
                  have sb := BW.out.size
                  refine ⟨_, _, v, rfl, bw.trans (hb4.mono (by omega)), ?_, ?_, owns_mono hv4 (by omega)⟩
                  · exact owns_mono (owns_kept (owns_kept HOW.out (fun k hk' _ => hnx.block k hk')) (fun k hk' _ => hb4.block k hk')) (by omega)
                  · exact owns_mono (owns_kept hown (fun k hk' _ => hb4.block k hk')) (by omega)
end Go.Proofs.Ytlbfkgecckdlgaa
