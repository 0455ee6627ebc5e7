/- Layer 2: the reference's Ids. -/
import Derived.Test.YtlbfkgecckdlgaaCIdsErr
import Derived.Test.YtlbfkgecckdlgaaCRef4
namespace Go.Proofs.Ytlbfkgecckdlgaa
open Go.RowKit

set_option maxRecDepth 100000 in
set_option maxHeartbeats 2000000 in
theorem refIds_ok (cb co m ca ab ao N cap n : Nat) (x base : Option Addr) (f dk di da db : Nat → Int) (w : World) (hx : NumsAt w x cb co m f) (hxn : x = none → m = 0 ∧ ca = 0) (h : CActs w base ab ao N dk di da db) (hm : m ≤ 64) (hN : N ≤ 1000) (hn : n ≤ 64) (hall : allT f n m = true) (he : frst (fun j => idErr (dk j) (di j) (da j) (db j) m n) N = 0) :
    Calls Try.prog 41 #[.slice x m ca, .int .i64 n, .slice base N cap] w fun e w' => ∃ o g c v, e = .returned (.tuple #[o, .slice (some ⟨g, 0, none⟩) m c, v, .int .i64 0]) ∧ Below w.heap.size w w' ∧ g < w'.heap.size ∧ w'.ownsRow w.heap.size 3 1 o N ((List.range N).map fun j => .int .i64 (cso f dk di da db j)) ∧ IntsTo w' g m m (csn f dk di da db N) ∧ w'.ownsRow w.heap.size 3 1 v N ((List.range N).map fun j => .int .i64 (dk j)) := by
  obtain ⟨i0, hi0, hz0, hz1, hz2⟩ := info_parts int_info
  have HE : Hid _ := frst_zero he
  have hb0 := badId_any m n ab ao N cap dk di da db w base h
  rw [he] at hb0
  have HB : Hid _ := hb0
  have HC : Hid (∀ W : World, Below w.heap.size w W → Calls Try.prog 49 #[.slice x m ca] W fun e w' => ∃ g cap, e = .returned (.slice (some ⟨g, 0, none⟩) m cap) ∧ W.heap.size ≤ g ∧ g < w'.heap.size ∧ IntsTo w' g m m f ∧ Below W.heap.size W w') := fun W hW => copy_any cb co m ca x f W (hx.below hW) hxn (by omega)
  have HA : Hid _ := h
  have HX : Hid _ := hx
  have m0 : (m : Int) ≤ 64 := by omega
  have N0 : (N : Int) ≤ 1000 := by omega
  have n1 : (n : Int) ≤ 64 := by omega
  have n2 : (0 : Int) ≤ (n : Int) := Int.natCast_nonneg _
  have HAl : Hid _ := allT_of hall
  clear h hx hb0 he hall
  go_enter Try.func41, Try.ntmps41
  go_wp2_with fail
  go_loop [10] (fun i => ∃ j : Nat, j ≤ m ∧ i = .int .i64 j) (fun i => m - (intOf i).toNat)
  case atStart => exact ⟨0, Nat.zero_le _, rfl⟩
  case round =>
    obtain ⟨j, hj, rfl⟩ := hrel
    by_cases hlt : j < m
    · obtain rfl : x = some ⟨cb, co, none⟩ := HX.out.base (by omega)
      have c0 := HX.out.cells j hlt
      have ht := HAl.out j hlt
      have j0 : (0 : Int) ≤ (j : Int) := Int.natCast_nonneg _
      have j1 : (j : Int) < (m : Int) := by omega
      go_wp2_with (first | (go_at_call 82; refine (rthing_any _ _ _).mono ?_; rintro e w' ⟨rfl, rfl⟩))
      exact ⟨⟨j + 1, by omega, by go_num⟩, by simp [intOf]; omega⟩
    · obtain rfl : j = m := by omega
      go_wp2_with (first | (go_at_call 83; refine Calls.mono HB.out ?_; rintro e w0 ⟨rfl, hb0⟩) | (go_at_call 49; refine Calls.mono (HC.out w0 hb0) ?_; rintro e w1 ⟨g, cg, rfl, hg0, hg1, hi1, hb1⟩))
      have R0 : Hid _ := (⟨World.ownsRow_nil _ _ _ _, hi1, Kp.refl _ _⟩ : RInv w1 w1 g j 0 f dk di da db (.slice none 0 0))
      have s0 := hb0.size
      have HB1 : Hid (Below w.heap.size w w1) := hb0.trans (hb1.mono s0)
      clear hi1 HC HB hb1 hb0
      go_loopw [13, 14] (fun o i wr => ∃ q : Nat, q ≤ N ∧ i = .int .i64 q ∧ RInv w1 wr g j q f dk di da db o) (fun _ i _ => N - (intOf i).toNat)
      case atStart => exact ⟨0, Nat.zero_le _, rfl, R0.out⟩
      case round =>
        obtain ⟨q, hq, rfl, hp⟩ := hrel
        have HP : Hid _ := hp
        clear hp R0
        by_cases hlt2 : q < N
        · obtain rfl : base = some ⟨ab, ao, none⟩ := HA.out.base (by omega)
          have hA : ab < w.heap.size := HA.out.lt (by omega)
          obtain ⟨c0, c1, c2, c3⟩ := ((HA.out.kp (X := fun _ => False) (Kp.of_below HB1.out) (fun _ h => h)).kp HP.out.kp (fun _ => by omega)).cells q hlt2
          obtain ⟨hd, ⟨k0, k1⟩, _, _⟩ := id_zero (HE.out q hlt2)
          have j0 : (0 : Int) ≤ (q : Int) := Int.natCast_nonneg _
          have j1 : (q : Int) < (N : Int) := by omega
          have q1 : (di q).toNat < j := by omega
          obtain ⟨a1, z1⟩ := HP.out.ints (di q).toNat q1
          rw [if_pos q1] at a1
          have hsz := HP.out.kp.size
          have hO := one_any g (di q).toNat j cg (csn f dk di da db q (di q).toNat) (dk q) (da q) (db q) (by omega) wr q1 (by omega) a1 z1
          rw [show (((di q).toNat : Nat) : Int) = di q from by omega] at hO
          have HO : Hid _ := hO
          have HK : Hid _ := k0
          clear a1 z1 hO hd k0 k1
          go_wp2_with fail
          refine Calls.mono HO.out ?_
          rintro e w2 ⟨rfl, hs2⟩
          have own2 := owns_kept HP.out.own (fun k hk hB => hs2.kp.block k hk (by rintro (h | h); exact h; omega))
          have s2 := hs2.kp.size
          have ints2 : Hid _ := csn_ints HP.out.ints HK.out hs2
          have kp2 : Hid _ := HP.out.kp.trans (hs2.kp.mono (fun _ h => h.elim (fun h => h.elim) id))
          clear hs2 HO c0 c1 c2 c3
          rw [show nO (csn f dk di da db q (di q).toNat) (dk q) (da q) = cso f dk di da db q from rfl]
          go_wp2_with (first | (at_builtin; (refine wpList_append_lies _ (by rfl) _ _ _ (by rfl) w1.heap.size 3 i0 _ 1 8 ints_under hi0 hz0 hz1 hz2 rfl (by omega) _ q _ (by rfl) (own2.alloc _) ⟨w2.heap.size, 0, none⟩ 1 1 [.int .i64 (cso f dk di da db q)] (by rfl) (by rfl) (World.news_of_block (cs := #[.int .i64 (cso f dk di da db q)]) (t := 3) (fr := (0, 0)) (heap_alloc_at _ _ _ (by simp))) (by simp [Value.oneCell']) (by omega) (by unfold maxLen; omega) (by omega) (by simp; omega) (w2.heap.size + 1) (by simp) ?_); intro gg cap w3 hown3 hgrow hat hlt3))
          have hge := owns_ge own2
          have hgb : ∀ k, k < w1.heap.size → w3.heap[k]? = w2.heap[k]? := fun k hk => by
            rw [hgrow.block k (by simp; omega) (fun e => by have := hge k e.symm; omega), Below.heap_alloc _ _ _ (by omega)]
          refine ⟨⟨q + 1, by omega, by go_num, ?_, IntsTo.same ints2.out (hgb g hg1), ?_⟩, by simp [intOf]; omega⟩
          · rw [List.range_succ, List.map_append]; exact hown3
          · refine ⟨hgrow.os.trans kp2.out.os, hgrow.tape.trans kp2.out.tape, hgrow.output.trans kp2.out.output, ?_, ?_⟩
            · have := hgrow.size; simp at this; omega
            · intro k hk hn
              rw [hgb k hk]; exact kp2.out.block k hk hn
        · obtain rfl : q = N := by omega
          have HKi : Hid _ := rkinds_any ab ao q cap dk di da db wr base ((HA.out.kp (X := fun _ => False) (Kp.of_below HB1.out) (fun _ h => h)).kp HP.out.kp (fun h => by have := HA.out.lt h; omega)) (by omega)
          go_wp2_with fail
          refine Calls.mono HKi.out ?_
          rintro e w2 ⟨v, rfl, hb2, hv2⟩
          go_wp2
          (try simp only [Exit.inBlock, Exit.then]); refine bodyPost_ret (results_tmp4 rfl _ _ _) rfl ?_
          have hk := HP.out.kp
          have sz := hk.size
          have sz2 := hb2.size
          refine ⟨_, g, cg, v, rfl, ?_, by omega, ?_, HP.out.ints.same (hb2.block g (by omega)), owns_mono hv2 (by omega)⟩
          · exact (HB1.out.trans (hk.to_below w.heap.size (by omega) (by omega))).trans (hb2.mono (by omega))
          · exact owns_mono (owns_kept HP.out.own (fun k hk' _ => hb2.block k hk')) (by omega)

set_option maxRecDepth 100000 in
set_option maxHeartbeats 2000000 in
theorem refIds_err (cb co m ca ab ao N cap : Nat) (T : Int) (x base : Option Addr) (f dk di da db : Nat → Int) (w : World) (hx : NumsAt w x cb co m f) (h : CActs w base ab ao N dk di da db) (he : ¬ isErr m N T f dk di da db = 0) :
    Calls Try.prog 41 #[.slice x m ca, .int .i64 T, .slice base N cap] w fun e w' => e = .returned (.tuple #[.slice none 0 0, .slice none 0 0, .slice none 0 0, .int .i64 (isErr m N T f dk di da db)]) ∧ Below w.heap.size w w' := by
  by_cases h1 : 64 < m
  · have e : isErr m N T f dk di da db = 2 := by unfold isErr; rw [if_pos (by omega)]
    rw [e]
    have h1' : (64 : Int) < (m : Int) := by omega
    clear he h hx e
    go_enter Try.func41, Try.ntmps41
    go_wp2
    (try simp only [Exit.inBlock, Exit.then]); refine bodyPost_ret (results_tmp4 rfl _ _ _) rfl ?_
    exact ⟨rfl, Below.refl _ _⟩
  · have h1' : ¬ (64 : Int) < (m : Int) := by omega
    by_cases h2 : 64 < T
    · have e : isErr m N T f dk di da db = 2 := by unfold isErr; rw [if_pos (by omega)]
      rw [e]
      clear he h hx e
      go_enter Try.func41, Try.ntmps41
      go_wp2
      (try simp only [Exit.inBlock, Exit.then]); refine bodyPost_ret (results_tmp4 rfl _ _ _) rfl ?_
      exact ⟨rfl, Below.refl _ _⟩
    · by_cases h3 : 1000 < N
      · have e : isErr m N T f dk di da db = 2 := by unfold isErr; rw [if_pos (by omega)]
        rw [e]
        have h3' : (1000 : Int) < (N : Int) := by omega
        clear he h hx e
        go_enter Try.func41, Try.ntmps41
        go_wp2
        (try simp only [Exit.inBlock, Exit.then]); refine bodyPost_ret (results_tmp4 rfl _ _ _) rfl ?_
        exact ⟨rfl, Below.refl _ _⟩
      · have h3' : ¬ (1000 : Int) < (N : Int) := by omega
        by_cases h4 : T < 0
        · have e : isErr m N T f dk di da db = 1 := by unfold isErr; rw [if_neg (by omega), if_pos h4]
          rw [e]
          clear he h hx e
          go_enter Try.func41, Try.ntmps41
          go_wp2
          (try simp only [Exit.inBlock, Exit.then]); refine bodyPost_ret (results_tmp4 rfl _ _ _) rfl ?_
          exact ⟨rfl, Below.refl _ _⟩
        · have HX : Hid _ := hx
          have HB : Hid _ := badId_any m T ab ao N cap dk di da db w base h
          have e1 : allT f T m = false → Hid (isErr m N T f dk di da db = 1) := fun q => by show isErr m N T f dk di da db = 1; unfold isErr; rw [if_neg (by omega), if_neg h4, if_pos q]
          have e2 : allT f T m = true → Hid (isErr m N T f dk di da db = frst (fun j => idErr (dk j) (di j) (da j) (db j) m T) N) := fun q => by show isErr m N T f dk di da db = _; unfold isErr; rw [if_neg (by omega), if_neg h4, if_neg (by simp [q])]
          have HE : Hid _ := he
          clear he h hx
          go_enter Try.func41, Try.ntmps41
          go_wp2_with fail
          go_loop [10] (fun i => ∃ j : Nat, j ≤ m ∧ i = .int .i64 j ∧ allT f T j = true) (fun i => m - (intOf i).toNat)
          case atStart => exact ⟨0, Nat.zero_le _, rfl, rfl⟩
          case round =>
            obtain ⟨j, hj, rfl, hall⟩ := hrel
            by_cases hlt : j < m
            · obtain rfl : x = some ⟨cb, co, none⟩ := HX.out.base (by omega)
              have c0 := HX.out.cells j hlt
              have j0 : (0 : Int) ≤ (j : Int) := Int.natCast_nonneg _
              have j1 : (j : Int) < (m : Int) := by omega
              by_cases ht : okT (f j) T = true
              · have HA : Hid (allT f T (j + 1) = true) := by show allT f T (j + 1) = true; simp [allT, hall, ht]
                clear hall e1 e2
                go_wp2_with (first | (go_at_call 82; refine (rthing_any _ _ _).mono ?_; rintro e w' ⟨rfl, rfl⟩))
                exact ⟨⟨j + 1, by omega, by go_num, HA.out⟩, by simp [intOf]; omega⟩
              · have ht' : okT (f j) T = false := by simpa using ht
                have E := e1 (allT_not hlt ht')
                clear hall e1 e2 ht
                go_wp2_with (first | (go_at_call 82; refine (rthing_any _ _ _).mono ?_; rintro e w' ⟨rfl, rfl⟩))
                (try simp only [Exit.inBlock, Exit.then]); refine bodyPost_ret (results_tmp4 rfl _ _ _) rfl ?_
                exact ⟨by rw [E.out]; rfl, Below.refl _ _⟩
            · obtain rfl : j = m := by omega
              have E := e2 hall
              have hne : ¬ frst (fun q => idErr (dk q) (di q) (da q) (db q) j T) N = 0 := by rw [← E.out]; exact HE.out
              have he' : (frst (fun q => idErr (dk q) (di q) (da q) (db q) j T) N != 0) = true := bne_iff_ne.2 hne
              clear hall e1 e2 hne
              go_wp2_with (first | (go_at_call 83; refine Calls.mono HB.out ?_; rintro e w0 ⟨rfl, hb0⟩))
              (try simp only [Exit.inBlock, Exit.then]); refine bodyPost_ret (results_tmp4 rfl _ _ _) rfl ?_
              exact ⟨by rw [E.out]; rfl, hb0⟩
end Go.Proofs.Ytlbfkgecckdlgaa
