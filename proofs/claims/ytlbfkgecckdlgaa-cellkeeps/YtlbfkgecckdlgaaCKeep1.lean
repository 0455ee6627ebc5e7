/- Layer 2: for CellKeeps: where the reference's answers lie; the list with 77 and 78 behind it. -/
import Derived.Test.YtlbfkgecckdlgaaCNumsLaw
namespace Go.Proofs.Ytlbfkgecckdlgaa
open Go.RowKit

/-- The list with 77 and 78 behind it. -/
def w77 (f : Nat → Int) (m : Nat) (j : Nat) : Int := if j < m then f j else if j = m then 77 else 78
theorem w77_list (f : Nat → Int) (m : Nat) : ((List.range m).map fun j => Value.int .i64 (f j)) ++ [.int .i64 77, .int .i64 78] = (List.range (m + 2)).map fun j => Value.int .i64 (w77 f m j) := by
  rw [List.range_succ, List.range_succ, List.map_append, List.map_append, List.append_assoc]
  congr 1
  · apply List.map_congr_left
    intro a ha
    rw [w77, if_pos (by simpa using ha)]
  · simp [w77]
    omega

set_option maxRecDepth 100000 in
set_option maxHeartbeats 1000000 in
theorem refNums_ok2 (cb co m ca ab ao n cap : Nat) (x base : Option Addr) (f dk di da db : Nat → Int) (w : World) (hx : NumsAt w x cb co m f) (hxn : x = none → m = 0 ∧ ca = 0) (h : CActs w base ab ao n dk di da db) (hm : m ≤ 64) (hn : n ≤ 1000) (he : frst (fun j => nmErr (dk j) (di j) m) n = 0) :
    Calls Try.prog 12 #[.slice x m ca, .slice base n cap] w fun e w' => ∃ o g c v, e = .returned (.tuple #[o, .slice (some ⟨g, 0, none⟩) m c, v, .int .i64 0]) ∧ Below w.heap.size w w' ∧ w.heap.size ≤ g ∧ g < w'.heap.size ∧ w'.ownsRow w.heap.size 3 1 o n ((List.range n).map fun j => .int .i64 (cso f dk di da db j)) ∧ IntsTo w' g m m (csn f dk di da db n) ∧ w'.ownsRow w.heap.size 3 1 v n ((List.range n).map fun j => .int .i64 (dk j)) := by
  obtain ⟨i0, hi0, hz0, hz1, hz2⟩ := info_parts int_info
  have HE : Hid _ := frst_zero he
  have hb0 := bad_any m ab ao n cap dk di da db w base h
  rw [he] at hb0
  have HB : Hid _ := hb0
  have HC : Hid _ := copy_any cb co m ca x f w hx hxn (by omega)
  have HA : Hid _ := h
  clear h hx hb0 he
  go_enter Try.func12, Try.ntmps12
  go_wp2_with (first | (go_at_call 48; refine Calls.mono HB.out ?_; rintro e w' ⟨rfl, rfl⟩) | (go_at_call 49; refine Calls.mono HC.out ?_; rintro e w1 ⟨g, cg, rfl, hg0, hg1, hi1, hb1⟩))
  have R0 : Hid _ := (⟨World.ownsRow_nil _ _ _ _, hi1, Kp.refl _ _⟩ : RInv w1 w1 g m 0 f dk di da db (.slice none 0 0))
  have HB1 : Hid _ := hb1
  clear hi1 HC HB hb1
  go_loopw [10, 11] (fun o i wr => ∃ j : Nat, j ≤ n ∧ i = .int .i64 j ∧ RInv w1 wr g m j f dk di da db o) (fun _ i _ => n - (intOf i).toNat)
  case atStart => exact ⟨0, Nat.zero_le _, rfl, R0.out⟩
  case round =>
    obtain ⟨j, hj, rfl, hp⟩ := hrel
    have HP : Hid _ := hp
    clear hp R0
    by_cases hlt : j < n
    · obtain rfl : base = some ⟨ab, ao, none⟩ := HA.out.base (by omega)
      have hA : ab < w.heap.size := HA.out.lt (by omega)
      obtain ⟨c0, c1, c2, c3⟩ := ((HA.out.kp (X := fun _ => False) (Kp.of_below HB1.out) (fun _ h => h)).kp HP.out.kp (fun _ => by omega)).cells j hlt
      obtain ⟨hd, k0, k1⟩ := nm_zero (HE.out j hlt)
      have j0 : (0 : Int) ≤ (j : Int) := Int.natCast_nonneg _
      have j1 : (j : Int) < (n : Int) := by omega
      have q1 : (di j).toNat < m := by omega
      obtain ⟨a1, z1⟩ := HP.out.ints (di j).toNat q1
      rw [if_pos q1] at a1
      have hsz := HP.out.kp.size
      have hO := one_any g (di j).toNat m cg (csn f dk di da db j (di j).toNat) (dk j) (da j) (db j) hd wr q1 (by omega) a1 z1
      rw [show (((di j).toNat : Nat) : Int) = di j from by omega] at hO
      have HO : Hid _ := hO
      have HX : Hid _ := And.intro k0 k1
      clear a1 z1 hO hd k0 k1
      go_wp2_with fail
      refine Calls.mono HO.out ?_
      rintro e w2 ⟨rfl, hs2⟩
      have own2 := owns_kept HP.out.own (fun k hk hB => hs2.kp.block k hk (by rintro (h | h); exact h; omega))
      have s2 := hs2.kp.size
      have ints2 : Hid _ := csn_ints HP.out.ints HX.out.1 hs2
      have kp2 : Hid _ := HP.out.kp.trans (hs2.kp.mono (fun _ h => h.elim (fun h => h.elim) id))
      clear hs2 HO c0 c1 c2 c3
      rw [show nO (csn f dk di da db j (di j).toNat) (dk j) (da j) = cso f dk di da db j from rfl]
      go_wp2_with (first | (at_builtin; (refine wpList_append_lies _ (by rfl) _ _ _ (by rfl) w1.heap.size 3 i0 _ 1 8 ints_under hi0 hz0 hz1 hz2 rfl (by omega) _ j _ (by rfl) (own2.alloc _) ⟨w2.heap.size, 0, none⟩ 1 1 [.int .i64 (cso f dk di da db j)] (by rfl) (by rfl) (World.news_of_block (cs := #[.int .i64 (cso f dk di da db j)]) (t := 3) (fr := (0, 0)) (heap_alloc_at _ _ _ (by simp))) (by simp [Value.oneCell']) (by omega) (by unfold maxLen; omega) (by omega) (by simp; omega) (w2.heap.size + 1) (by simp) ?_); intro gg cap w3 hown3 hgrow hat hlt3))
      have hge := owns_ge own2
      have hgb : ∀ k, k < w1.heap.size → w3.heap[k]? = w2.heap[k]? := fun k hk => by
        rw [hgrow.block k (by simp; omega) (fun e => by have := hge k e.symm; omega), Below.heap_alloc _ _ _ (by omega)]
      refine ⟨⟨j + 1, by omega, by go_num, ?_, IntsTo.same ints2.out (hgb g hg1), ?_⟩, by simp [intOf]; omega⟩
      · rw [List.range_succ, List.map_append]; exact hown3
      · refine ⟨hgrow.os.trans kp2.out.os, hgrow.tape.trans kp2.out.tape, hgrow.output.trans kp2.out.output, ?_, ?_⟩
        · have := hgrow.size; simp at this; omega
        · intro k hk hn
          rw [hgb k hk]; exact kp2.out.block k hk hn
    · obtain rfl : j = n := by omega
      have HK : Hid _ := rkinds_any ab ao j cap dk di da db wr base ((HA.out.kp (X := fun _ => False) (Kp.of_below HB1.out) (fun _ h => h)).kp HP.out.kp (fun h => by have := HA.out.lt h; omega)) (by omega)
      go_wp2_with fail
      refine Calls.mono HK.out ?_
      rintro e w2 ⟨v, rfl, hb2, hv2⟩
      go_wp2
      (try simp only [Exit.inBlock, Exit.then]); refine bodyPost_ret (results_tmp4 rfl _ _ _) rfl ?_
      have hk := HP.out.kp
      have sz := hk.size
      have sz2 := hb2.size
      refine ⟨_, g, cg, v, rfl, ?_, hg0, by omega, ?_, HP.out.ints.same (hb2.block g (by omega)), owns_mono hv2 (by omega)⟩
      · exact (HB1.out.trans (hk.to_below w.heap.size (by omega) (by omega))).trans (hb2.mono (by omega))
      · exact owns_mono (owns_kept HP.out.own (fun k hk' _ => hb2.block k hk')) (by omega)
end Go.Proofs.Ytlbfkgecckdlgaa
