/- Layer 2: CellGates, walked. -/
import Derived.Test.YtlbfkgecckdlgaaCGInv
namespace Go.Proofs.Ytlbfkgecckdlgaa
open Go.RowKit

theorem below_drew_alloc {w W : World} (h : Below w.heap.size w W) (o : Obj) : Below w.heap.size w (W.drew.alloc o) :=
  Below.alloc (w := W.drew) ⟨h.os, h.tape, h.output, h.size, h.block⟩ h.size o
theorem pass_nil (kd : Int) (w : World) : Calls Try.prog 59 #[.nilIface, .int .i64 kd] w fun e w' => e = .returned (.tuple #[]) ∧ w = w' := by
  go_enter Try.func59, Try.ntmps59
  go_wp2
  go_end0
  exact ⟨rfl, rfl⟩
theorem pLoad (b i : Nat) (x : Int) (w : World) (hc : w.cell? ⟨b, i, none⟩ = some (.int .i64 x)) : Calls Try.prog 19 #[.pointer (some ⟨b, i, none⟩), .nilIface] w fun e w' => e = .returned (.int .i64 x) ∧ w' = w := by
  go_enter Try.func19, Try.ntmps19
  go_wp2_with (first | (go_at_call 59; refine (pass_nil _ _).mono ?_; rintro e w' ⟨rfl, rfl⟩) | (go_at_call 60; refine (word_num _ _ _).mono ?_; rintro e w' ⟨rfl, rfl⟩) | (go_at_call 61; refine (aLoad b i x _ hc).mono ?_; rintro e w' ⟨rfl, rfl⟩))
  go_ret
  exact ⟨rfl, rfl⟩

theorem gi_start {w w1 w2 : World} (hb1 : Below w.heap.size w w1) (hs2 : NSt w2 (w1.heap.size + 1) 0) (hb2 : Below (w1.heap.size + 1) (w1.alloc (.cells #[.slice none 0 0] 114)) w2) (t1 t2 : TypeId) :
    GI w1.heap.size w2.heap.size w ((w2.alloc (.cells #[.int .i64 0] t1)).alloc (.cells #[.int .i64 0] t2)) (.slice none 0 0) [] 0 := by
  have hl := hs2.lt
  have hk : Kp (fun _ => False) w2 ((w2.alloc (.cells #[.int .i64 0] t1)).alloc (.cells #[.int .i64 0] t2)) := ((Kp.refl _ _).alloc _).alloc _
  have hT : w2.heap[w1.heap.size]? = (w1.alloc (.cells #[.slice none 0 0] 114)).heap[w1.heap.size]? := hb2.block _ (by omega)
  have c0 : w2.cell? ⟨w1.heap.size, 0, none⟩ = some (.slice none 0 0) := by rw [World.cell?_of_block (w := w1.alloc (.cells #[.slice none 0 0] 114)) (w' := w2) (a := ⟨w1.heap.size, 0, none⟩) hT]; simp
  have f0 : w2.frozen? ⟨w1.heap.size, 0, none⟩ = false := by rw [World.frozen?_of_block (w := w1.alloc (.cells #[.slice none 0 0] 114)) (w' := w2) (a := ⟨w1.heap.size, 0, none⟩) hT]; simp
  have s1 := hb1.size
  refine ⟨⟨.slice none 0 0, (hk.cell (p := ⟨w1.heap.size, 0, none⟩) (by simp; omega) (fun h => h)).trans c0, World.ownsRow_nil _ _ _ _, fun g h => by cases h⟩, (hk.frozen (p := ⟨w1.heap.size, 0, none⟩) (by simp; omega) (fun h => h)).trans f0, World.ownsRow_nil _ _ _ _, hs2.kp hk (fun h => h), ⟨by simp; omega, by simp, by simp⟩, ⟨by simp, by simp, by simp⟩, by omega, by simp, ?_, s1⟩
  refine (hb1.trans (((Below.refl _ _).alloc s1 _).trans (hb2.mono (by omega)))).trans (hk.to_below _ (by omega) (fun _ _ h => h))

set_option maxRecDepth 100000 in
set_option maxHeartbeats 8000000 in
theorem gates_walk (ab ao n cap : Nat) (base : Option Addr) (dk di da db : Nat → Int) (w : World) (h : CActs w base ab ao n dk di da db) (hbytes : n * 32 ≤ 140737488355328) :
    Calls Try.prog 5 #[.slice base n cap] w fun e w' => e = .returned (.bool true) ∧ Below w.heap.size w w' := by
  obtain ⟨i0, hi0, hz0, hz1, hz2⟩ := info_parts int_info
  have HA : Hid _ := h
  have hlen := h.len
  clear h
  go_enter Try.func5, Try.ntmps5
  go_wp2_with (first | (go_at_call 11; refine (awake_any _).mono ?_; rintro e w1 ⟨rfl, hb1⟩) | (go_at_call 17; refine (newTape_any _).mono ?_; rintro e w2 ⟨rfl, rfl⟩) | (go_at_call 18; refine (newNum_any _ _).mono ?_; rintro e w2 ⟨rfl, hs2, hb2⟩))
  have G0 : Hid _ := gi_start hb1 (by simpa using hs2) (by simpa using hb2) 51 3
  clear hs2 hb2 hb1
  generalize hT : w1.heap.size = T at *
  generalize hU : w2.heap.size = U at *
  go_loopw [6, 18] (fun v i wr => ∃ (j : Nat) (ks : List Int) (x : Int), j ≤ n ∧ i = .int .i64 j ∧ ks.length ≤ j ∧ GI T U w wr v ks x) (fun _ i _ => n - (intOf i).toNat)
  case atStart => exact ⟨0, [], 0, Nat.zero_le _, rfl, Nat.le_refl _, G0.out⟩
  case round =>
    obtain ⟨j, ks, x, hj, rfl, hkl, hg⟩ := hrel
    have HG : Hid _ := hg
    clear hg G0
    by_cases hlt : j < n
    · obtain rfl : base = some ⟨ab, ao, none⟩ := HA.out.base (by omega)
      obtain ⟨c0, c1, c2, c3⟩ := (HA.out.below HG.out.below).cells j hlt
      have j0 : (0 : Int) ≤ (j : Int) := Int.natCast_nonneg _
      have j1 : (j : Int) < (n : Int) := by omega
      have hA := HA.out.lt (by omega)
      have hn1 : ¬ ab = wr.heap.size := by have := HG.out.below.size; omega
      by_cases h1 : dk j < 1
      · go_wp2_with fail
        exact ⟨⟨j + 1, ks, x, by omega, by go_num, by omega, HG.out.kp ((Kp.refl _ _).alloc _)⟩, by simp [intOf]; omega⟩
      · by_cases h2 : 7 < dk j
        · go_wp2_with fail
          exact ⟨⟨j + 1, ks, x, by omega, by go_num, by omega, HG.out.kp ((Kp.refl _ _).alloc _)⟩, by simp [intOf]; omega⟩
        · obtain ⟨r, hr, hrl, hrk, hTZ⟩ := HG.out.open
          have hd : 1 ≤ dk j ∧ dk j ≤ 7 := by omega
          have hWk : Kp (fun _ => False) wr (wr.alloc (.cells #[.int .i64 (dk j), .int .i64 0, .int .i64 (da j), .int .i64 (db j)] 52)) := (Kp.refl _ _).alloc _
          have hI := HG.out.kp hWk
          have hsz := HG.out.size
          have htu := HG.out.tu
          have hwt := HG.out.wt
          have hO := one_any (U + 1) 0 1 1 x (dk j) (da j) (db j) hd _ (by omega) hI.n3.lt hI.n3.cell hI.n3.fro
          rw [show ((0 : Nat) : Int) = 0 from rfl] at hO
          have HO : Hid _ := hO
          have HI : Hid _ := hI
          have a0 : AAt (wr.alloc (.cells #[.int .i64 (dk j), .int .i64 0, .int .i64 (da j), .int .i64 (db j)] 52)) wr.heap.size (dk j) (da j) (db j) := ⟨by simp, by simp, by simp, by simp⟩
          have A0 : Hid _ := a0
          have HT : Hid _ := hTZ (wr.heap.size + 1) _ (by omega) hWk (by simp)
          clear hO hI a0 hTZ
          go_wp2_with fail
          refine Calls.mono HO.out ?_
          rintro e wb ⟨rfl, s1⟩
          have sb := s1.kp.size
          simp at sb
          have a1 := A0.out.kp s1.kp (by simp) (by rintro (h | h); exact h; omega)
          have tzb := (gate_tapeZ T (U + 2) (wr.heap.size + 1) r 0 (by omega)).keep _ (fun k => False ∨ k = U + 1) _ _ HT.out s1.kp (fun k h => by rcases h with h | h; exact h.elim; unfold TX; omega)
          have n1b := HI.out.n1.kp s1.kp (by rintro (h | h); exact h; omega)
          have n2b := HI.out.n2.kp s1.kp (by rintro (h | h); exact h; omega)
          have HM : Hid _ := gnum_any (gate_tapeZ T (U + 2) (wr.heap.size + 1) r 17592186044415 (Nat.le_refl _)) ks (by omega) (T + 1) 0 x (dk j) 0 (da j) (db j) hd wb tzb (by unfold TX; omega) n1b.lt n1b.cell n1b.fro
          have A1 : Hid _ := a1
          have N2 : Hid _ := n2b
          have S1 : Hid _ := s1
          obtain ⟨b0, b1, b2, b3⟩ := a1
          clear tzb n1b n2b s1 HO HT c0 c1 c2 c3 A0
          go_wp2_with fail
          refine Calls.mono HM.out ?_
          rintro e wc ⟨rfl, tz, s2⟩
          have sc := s2.kp.size
          have a2 := A1.out.kp s2.kp (by omega) (by unfold TX; omega)
          have n2c := N2.out.kp s2.kp (by unfold TX; omega)
          have HM2 : Hid _ := gnum_any (gate_nil 1) [] (by simp) U 0 x (dk j) 0 (da j) (db j) hd wc trivial (fun h => h) n2c.lt n2c.cell n2c.fro
          have A2 : Hid _ := a2
          have S2 : Hid _ := s2
          have TZ : Hid _ := tz
          clear b0 b1 b2 b3
          obtain ⟨b0, b1, b2, b3⟩ := a2
          clear n2c s2 HM A1 N2 tz
          go_wp2_with fail
          refine Calls.mono HM2.out ?_
          rintro e wd ⟨rfl, _, s3⟩
          have sd := s3.kp.size
          have a3 := A2.out.kp s3.kp (by omega) (by rintro (h | h); exact h; omega)
          have M : Hid _ := HG.out.mid hr hrk hWk S1.out S2.out TZ.out s3
          clear b0 b1 b2 b3 A2 S1 S2 TZ HM2 s3
          obtain ⟨b0, b1, b2, b3⟩ := a3
          have hkd := M.out.kinds
          go_wp2_with (first | (at_builtin; (refine wpList_append_lies _ (by rfl) _ _ _ (by rfl) (U + 2) 3 i0 _ 1 8 ints_under hi0 hz0 hz1 hz2 rfl (by omega) _ ks.length _ (by rfl) (hkd.alloc _) ⟨wd.heap.size, 0, none⟩ 1 1 [.int .i64 (dk j)] (by rfl) (by rfl) (World.news_of_block (cs := #[.int .i64 (dk j)]) (t := 3) (fr := (0, 0)) (heap_alloc_at _ _ _ (by simp))) (by simp [Value.oneCell']) (by omega) (by unfold maxLen; omega) (by omega) (by simp; omega) (wd.heap.size + 1) (by simp) ?_); intro gg cap w3 hown3 hgrow hat hlt3))
          have G1 : Hid _ := M.out.grown htu hwt hown3 hgrow hat
          have hkl1 : (ks ++ [dk j]).length = ks.length + 1 := by simp
          have HK : Hid _ := kinds_any T (U + 2) (ks ++ [dk j]) w3 G1.out.at_ (by omega) (by omega)
          clear b0 b1 b2 b3 hkd hown3 hgrow hat M
          refine Calls.mono HK.out ?_
          rintro e wf ⟨v', rfl, hov, hbf⟩
          obtain ⟨a5, c5, b5, rfl, hn5⟩ := owns_list hov (by unfold maxLen; omega)
          have G2 := G1.out.kp (Kp.of_below hbf)
          have hn6 : ∃ b, NumsAt wf (some ⟨gg, 0, none⟩) b 0 (ks ++ [dk j]).length (atL (ks ++ [dk j])) := by
            obtain ⟨a6, c6, b6, e6, hn⟩ := owns_list G2.kinds (by unfold maxLen; omega)
            injection e6 with q1 q2 q3
            subst q1
            exact ⟨b6, hn⟩
          obtain ⟨b6, hn6⟩ := hn6
          have HG2 : Hid _ := G2
          have HS : Hid _ := ints_same b5 0 b6 0 (ks ++ [dk j]).length c5 cap a5 (some ⟨gg, 0, none⟩) (atL (ks ++ [dk j])) wf hn5 hn6
          rw [hkl1] at HS ⊢
          clear hn5 hn6 hov hbf G1 G2 HK
          go_wp2_with fail
          refine Calls.mono HS.out ?_
          rintro e wg ⟨rfl, hbg⟩
          have HG3 : Hid _ := HG2.out.kp (Kp.of_below hbg)
          clear hbg HG2 HS
          go_wp2
          exact ⟨⟨j + 1, ks ++ [dk j], _, by omega, by go_num, by omega, HG3.out⟩, by simp [intOf]; omega⟩
    · obtain rfl : j = n := by omega
      obtain ⟨r, hr, hrl, hrk, hTZ⟩ := HG.out.open
      have hsz := HG.out.size
      have htu := HG.out.tu
      have hwt := HG.out.wt
      have HP1 : Hid _ := tapeZ_pass T (U + 2) wr.heap.size r ks 7 wr (hTZ _ _ (Nat.le_refl _) (Kp.refl _ _) (Nat.le_refl _)) (by omega)
      go_wp2_with fail
      refine Calls.mono HP1.out ?_
      rintro e wb ⟨rfl, tz1, k1⟩
      have HP2 : Hid _ := tapeZ_pass T (U + 2) wr.heap.size r (ks ++ [7]) 0 wb tz1 (by simp; omega)
      clear tz1 HP1
      go_wp2_with fail
      refine Calls.mono HP2.out ?_
      rintro e wc ⟨rfl, tz2, k2⟩
      have kk : Kp (TX T wr.heap.size r) wr wc := k1.trans k2
      have hge := owns_ge HG.out.kinds
      have hkd : wc.ownsRow (U + 2) 3 1 _ ks.length (ks.map (Value.int .i64)) := owns_same HG.out.kinds (fun g hg hl => kk.block g hl (by unfold TX; have := hge g hg; have : g ≠ r := fun e => hrk (e ▸ hg); omega))
      have n1 := HG.out.n1.kp kk (by unfold TX; omega)
      have n2 := HG.out.n2.kp kk (by unfold TX; omega)
      have n3 := HG.out.n3.kp kk (by unfold TX; omega)
      have bw : Below w.heap.size w wc := HG.out.below.trans (kk.to_below w.heap.size HG.out.below.size (by unfold TX; omega))
      have N1 : Hid _ := n1
      have N2 : Hid _ := n2
      have N3 : Hid _ := n3
      have BW : Hid _ := bw
      have TZ : Hid _ := tz2
      have ksz := kk.size
      have HKD : Hid (World.ownsRow _ _ _ _ _ _ _) := hkd
      clear n1 n2 n3 bw k1 k2 kk tz2 HP2 hTZ hkd
      go_wp2_with fail
      have e2 : (ks ++ [7] ++ [0]).length = ks.length + 2 := by simp
      have HK : Hid _ := kinds_any T (U + 2) (ks ++ [7] ++ [0]) wc TZ.out.at_ (by omega) (by omega)
      refine Calls.mono HK.out ?_
      rintro e wf ⟨v', rfl, hov, hbf⟩
      have sf := hbf.size
      have hkf := owns_same (w' := wf) HKD.out (fun g hg hl => hbf.block g hl)
      have klt := owns_lt HKD.out
      have HOV : Hid (World.ownsRow _ _ _ _ _ _ _) := hov
      clear HK hov
      go_wp2_with (first | (at_builtin; (refine wpList_append_lies _ (by rfl) _ _ _ (by rfl) (U + 2) 3 i0 _ 1 8 ints_under hi0 hz0 hz1 hz2 rfl (by omega) _ ks.length _ (by rfl) (hkf.alloc _) ⟨wf.heap.size, 0, none⟩ 2 2 [.int .i64 7, .int .i64 0] (by rfl) (by rfl) (World.news_of_block (cs := #[.int .i64 7, .int .i64 0]) (t := 3) (fr := (0, 0)) (heap_alloc_at _ _ _ (by simp))) (by simp [Value.oneCell']) (by omega) (by unfold maxLen; omega) (by omega) (by simp; omega) (wf.heap.size + 1) (by simp) ?_); intro gg cap w3 hown3 hgrow hat hlt3))
      have hbl : ∀ k, k < wf.heap.size → Value.ownBlock _ ≠ some k → w3.heap[k]? = wf.heap[k]? := fun k hk hn => by
        rw [hgrow.block k (by simp; omega) (fun e => hn e.symm), Below.heap_alloc _ _ _ hk]
      have gs3 := hgrow.size
      simp at gs3
      have hov3 := owns_same (w' := w3) HOV.out (fun g hg hl => hbl g hl (fun e => by have := klt g e; have := owns_ge HOV.out g hg; omega))
      have hk3 : w3.ownsRow (U + 2) 3 1 (.slice (some ⟨gg, 0, none⟩) (ks.length + 2) cap) (ks ++ [7] ++ [0]).length ((ks ++ [7] ++ [0]).map (Value.int .i64)) := by
        rw [e2]; simpa using hown3
      obtain ⟨a5, c5, b5, rfl, hn5⟩ := owns_list hov3 (by unfold maxLen; omega)
      obtain ⟨a6, c6, b6, q6, hn6⟩ := owns_list hk3 (by unfold maxLen; omega)
      injection q6 with q1 q2 q3
      subst q1 q3
      have HS := ints_same b5 0 b6 0 (ks ++ [7] ++ [0]).length c5 cap a5 (some ⟨gg, 0, none⟩) (atL (ks ++ [7] ++ [0])) w3 hn5 hn6
      have hlow : ∀ k, k < U + 2 → w3.heap[k]? = wc.heap[k]? := fun k hk => (hbl k (by omega) (fun e => by have := hge k e; omega)).trans (hbf.block k (by omega))
      have nst : ∀ b y, b < U + 2 → NSt wc b y → NSt w3 b y := fun b y hb hn => by
        refine ⟨by have := hn.lt; omega, ?_, ?_⟩
        · rw [World.cell?_of_block (w := wc) (w' := w3) (a := ⟨b, 0, none⟩) (hlow b hb)]; exact hn.cell
        · rw [World.frozen?_of_block (w := wc) (w' := w3) (a := ⟨b, 0, none⟩) (hlow b hb)]; exact hn.fro
      have N1' : Hid _ := nst _ _ (by omega) N1.out
      have N2' : Hid _ := nst _ _ (by omega) N2.out
      have N3' : Hid _ := nst _ _ (by omega) N3.out
      have BW3 : Hid (Below w.heap.size w w3) := BW.out.trans ⟨hgrow.os.trans hbf.os, hgrow.tape.trans hbf.tape, hgrow.output.trans hbf.output, by omega, fun k hk => hlow k (by have := BW.out.size; omega)⟩
      rw [e2] at HS ⊢
      clear hbl hov3 hk3 hn5 hn6 hown3 hgrow hat hkf hbf N1 N2 N3 BW HOV HKD hlow nst q2 e2
      refine Calls.mono HS ?_
      rintro e wg ⟨rfl, hbg⟩
      have kg : Kp (fun _ => False) w3 wg := Kp.of_below hbg
      have n1 := N1'.out.kp kg (fun h => h)
      have N2 : Hid _ := N2'.out.kp kg (fun h => h)
      have n3 := N3'.out.kp kg (fun h => h)
      have BG : Hid (Below w.heap.size w wg) := BW3.out.trans (hbg.mono BW3.out.size)
      have n2 := N2.out
      have q1 : wg.drew.cell? ⟨T + 1, 0, none⟩ = some (.int .i64 x) := n1.cell
      have q2 : wg.drew.cell? ⟨U, 0, none⟩ = some (.int .i64 x) := n2.cell
      have q3 : wg.drew.cell? ⟨U + 1, 0, none⟩ = some (.int .i64 x) := n3.cell
      have q3' := n3.cell
      have HL1 : Hid _ := pLoad (T + 1) 0 x wg.drew q1
      have HL2 : Hid _ := pLoad U 0 x wg.drew q2
      clear n1 n2 n3 kg hbg N1' N2' N3' BW3 HS N2 q1 q2
      go_wp2_with fail
      go_region_with (first | (go_at_call_of 19 T; refine Calls.mono HL1.out ?_; rintro e w' ⟨rfl, rfl⟩) | (go_at_call_of 19 U; refine Calls.mono HL2.out ?_; rintro e w' ⟨rfl, rfl⟩) | (go_at_call 17; refine (newTape_any _).mono ?_; rintro e w' ⟨rfl, rfl⟩) | (go_at_call 20; refine (kinds_nil _ _ (by simp)).mono ?_; rintro e w' ⟨rfl, rfl⟩))
      all_goals
        go_wp2
        go_ret
        refine ⟨?_, below_drew_alloc BG.out _⟩
        simp [go_sem]
end Go.Proofs.Ytlbfkgecckdlgaa
