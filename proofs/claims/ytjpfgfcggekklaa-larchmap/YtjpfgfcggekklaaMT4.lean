/- Through the layers: the law LarchMap. -/
import Derived.Test.YtjpfgfcggekklaaML4
import Derived.Test.YtjpfgfcggekklaaMT3
import Derived.Test.YtjpfgfcggekklaaMOf
import Derived.Test.YtjpfgfcggekklaaMP2
import Derived.Deep.DeepCutAuto
import Derived.Deep.CutRange
namespace Go.Proofs.Ytjpfgfcggekklaa
open Go.RowKit

theorem nilOk_of {w : World} {a : Option Addr} {h : Nat} {l : PL} {k : Nat} (hp : PairsAt w a h 0 l) (hk : a = none → k = 0) : NilOk a l.length k := by
  intro e
  refine ⟨Decidable.byContradiction fun q => ?_, hk e⟩
  have := hp.base q
  rw [e] at this
  cases this

set_option maxRecDepth 100000 in
set_option maxHeartbeats 1600000 in
theorem map_any (sa oa : Option Addr) (sc sg so oc og oo : Nat) (Ss : PL) (Os : List OpD) (lo hi : Int) (w : World) (hs : PairsAt w sa sg so Ss) (hsn : NilOk sa Ss.length sc) (hsc : Ss.length ≤ sc) (ho : OpsAt w oa og oo Os) :
    Calls Try.prog 7 #[.agg #[.slice sa Ss.length sc, .slice oa Os.length oc, .int .i64 lo, .int .i64 hi]] w fun e w' => e = .returned (.bool true) ∧ Below w.heap.size w w' := by
  obtain ⟨i4, hi4, hf0, hf1, hf2⟩ := info_parts op_info
  have lo1 := ho.len
  unfold maxLen at lo1
  have HS : Hid (PairsAt w sa sg so Ss) := hs
  have HO : Hid (OpsAt w oa og oo Os) := ho
  obtain ⟨T, hT⟩ : ∃ T, Ss.take 60 = T := ⟨_, rfl⟩
  obtain ⟨m0, hm0⟩ : ∃ z, ofL T = z := ⟨_, rfl⟩
  obtain ⟨fit, hfit⟩ : ∃ z, fitN Os Os.length = z := ⟨_, rfl⟩
  obtain ⟨L, hL⟩ : ∃ z, runL m0 fit = z := ⟨_, rfl⟩
  have tl : T.length ≤ 60 := by rw [← hT, List.length_take]; omega
  have ml0 : m0.length ≤ 60 := by rw [← hm0]; exact Nat.le_trans (ofN_length _ _) tl
  have fl : fit.length ≤ 60 := by rw [← hfit]; exact fitN_le _ _
  have ll : L.length ≤ 120 := by rw [← hL]; have := runL_length fit m0; omega
  have sm0 : Srt m0 := by rw [← hm0]; exact ofL_srt _
  have sL : Srt L := by rw [← hL]; exact runL_srt fit sm0
  have eR : runErr m0 fit = 0 := by unfold runErr; rw [if_pos (ckErr_zero.2 sm0), ← hfit, kErr_fit]
  have eL : runLd m0 fit = L := by unfold runLd; rw [if_pos eR]; exact hL
  have eC : ckErr L = 0 := ckErr_zero.2 sL
  have FEW : Hid (∀ W, PairsAt W sa sg so Ss → Calls Try.prog 41 #[.slice sa Ss.length sc, .int .i64 60] W fun e w' => ∃ base cap g, e = .returned (.slice base T.length cap) ∧ Below W.heap.size W w' ∧ PairsAt w' base g 0 T) := fun W h => by
    have := fewPairs_any sa sg so sc 60 Ss W h hsn hsc (by omega)
    rw [hT] at this
    refine this.mono ?_
    rintro e w' ⟨base, cap, g, e1, h1, h2, _⟩
    exact ⟨base, cap, g, e1, h1, h2⟩
  have OF : Hid (∀ W base g cap, PairsAt W base g 0 T → Calls Try.prog 20 #[.slice base T.length cap] W fun e w' => ∃ a k h, e = .returned (.slice a m0.length k) ∧ Below W.heap.size W w' ∧ PairsAt w' a h 0 m0 ∧ NilOk a m0.length k) := fun W base g cap h => by
    have := Of_map base g 0 cap T W h (by omega)
    rw [hm0] at this
    refine this.mono ?_
    rintro e w' ⟨a, g', k, e1, h1, _, h2, h3⟩
    exact ⟨a, k, g', e1, h1, h2, nilOk_of h2 h3⟩
  have RUN : Hid (∀ W a h k b g c, PairsAt W a h 0 m0 → NilOk a m0.length k → OpsAt W b g 0 fit → Calls Try.prog 33 #[.slice a m0.length k, .slice b fit.length c] W fun e w' => ∃ a1 k1 h1 v2, e = .returned (.tuple #[.slice a1 L.length k1, v2, .int .i64 0]) ∧ Below W.heap.size W w' ∧ PairsAt w' a1 h1 0 L ∧ NilOk a1 L.length k1) := fun W a h k b g c p1 p2 p3 => by
    have := pRun_any a h 0 k m0 b g 0 c fit W p1 p2 p3 (by omega)
    rw [eR, eL] at this
    refine this.mono ?_
    rintro e w' ⟨v1, a2, c2, g2, rfl, hb, ⟨a1, g1, c1, rfl, _, hp, hn⟩, _⟩
    exact ⟨a1, c1, g1, _, rfl, hb, hp, nilOk_of hp hn⟩
  have COPY : Hid (∀ W a h k, PairsAt W a h 0 L → NilOk a L.length k → Calls Try.prog 42 #[.slice a L.length k] W fun e w' => ∃ base cap g, e = .returned (.slice base L.length cap) ∧ Below W.heap.size W w' ∧ PairsAt w' base g 0 L ∧ NilOk base L.length cap ∧ L.length ≤ cap ∧ cap ≤ maxLen) := fun W a h k p1 p2 => by
    refine (tCopy_any a h 0 k L W p1 p2 (by omega)).mono ?_
    rintro e w' ⟨base, cap, g, e1, h1, h2, h3, h4, h5, _⟩
    exact ⟨base, cap, g, e1, h1, h2, h3, h4, h5⟩
  have CK : Hid (∀ W base g cap, PairsAt W base g 0 L → Calls Try.prog 10 #[.slice base L.length cap] W fun e w' => e = .returned (.int .i64 0) ∧ Below W.heap.size W w') := fun W base g cap h => by
    have := pcheck_any base g 0 cap L W h
    rw [eC] at this; exact this
  obtain ⟨pt, hpt⟩ : ∃ z, inL lo hi L = z := ⟨_, rfl⟩
  have ep : partL L lo hi = pt := by unfold partL; rw [if_neg (fun q => q eC), hpt]
  have PA : Hid (∀ W base g cap, PairsAt W base g 0 L → NilOk base L.length cap → L.length ≤ cap → cap ≤ maxLen → Calls Try.prog 24 #[.slice base L.length cap, .int .i64 lo, .int .i64 hi] W fun e w' => ∃ a k h, e = .returned (.tuple #[.slice a pt.length k, .int .i64 0]) ∧ Below W.heap.size W w' ∧ PairsAt w' a h 0 pt) := fun W base g cap h1 h2 h3 h4 => by
    have := pPart_any base g 0 cap L lo hi W h1 h2 h3 h4 (by omega)
    rw [ep, eC] at this
    refine this.mono ?_
    rintro e w' ⟨v, rfl, hb, a, h, k, rfl, _, hp, _⟩
    exact ⟨a, k, h, rfl, hb, hp⟩
  have FI : Hid (∀ j, j < L.length → ∀ W base g cap, PairsAt W base g 0 L → Calls Try.prog 22 #[.slice base L.length cap, .int .i64 (keyAt L j)] W fun e w' => e = .returned (.tuple #[.int .i64 j, .bool true, .int .i64 0]) ∧ Below W.heap.size W w') := fun j hj W base g cap h => by
    have := pFind_any base g 0 cap L (keyAt L j) W h
    rw [(find_at sL hj).1, (find_at sL hj).2, eC] at this; exact this
  have GET : Hid (∀ j, j < L.length → ∃ L', ∀ W base g cap, PairsAt W base g 0 L → NilOk base L.length cap → L.length ≤ cap → cap ≤ maxLen → DoQ 31 base cap L ⟨1, keyAt L j, 0, 0⟩ 0 L' ⟨true, 0, valAt L j, []⟩ W) := fun j hj => ⟨_, fun W base g cap h1 h2 h3 h4 => doQ_of (pDo_any base g 0 cap L ⟨1, keyAt L j, 0, 0⟩ W h1 h2 h3 h4 (by omega)) (do_get sL hj).1 rfl (do_get sL hj).2⟩
  obtain ⟨A, hA⟩ : ∃ z, doR L ⟨5, lo, 0, 0⟩ = z := ⟨_, rfl⟩
  obtain ⟨Bf, hBf⟩ : ∃ z, doR L ⟨6, lo, 0, 0⟩ = z := ⟨_, rfl⟩
  obtain ⟨L5, hL5⟩ : ∃ z, doL L ⟨5, lo, 0, 0⟩ = z := ⟨_, rfl⟩
  obtain ⟨L6, hL6⟩ : ∃ z, doL L ⟨6, lo, 0, 0⟩ = z := ⟨_, rfl⟩
  have AO : Hid (AfterOk L lo A) := by show AfterOk L lo A; rw [← hA]; exact (after_ok sL lo).2
  have BO : Hid (BeforeOk L lo Bf) := by show BeforeOk L lo Bf; rw [← hBf]; exact (before_ok sL lo).2
  have NEXT : Hid (∀ W base g cap, PairsAt W base g 0 L → NilOk base L.length cap → L.length ≤ cap → cap ≤ maxLen → DoQ 31 base cap L ⟨5, lo, 0, 0⟩ 0 L5 A W) := fun W base g cap h1 h2 h3 h4 => doQ_of (pDo_any base g 0 cap L ⟨5, lo, 0, 0⟩ W h1 h2 h3 h4 (by omega)) (after_ok sL lo).1 hL5 hA
  have BACK : Hid (∀ W base g cap, PairsAt W base g 0 L → NilOk base L.length cap → L.length ≤ cap → cap ≤ maxLen → DoQ 31 base cap L ⟨6, lo, 0, 0⟩ 0 L6 Bf W) := fun W base g cap h1 h2 h3 h4 => doQ_of (pDo_any base g 0 cap L ⟨6, lo, 0, 0⟩ W h1 h2 h3 h4 (by omega)) (before_ok sL lo).1 hL6 hBf
  unfold DoQ at GET NEXT BACK
  have SL : Hid (Srt L) := sL
  have HPT : Hid (inL lo hi L = pt) := hpt
  have HFIT : Hid (fitN Os Os.length = fit) := hfit
  clear hs hsn hsc ho hT hm0 hfit hL sm0 sL eR eL eC hpt ep hA hBf hL5 hL6
  go_enter Try.func7, Try.ntmps7
  go_wp2_with fail
  obtain ⟨WA, hWA⟩ : ∃ WA, WA = w.alloc (.cells #[.slice sa Ss.length sc, .slice oa Os.length oc, .int .i64 lo, .int .i64 hi] 62) := ⟨_, rfl⟩
  rw [← hWA]
  have bA : Below w.heap.size w WA := by rw [hWA]; exact below_alloc _ _
  have zA : w.heap.size < WA.heap.size := by rw [hWA]; simp
  have c0 : WA.cell? ⟨w.heap.size, 0, none⟩ = some (.slice sa Ss.length sc) := by rw [hWA]; exact cell_new w _ _ 0
  have c1 : WA.cell? ⟨w.heap.size, 1, none⟩ = some (.slice oa Os.length oc) := by rw [hWA]; exact cell_new w _ _ 1
  have c2 : WA.cell? ⟨w.heap.size, 2, none⟩ = some (.int .i64 lo) := by rw [hWA]; exact cell_new w _ _ 2
  have c3 : WA.cell? ⟨w.heap.size, 3, none⟩ = some (.int .i64 hi) := by rw [hWA]; exact cell_new w _ _ 3
  clear hWA
  go_quiet (fail)
  have B0 : Hid (Below w.heap.size w (WA.drewN nq)) := below_drewN bA _
  clear c0 c1 c2 c3 bA zA
  generalize WA.drewN nq = W0 at *
  go_wp2_with fail
  refine (rows_any W0).mono ?_
  rintro e w1 ⟨rfl, hb1⟩
  have B1 : Hid (Below w.heap.size w w1) := B0.out.trans (hb1.mono B0.out.size)
  clear hb1
  go_wp2_with fail
  refine (FEW.out w1 (HS.out.below B1.out)).mono ?_
  rintro e w2 ⟨fa, fk, fg, rfl, hb2, hp2⟩
  have B2 : Hid (Below w.heap.size w w2) := B1.out.trans (hb2.mono B1.out.size)
  have P2 : Hid (PairsAt _ _ _ _ _) := hp2
  clear hb2 hp2
  go_wp2_with fail
  refine (OF.out w2 fa fg fk P2.out).mono ?_
  rintro e w3 ⟨ma, mk, mh, rfl, hb3, hp3, hn3⟩
  have B3 : Hid (Below w.heap.size w w3) := B2.out.trans (hb3.mono B2.out.size)
  have P3 : Hid (PairsAt _ _ _ _ _) := hp3
  have N3 : Hid (NilOk ma m0.length mk) := hn3
  clear hb3 hp3 hn3
  have s3 := B3.out.size
  go_wp2_with fail
  have ho0 : (w3.alloc (.cells #[] 25)).ownsRow w3.heap.size 25 4 (.slice (some ⟨w3.heap.size, 0, none⟩) 0 0) 0 [] := ⟨rfl, Or.inr ⟨w3.heap.size, 0, #[], rfl, Nat.le_refl _, heap_alloc_at _ _ _ rfl, Nat.le_refl _, by unfold maxLen; omega, rfl, rfl⟩⟩
  have O0 : Hid (World.ownsRow _ _ _ _ _ _ _) := ho0
  clear ho0
  go_loopw [8, 46] (fun v i wr => ∃ j : Nat, j ≤ Os.length ∧ i = .int .i64 j ∧ Below w3.heap.size w3 wr ∧ wr.ownsRow w3.heap.size 25 4 v (fitN Os j).length (opsC (fitN Os j))) (fun _ i _ => Os.length - (intOf i).toNat)
  case atStart => exact ⟨0, Nat.zero_le _, rfl, below_alloc _ _, O0.out⟩
  case round =>
    obtain ⟨j, hj, rfl, hbw, hown⟩ := hrel
    have hle := fitN_le Os j
    have BW : Hid (Below w3.heap.size w3 wr) := hbw
    have OW : Hid (World.ownsRow _ _ _ _ _ _ _) := hown
    obtain ⟨ja, jk, jg, rfl, _, _, _⟩ := ops_of_owns hown (by unfold maxLen; omega)
    have s4 := hbw.size
    clear hbw hown
    by_cases hlt : j < Os.length
    · have HB : Hid (Below w.heap.size w wr) := B3.out.trans (BW.out.mono B3.out.size)
      obtain rfl : oa = some ⟨og, oo, none⟩ := HO.out.base (by omega)
      obtain ⟨d0, d1, d2, d3⟩ := (HO.out.below HB.out).cells j hlt
      have zo : og < wr.heap.size := (HO.out.below HB.out).lt (by omega)
      have j0 : (0 : Int) ≤ (j : Int) := Int.natCast_nonneg _
      have j1 : (j : Int) < (Os.length : Int) := by omega
      have HN : Hid (fitN Os (j + 1) = if kdErr (opAt Os j).kind = 0 ∧ (fitN Os j).length < 60 then fitN Os j ++ [opAt Os j] else fitN Os j) := rfl
      generalize fitN Os j = F at *
      generalize opAt Os j = op at *
      by_cases k0 : kdErr op.kind = 0
      · have k1 : (kdErr op.kind == 0) = true := by simp [k0]
        by_cases k2 : F.length < 60
        · have k3 : (F.length : Int) < 60 := by omega
          have HQ : Hid (kdErr op.kind = 0 ∧ F.length < 60) := ⟨k0, k2⟩
          have hO := OW.out
          clear k0
          go_wp2_with fail
          refine (pkind_any _ _).mono ?_
          rintro e wz ⟨rfl, rfl⟩
          go_wp2_with (first | (at_builtin; (refine wpList_append_lies _ (by rfl) _ _ _ (by rfl) w3.heap.size 25 i4 _ 4 32 ops_under hi4 hf0 hf1 hf2 rfl (by omega) _ F.length _ (by rfl) ((hO.alloc _).alloc _) ⟨wr.heap.size + 1, 0, none⟩ 1 1 (opC op) (by rfl) (by rfl) (World.news_of_block (cs := #[.int .i64 op.kind, .int .i64 op.key, .int .i64 op.val, .int .i64 op.hi]) (t := 25) (fr := (0, 0)) (heap_alloc_at _ _ _ (by simp))) (by simp [Value.oneCell', opC]) (by omega) (by unfold maxLen; omega) (by omega) (by simp; omega) (wr.heap.size + 2) (by simp) ?_); intro gg cap w9 hown9 hgrow9 hat9 hlt9))
          have B9 : Hid (Below w3.heap.size w3 w9) := Below.grown ((BW.out.alloc s4 _).alloc (by simp; omega) _) hgrow9 (by simp; omega) (owns_ge OW.out)
          have O9 : Hid (World.ownsRow _ _ _ _ _ _ _) := hown9
          clear hgrow9 hat9 hown9 hO
          go_wp2_with fail
          refine ⟨⟨j + 1, by omega, by go_num, B9.out, ?_⟩, by simp [intOf]; omega⟩
          rw [HN.out, if_pos HQ.out, List.length_append, opsC_snoc]
          exact O9.out
        · have k3 : ¬ (F.length : Int) < 60 := by omega
          have HQ : Hid ((kdErr op.kind = 0 ∧ F.length < 60) → False) := fun q => k2 q.2
          clear k0 k2
          go_wp2_with fail
          refine (pkind_any _ _).mono ?_
          rintro e wz ⟨rfl, rfl⟩
          go_wp2_with fail
          refine ⟨⟨j + 1, by omega, by go_num, BW.out.alloc s4 _, ?_⟩, by simp [intOf]; omega⟩
          rw [HN.out, if_neg HQ.out]
          exact OW.out.alloc _
      · have k1 : (kdErr op.kind == 0) = false := by simp [k0]
        have HQ : Hid ((kdErr op.kind = 0 ∧ F.length < 60) → False) := fun q => k0 q.1
        clear k0
        go_wp2_with fail
        refine (pkind_any _ _).mono ?_
        rintro e wz ⟨rfl, rfl⟩
        go_wp2_with fail
        refine ⟨⟨j + 1, by omega, by go_num, BW.out.alloc s4 _, ?_⟩, by simp [intOf]; omega⟩
        rw [HN.out, if_neg HQ.out]
        exact OW.out.alloc _
    · obtain rfl : j = Os.length := by omega
      generalize wr = w4 at *
      have fo := OW.out
      rw [HFIT.out] at fo ⊢
      obtain ⟨fa', fk', fg', ef, hpf, hnf, _⟩ := ops_of_owns fo (by unfold maxLen; omega)
      simp only [Value.slice.injEq] at ef
      obtain ⟨rfl, _, rfl⟩ := ef
      have PF : Hid (OpsAt w4 ja fg' 0 fit) := hpf
      clear fo hpf hnf
      have B4 : Hid (Below w.heap.size w w4) := B3.out.trans (BW.out.mono B3.out.size)
      go_wp2_with fail
      refine (RUN.out w4 ma mh mk ja fg' jk (P3.out.below BW.out) N3.out PF.out).mono ?_
      rintro e w5 ⟨la, lk, lh, v2, rfl, hb5, hp5, hn5⟩
      have B5 : Hid (Below w.heap.size w w5) := B4.out.trans (hb5.mono B4.out.size)
      have PM : Hid (∀ w', Below w5.heap.size w5 w' → PairsAt w' la lh 0 L) := fun w' hb => hp5.below hb
      have NM : Hid (NilOk la L.length lk) := hn5
      have P5 : Hid (PairsAt w5 la lh 0 L) := hp5
      clear hb5 hp5 hn5
      go_wp2_with fail
      refine (COPY.out w5 la lh lk P5.out NM.out).mono ?_
      rintro e w6 ⟨ca, ck, cg, rfl, hb6, hp6, _, _, _⟩
      have Y6 : Hid (Below w5.heap.size w5 w6) := hb6
      have P6 : Hid (PairsAt w6 ca cg 0 L) := hp6
      clear hb6 hp6
      go_wp2_with fail
      refine (CK.out w6 ca cg ck P6.out).mono ?_
      rintro e w7 ⟨rfl, hb7⟩
      have Y7 : Hid (Below w5.heap.size w5 w7) := Y6.out.trans (hb7.mono Y6.out.size)
      clear hb7
      go_wp2_with fail
      refine (COPY.out w7 la lh lk (PM.out _ Y7.out) NM.out).mono ?_
      rintro e w8 ⟨ca2, ck2, cg2, rfl, hb8, hp8, h1, h2, h3⟩
      have Y8 : Hid (Below w5.heap.size w5 w8) := Y7.out.trans (hb8.mono Y7.out.size)
      have P8 : Hid (PairsAt w8 ca2 cg2 0 L) := hp8
      have N8 : Hid (NilOk ca2 L.length ck2 ∧ L.length ≤ ck2 ∧ ck2 ≤ maxLen) := ⟨h1, h2, h3⟩
      clear hb8 hp8 h1 h2 h3
      go_wp2_with fail
      refine (PA.out w8 ca2 cg2 ck2 P8.out N8.out.1 N8.out.2.1 N8.out.2.2).mono ?_
      rintro e w9 ⟨pa, pk, ph, rfl, hb9, hp9⟩
      have Y9 : Hid (Below w5.heap.size w5 w9) := Y8.out.trans (hb9.mono Y8.out.size)
      have PP : Hid (∀ w', Below w9.heap.size w9 w' → PairsAt w' pa ph 0 pt) := fun w' hb => hp9.below hb
      have PM9 : Hid (∀ w', Below w9.heap.size w9 w' → PairsAt w' la lh 0 L) := fun w' hb => PM.out w' (Y9.out.trans (hb.mono Y9.out.size))
      have B9 : Hid (Below w.heap.size w w9) := B5.out.trans (Y9.out.mono B5.out.size)
      clear hb9 hp9
      have hpn := pair_neq
      go_wp2_with fail
      go_loopw [14, 91] (fun nv i wr => ∃ j : Nat, j ≤ L.length ∧ i = .int .i64 j ∧ nv = .int .i64 ((inL lo hi (L.take j)).length : Nat) ∧ Below w9.heap.size w9 wr) (fun _ i _ => L.length - (intOf i).toNat)
      case atStart => exact ⟨0, Nat.zero_le _, rfl, rfl, Below.refl _ _⟩
      case round =>
        obtain ⟨j, hj, rfl, rfl, hbw⟩ := hrel
        have YW : Hid (Below w9.heap.size w9 wr) := hbw
        clear hbw
        by_cases hlt : j < L.length
        · obtain rfl : la = some ⟨lh, 0, none⟩ := (PM9.out _ YW.out).base (by omega)
          obtain ⟨d0, d1⟩ := (PM9.out _ YW.out).cells j hlt
          simp only [Nat.zero_add] at d0 d1
          have zl : lh < wr.heap.size := (PM9.out _ YW.out).lt (by omega)
          have j0 : (0 : Int) ≤ (j : Int) := Int.natCast_nonneg _
          have j1 : (j : Int) < (L.length : Int) := by omega
          obtain ⟨WP, hWP⟩ : ∃ WP, WP = wr.alloc (.cells #[.int .i64 (keyAt L j), .int .i64 (valAt L j)] 59) := ⟨_, rfl⟩
          obtain ⟨pb, hpb⟩ : ∃ pb, pb = wr.heap.size := ⟨_, rfl⟩
          have zp : pb < WP.heap.size := by rw [hWP, hpb]; simp
          have YP : Hid (Below w9.heap.size w9 WP) := by show Below w9.heap.size w9 WP; rw [hWP]; exact YW.out.alloc YW.out.size _
          have PC : Hid (∀ w', Below WP.heap.size WP w' → w'.cell? ⟨pb, 0, none⟩ = some (.int .i64 (keyAt L j)) ∧ w'.cell? ⟨pb, 1, none⟩ = some (.int .i64 (valAt L j))) := fun w' hb => by
            refine ⟨(hb.cell (p := ⟨pb, 0, none⟩) zp).trans ?_, (hb.cell (p := ⟨pb, 1, none⟩) zp).trans ?_⟩
            · rw [hWP, hpb]; exact cell_new wr _ _ 0
            · rw [hWP, hpb]; exact cell_new wr _ _ 1
          have PMP : Hid (∀ w', Below WP.heap.size WP w' → PairsAt w' (some ⟨lh, 0, none⟩) lh 0 L) := fun w' hb => PM9.out w' (YP.out.trans (hb.mono YP.out.size))
          have zlp : lh < WP.heap.size := (PMP.out _ (Below.refl _ _)).lt (by omega)
          go_wp2_with fail
          rw [← hWP, ← hpb]
          clear hWP hpb d0 d1 zl
          obtain ⟨p0, p1⟩ := PC.out WP (Below.refl _ _)
          go_cut [108] from 92 to 179 (fun s wx => s = .bool false ∧ Below WP.heap.size WP wx)
          case first =>
            by_cases hz : j = 0
            · subst hz
              go_quiet (fail)
              go_wp2_with fail
              go_meet
              exact ⟨rfl, below_drewN (Below.refl _ _) _⟩
            · obtain ⟨i, rfl⟩ : ∃ i, j = i + 1 := ⟨j - 1, by omega⟩
              obtain ⟨d0, d1⟩ := (PMP.out _ (Below.refl _ _)).cells i (by omega)
              simp only [Nat.zero_add] at d0 d1
              have i0 : (0 : Int) ≤ (i : Int) := Int.natCast_nonneg _
              have i1 : (i : Int) < (L.length : Int) := by omega
              have q1 : (0 : Int) < ((i + 1 : Nat) : Int) := by omega
              have q2 : ((i + 1 : Nat) : Int) - 1 = (i : Int) := by omega
              have q3 : IntKind.i64.wrap (((i + 1 : Nat) : Int) - 1) = (i : Int) := by rw [q2, IntKind.wrap_i64]; omega
              have q4 : IntKind.i64.wrap (i : Int) = (i : Int) := by rw [IntKind.wrap_i64]; omega
              have q5 : decide (keyAt L (i + 1) ≤ keyAt L i) = false := decide_eq_false (by have := srt_keys SL.out (show i < i + 1 by omega) hlt; omega)
              go_quiet (fail)
              go_wp2_with fail
              go_meet
              exact ⟨rfl, below_drewN (Below.refl _ _) _⟩
          case rest =>
            obtain ⟨rfl, hbc⟩ := hcut
            generalize wc = w10 at *
            have Y10 : Hid (Below WP.heap.size WP w10) := hbc
            have Y10d : Hid (Below WP.heap.size WP w10.drew) := hbc.drew
            clear hbc p0 p1
            have p0 := (PC.out _ Y10.out).1
            go_wp2_with fail
            go_region_held3 (fun w' => w'.cell? ⟨pb, 0, none⟩ = some (.int .i64 (keyAt L j)))
              (first
                | (with_reducible exact X11.out)
                | (with_reducible exact X12.out)
                | go_keep)
              (first
                | (go_at_call 42; refine (COPY.out _ _ lh lk (PMP.out _ Y10d.out) NM.out).mono ?_; rintro e w11 ⟨cb, cl, ch, rfl, hb11, hp11, _, _, _⟩; have Y11 : Hid (Below WP.heap.size WP w11) := Y10d.out.trans (hb11.mono Y10d.out.size); have X11 : Hid (w11.cell? ⟨pb, 0, none⟩ = some (.int .i64 (keyAt L j))) := (PC.out _ Y11.out).1; have P11 : Hid (PairsAt w11 cb ch 0 L) := hp11; clear hb11 hp11)
                | (go_at_call 22; refine (FI.out j hlt _ cb ch cl P11.out).mono ?_; rintro e w12 ⟨rfl, hb12⟩; have Y12 : Hid (Below WP.heap.size WP w12) := Y11.out.trans (hb12.mono Y11.out.size); have X12 : Hid (w12.cell? ⟨pb, 0, none⟩ = some (.int .i64 (keyAt L j))) := (PC.out _ Y12.out).1; clear hb12))
            clear p0
            have p0 := (PC.out _ Y12.out).1
            have Y12d : Hid (Below WP.heap.size WP w12.drew) := Y12.out.drew
            have Y12z : Hid (Below WP.heap.size WP (w12.alloc (.cells #[.bool false, .int .i64 0, .int .i64 0, .slice none 0 0] 27)).drew) := (Y12.out.alloc Y12.out.size _).drew
            have z12 := Y12.out.size
            obtain ⟨Lg, GETJ⟩ := GET.out j hlt
            have GJ : Hid (∀ W base g cap, _) := GETJ
            clear GETJ
            go_wp2_with fail
            go_cut [20, 21, 22] from 92 to 179 (fun s20 s21 s22 wx => Did w12 0 Lg ⟨true, 0, valAt L j, []⟩ s20 s21 s22 wx)
            case first =>
              go_region_held3 (fun w' => w'.cell? ⟨pb, 0, none⟩ = some (.int .i64 (keyAt L j)))
                (first
                  | (with_reducible exact X13.out)
                  | (with_reducible exact X13z.out)
                  | (with_reducible exact X14.out)
                  | (with_reducible exact X15.out)
                  | (with_reducible exact X16.out)
                  | go_keep)
                (first
                  | (go_at_call 42; refine (COPY.out _ _ lh lk (PMP.out _ ?_) NM.out).mono ?_; (focus (first | exact Y12d.out | exact Y12z.out)); rintro e w13 ⟨cb2, cl2, ch2, rfl, hb13, hp13, hn13, hc13, hd13⟩; have Z13 : Hid (Below w12.heap.size w12 w13) := (by first | exact Below.trans (Below.drew (Below.refl _ _)) hb13 | exact Below.trans (Below.drew (below_alloc _ _)) (hb13.mono (by simp))); have Y13 : Hid (Below WP.heap.size WP w13) := Y12.out.trans (Z13.out.mono z12); have X13 : Hid (w13.cell? ⟨pb, 0, none⟩ = some (.int .i64 (keyAt L j))) := (PC.out _ Y13.out).1; have X13z : Hid ((w13.alloc (.cells #[.bool false, .int .i64 0, .int .i64 0, .slice none 0 0] 27)).cell? ⟨pb, 0, none⟩ = some (.int .i64 (keyAt L j))) := (PC.out _ (Y13.out.alloc Y13.out.size _)).1; have P13 : Hid (PairsAt w13 cb2 ch2 0 L) := hp13; have N13 : Hid (NilOk cb2 L.length cl2 ∧ L.length ≤ cl2 ∧ cl2 ≤ maxLen) := ⟨hn13, hc13, hd13⟩; (first | (have NB13 : Hid (NbAt w13 w12.heap.size) := ((NbAt.made w12).below (Below.refl _ _).drew).below hb13) | skip); clear hb13 hp13 hn13 hc13 hd13)
                  | (go_at_call 31; refine (GJ.out _ cb2 ch2 cl2 ?_ N13.out.1 N13.out.2.1 N13.out.2.2).mono ?_; (focus (first | exact P13.out | exact P13.out.below (below_alloc _ _))); rintro e w14 ⟨a1, k1, h1, a2, k2, h2, rfl, hb14, hp14, hq14, hg14, hh14⟩; have Z14 : Hid (Below w12.heap.size w12 w14) := (by first | exact Z13.out.trans (hb14.mono Z13.out.size) | exact (Z13.out.alloc Z13.out.size _).trans (hb14.mono (by have := Z13.out.size; simp; omega))); have Y14 : Hid (Below WP.heap.size WP w14) := Y12.out.trans (Z14.out.mono z12); have X14 : Hid (w14.cell? ⟨pb, 0, none⟩ = some (.int .i64 (keyAt L j))) := (PC.out _ Y14.out).1; have X15 : Hid ((w14.alloc (.cells #[.bool true, .int .i64 0, .int .i64 (valAt L j), .slice a2 0 k2] 27)).cell? ⟨pb, 0, none⟩ = some (.int .i64 (keyAt L j))) := (PC.out _ (Y14.out.alloc Y14.out.size _)).1; have PL14 : Hid (PairsAt w14 a1 h1 0 Lg) := hp14; have PR14 : Hid (PairsAt w14 a2 h2 0 []) := hq14; (first | (have NB14 : Hid (NbAt w14 w12.heap.size) := NB13.out.below hb14; have G1 : Hid (Lg.length ≠ 0 → w12.heap.size < h1) := (fun q => by have := hg14 q; have := NB13.out.lt; omega); have X16 : Hid (((((w14.setCell ⟨w12.heap.size, 0, none⟩ (.bool true)).setCell ⟨w12.heap.size, 1, none⟩ (.int .i64 0)).setCell ⟨w12.heap.size, 2, none⟩ (.int .i64 (valAt L j))).setCell ⟨w12.heap.size, 3, none⟩ (.slice a2 0 k2)).cell? ⟨pb, 0, none⟩ = some (.int .i64 (keyAt L j))) := (PC.out _ (below4 Y14.out z12 _ _ _ _)).1; have y0 : w14.cell? ⟨w12.heap.size, 0, none⟩ = some (.bool false) := NB14.out.cells 0; have y1 : w14.cell? ⟨w12.heap.size, 1, none⟩ = some (.int .i64 0) := NB14.out.cells 1; have y2 : w14.cell? ⟨w12.heap.size, 2, none⟩ = some (.int .i64 0) := NB14.out.cells 2; have y3 : w14.cell? ⟨w12.heap.size, 3, none⟩ = some (.slice none 0 0) := NB14.out.cells 3; have yf : ∀ k, w14.frozen? ⟨w12.heap.size, k, none⟩ = false := NB14.out.free; have yl : w12.heap.size < w14.heap.size := NB14.out.lt) | (have NB14 : Hid (NbAt w14 w13.heap.size) := (NbAt.made w13).below hb14; have G1 : Hid (Lg.length ≠ 0 → w13.heap.size < h1) := (fun q => by have := hg14 q; simp at this; omega); have X16 : Hid (((((w14.setCell ⟨w13.heap.size, 0, none⟩ (.bool true)).setCell ⟨w13.heap.size, 1, none⟩ (.int .i64 0)).setCell ⟨w13.heap.size, 2, none⟩ (.int .i64 (valAt L j))).setCell ⟨w13.heap.size, 3, none⟩ (.slice a2 0 k2)).cell? ⟨pb, 0, none⟩ = some (.int .i64 (keyAt L j))) := (PC.out _ (below4 Y14.out Y13.out.size _ _ _ _)).1; have y0 : w14.cell? ⟨w13.heap.size, 0, none⟩ = some (.bool false) := NB14.out.cells 0; have y1 : w14.cell? ⟨w13.heap.size, 1, none⟩ = some (.int .i64 0) := NB14.out.cells 1; have y2 : w14.cell? ⟨w13.heap.size, 2, none⟩ = some (.int .i64 0) := NB14.out.cells 2; have y3 : w14.cell? ⟨w13.heap.size, 3, none⟩ = some (.slice none 0 0) := NB14.out.cells 3; have yf : ∀ k, w14.frozen? ⟨w13.heap.size, k, none⟩ = false := NB14.out.free; have yl : w13.heap.size < w14.heap.size := NB14.out.lt) | skip); clear hb14 hp14 hq14 hg14 hh14))
              all_goals
                go_wp2_with fail
                go_meet
                first
                  | exact did_set (r := ⟨true, 0, valAt L j, []⟩) Z14.out NB14.out (Nat.le_refl _) PL14.out PR14.out G1.out (fun q => absurd rfl q)
                  | exact did_set (r := ⟨true, 0, valAt L j, []⟩) Z14.out NB14.out Z13.out.size PL14.out PR14.out G1.out (fun q => absurd rfl q)
                  | exact did_new (r := ⟨true, 0, valAt L j, []⟩) Z14.out PL14.out PR14.out
            case rest =>
              obtain ⟨a1, k1, h1, a2, k2, h2, nb, rfl, rfl, rfl, hbx, _, hnx, hcx, _, _⟩ := hcut
              clear p0
              generalize wc = w15 at *
              have Y15 : Hid (Below WP.heap.size WP w15) := Y12.out.trans (hbx.mono z12)
              have n0 : w15.cell? ⟨nb, 0, none⟩ = some (.bool true) := hcx 0
              have n2 : w15.cell? ⟨nb, 2, none⟩ = some (.int .i64 (valAt L j)) := hcx 2
              clear hcx hbx
              obtain ⟨p0, p1⟩ := PC.out _ Y15.out
              have qj : ((j : Int) != (j : Int)) = false := by simp
              have qv : (valAt L j != valAt L j) = false := by simp
              have zp15 : pb < w15.heap.size := Nat.lt_of_lt_of_le zp Y15.out.size
              have YE : Hid (∀ w', Below WP.heap.size WP w' → Below w9.heap.size w9 w') := fun w' hb => YP.out.trans (hb.mono YP.out.size)
              have INN : Hid _ := in_next lo hi hlt
              by_cases r1 : lo ≤ keyAt L j
              · by_cases r2 : keyAt L j ≤ hi
                · have RR : Hid (lo ≤ keyAt L j ∧ keyAt L j ≤ hi) := ⟨r1, r2⟩
                  have g1 : decide (lo ≤ keyAt L j) = true := decide_eq_true r1
                  have g2 : decide (keyAt L j ≤ hi) = true := decide_eq_true r2
                  obtain ⟨q1, q2, q3⟩ := in_at lo hi hlt RR.out
                  rw [HPT.out] at q1 q2 q3
                  have INL : Hid ((inL lo hi (L.take (j + 1))).length = (inL lo hi (L.take j)).length + 1) := by
                    show (inL lo hi (L.take (j + 1))).length = _
                    rw [INN.out, if_pos RR.out, List.length_append]; rfl
                  generalize (inL lo hi (L.take j)).length = nn at *
                  obtain ⟨s0, s1⟩ := (PP.out _ (YE.out _ Y15.out)).cells nn q1
                  obtain rfl : pa = some ⟨ph, 0, none⟩ := (PP.out _ (YE.out _ Y15.out)).base (by omega)
                  have zs : ph < w15.heap.size := (PP.out _ (YE.out _ Y15.out)).lt (by omega)
                  rw [q2] at s0
                  rw [q3] at s1
                  simp only [Nat.zero_add] at s0 s1
                  have NL : Hid (nn < pt.length) := q1
                  have t0 : (0 : Int) ≤ (nn : Int) := Int.natCast_nonneg _
                  have t1 : (nn : Int) < (pt.length : Int) := by omega
                  have t2 : decide ((pt.length : Int) ≤ (nn : Int)) = false := decide_eq_false (by omega)
                  have t3 : decide (pt.length ≤ nn) = false := decide_eq_false (by omega)
                  have ptl : pt.length ≤ 120 := by rw [← HPT.out]; exact Nat.le_trans (List.length_filter_le _ _) ll
                  have hx : (decide (keyAt L j = keyAt L j) && decide (valAt L j = valAt L j)) = true := by simp
                  clear r1 r2 q1 q2 q3
                  go_wp2_with fail
                  go_quiet (fail)
                  go_wp2_with fail
                  exact ⟨⟨j + 1, by omega, by go_num, by rw [INL.out]; go_num, below_drewN (YE.out _ Y15.out) _⟩, by simp [intOf]; omega⟩
                · have g1 : decide (lo ≤ keyAt L j) = true := decide_eq_true r1
                  have g2 : decide (keyAt L j ≤ hi) = false := decide_eq_false r2
                  have INL : Hid ((inL lo hi (L.take (j + 1))).length = (inL lo hi (L.take j)).length) := by
                    show (inL lo hi (L.take (j + 1))).length = _
                    rw [INN.out, if_neg (fun q => r2 q.2)]
                  clear r1 r2
                  go_wp2_with fail
                  exact ⟨⟨j + 1, by omega, by go_num, by rw [INL.out], YE.out _ Y15.out⟩, by simp [intOf]; omega⟩
              · have g1 : decide (lo ≤ keyAt L j) = false := decide_eq_false r1
                have INL : Hid ((inL lo hi (L.take (j + 1))).length = (inL lo hi (L.take j)).length) := by
                  show (inL lo hi (L.take (j + 1))).length = _
                  rw [INN.out, if_neg (fun q => r1 q.1)]
                clear r1
                go_wp2_with fail
                exact ⟨⟨j + 1, by omega, by go_num, by rw [INL.out], YE.out _ Y15.out⟩, by simp [intOf]; omega⟩
        · obtain rfl : j = L.length := by omega
          have ptl : pt.length ≤ 120 := by rw [← HPT.out]; exact Nat.le_trans (List.length_filter_le _ _) ll
          rw [List.take_length, HPT.out]
          generalize wr = w16 at *
          have PM16 : Hid (∀ w', Below w16.heap.size w16 w' → PairsAt w' la lh 0 L) := fun w' hb => PM9.out w' (YW.out.trans (hb.mono YW.out.size))
          have B16 : Hid (Below w.heap.size w w16) := B9.out.trans (YW.out.mono B9.out.size)
          go_wp2_with fail
          refine (COPY.out _ _ lh lk (PM16.out _ (Below.refl _ _)) NM.out).mono ?_
          rintro e w17 ⟨cb, cl, ch, rfl, hb17, hp17, hn17, hc17, hd17⟩
          have Y17 : Hid (Below w16.heap.size w16 w17) := hb17
          have P17 : Hid (PairsAt w17 cb ch 0 L) := hp17
          have N17 : Hid (NilOk cb L.length cl ∧ L.length ≤ cl ∧ cl ≤ maxLen) := ⟨hn17, hc17, hd17⟩
          clear hb17 hp17 hn17 hc17 hd17
          go_wp2_with fail
          refine (NEXT.out _ cb ch cl P17.out N17.out.1 N17.out.2.1 N17.out.2.2).mono ?_
          rintro e w18 ⟨a1, k1, h1, a2, k2, h2, rfl, hb18, _, _, _, _⟩
          obtain ⟨W18, hW18⟩ : ∃ z, z = w18.alloc (.cells #[.bool A.ok, .int .i64 A.key, .int .i64 A.val, .slice a2 A.pairs.length k2] 27) := ⟨_, rfl⟩
          obtain ⟨ab, hab⟩ : ∃ z, z = w18.heap.size := ⟨_, rfl⟩
          have za : ab < W18.heap.size := by rw [hW18, hab]; simp
          have Y18 : Hid (Below w16.heap.size w16 W18) := by
            show Below w16.heap.size w16 W18
            have := Y17.out.trans (hb18.mono Y17.out.size)
            rw [hW18]; exact this.alloc this.size _
          have AC : Hid (∀ w', Below W18.heap.size W18 w' → w'.cell? ⟨ab, 0, none⟩ = some (.bool A.ok) ∧ w'.cell? ⟨ab, 1, none⟩ = some (.int .i64 A.key)) := fun w' hb => by
            refine ⟨(hb.cell (p := ⟨ab, 0, none⟩) za).trans ?_, (hb.cell (p := ⟨ab, 1, none⟩) za).trans ?_⟩
            · rw [hW18, hab]; exact cell_new w18 _ _ 0
            · rw [hW18, hab]; exact cell_new w18 _ _ 1
          clear hb18
          go_wp2_with fail
          rw [← hW18, ← hab]
          clear hW18 hab
          refine (COPY.out _ _ lh lk (PM16.out _ Y18.out) NM.out).mono ?_
          rintro e w19 ⟨cb2, cl2, ch2, rfl, hb19, hp19, hn19, hc19, hd19⟩
          have V19 : Hid (Below W18.heap.size W18 w19) := hb19
          have P19 : Hid (PairsAt w19 cb2 ch2 0 L) := hp19
          have N19 : Hid (NilOk cb2 L.length cl2 ∧ L.length ≤ cl2 ∧ cl2 ≤ maxLen) := ⟨hn19, hc19, hd19⟩
          clear hb19 hp19 hn19 hc19 hd19
          go_wp2_with fail
          refine (BACK.out _ cb2 ch2 cl2 P19.out N19.out.1 N19.out.2.1 N19.out.2.2).mono ?_
          rintro e w20 ⟨a3, k3, h3, a4, k4, h4, rfl, hb20, _, _, _, _⟩
          obtain ⟨W20, hW20⟩ : ∃ z, z = w20.alloc (.cells #[.bool Bf.ok, .int .i64 Bf.key, .int .i64 Bf.val, .slice a4 Bf.pairs.length k4] 27) := ⟨_, rfl⟩
          obtain ⟨bb, hbb⟩ : ∃ z, z = w20.heap.size := ⟨_, rfl⟩
          have zb : bb < W20.heap.size := by rw [hW20, hbb]; simp
          have V20 : Hid (Below W18.heap.size W18 W20) := by
            show Below W18.heap.size W18 W20
            have := V19.out.trans (hb20.mono V19.out.size)
            rw [hW20]; exact this.alloc this.size _
          have BC : Hid (∀ w', Below W20.heap.size W20 w' → w'.cell? ⟨bb, 0, none⟩ = some (.bool Bf.ok) ∧ w'.cell? ⟨bb, 1, none⟩ = some (.int .i64 Bf.key)) := fun w' hb => by
            refine ⟨(hb.cell (p := ⟨bb, 0, none⟩) zb).trans ?_, (hb.cell (p := ⟨bb, 1, none⟩) zb).trans ?_⟩
            · rw [hW20, hbb]; exact cell_new w20 _ _ 0
            · rw [hW20, hbb]; exact cell_new w20 _ _ 1
          have AC20 : Hid (∀ w', Below W20.heap.size W20 w' → w'.cell? ⟨ab, 0, none⟩ = some (.bool A.ok) ∧ w'.cell? ⟨ab, 1, none⟩ = some (.int .i64 A.key)) := fun w' hb => AC.out w' (V20.out.trans (hb.mono V20.out.size))
          have PM20 : Hid (∀ w', Below W20.heap.size W20 w' → PairsAt w' la lh 0 L) := fun w' hb => PM16.out w' ((Y18.out.trans (V20.out.mono Y18.out.size)).trans (hb.mono (Y18.out.trans (V20.out.mono Y18.out.size)).size))
          have B20 : Hid (∀ w', Below W20.heap.size W20 w' → Below w.heap.size w w') := fun w' hb => by
            have q := Y18.out.trans (V20.out.mono Y18.out.size)
            exact B16.out.trans ((q.trans (hb.mono q.size)).mono B16.out.size)
          have za20 : ab < W20.heap.size := Nat.lt_of_lt_of_le za V20.out.size
          clear hb20
          have qpt : ((pt.length : Int) != (pt.length : Int)) = false := by simp
          go_wp2_with fail
          rw [← hW20, ← hbb]
          clear hW20 hbb
          go_loopw [212] (fun i wr => ∃ j : Nat, j ≤ L.length ∧ i = .int .i64 j ∧ Below W20.heap.size W20 wr) (fun i _ => L.length - (intOf i).toNat)
          case atStart => exact ⟨0, Nat.zero_le _, rfl, Below.refl _ _⟩
          case round =>
            obtain ⟨j, hj, rfl, hbw⟩ := hrel
            have VW : Hid (Below W20.heap.size W20 wr) := hbw
            have sw := hbw.size
            clear hbw
            by_cases hlt : j < L.length
            · obtain rfl : la = some ⟨lh, 0, none⟩ := (PM20.out _ VW.out).base (by omega)
              obtain ⟨d0, d1⟩ := (PM20.out _ VW.out).cells j hlt
              simp only [Nat.zero_add] at d0 d1
              have zl : lh < wr.heap.size := (PM20.out _ VW.out).lt (by omega)
              have zaw : ab < wr.heap.size := by omega
              have zbw : bb < wr.heap.size := by omega
              obtain ⟨x0, x1⟩ := AC20.out _ VW.out
              obtain ⟨y0, y1⟩ := BC.out _ VW.out
              have j0 : (0 : Int) ≤ (j : Int) := Int.natCast_nonneg _
              have j1 : (j : Int) < (L.length : Int) := by omega
              by_cases r1 : lo < keyAt L j
              · obtain ⟨ok, ky⟩ := AO.out.some j hlt r1
                rw [ok] at x0
                have g1 : ¬ keyAt L j < lo := by omega
                have g2 : ¬ keyAt L j < A.key := by omega
                go_wp2_with fail
                exact ⟨⟨j + 1, by omega, by go_num, VW.out.alloc sw _⟩, by simp [intOf]; omega⟩
              · by_cases r2 : keyAt L j < lo
                · obtain ⟨ok, ky⟩ := BO.out.some j hlt r2
                  rw [ok] at y0
                  have g2 : ¬ Bf.key < keyAt L j := by omega
                  go_wp2_with fail
                  exact ⟨⟨j + 1, by omega, by go_num, VW.out.alloc sw _⟩, by simp [intOf]; omega⟩
                · go_wp2_with fail
                  exact ⟨⟨j + 1, by omega, by go_num, VW.out.alloc sw _⟩, by simp [intOf]; omega⟩
            · have zaw : ab < wr.heap.size := by omega
              have zbw : bb < wr.heap.size := by omega
              obtain ⟨x0, x1⟩ := AC20.out _ VW.out
              obtain ⟨y0, y1⟩ := BC.out _ VW.out
              cases oa1 : A.ok
              · rw [oa1] at x0
                cases ob1 : Bf.ok
                · rw [ob1] at y0
                  go_wp2_with fail
                  go_ret
                  exact ⟨by simp, B20.out _ VW.out⟩
                · rw [ob1] at y0
                  have g2 := BO.out.own ob1
                  go_wp2_with fail
                  go_ret
                  exact ⟨by simp, B20.out _ VW.out⟩
              · rw [oa1] at x0
                have g1 := AO.out.own oa1
                cases ob1 : Bf.ok
                · rw [ob1] at y0
                  go_wp2_with fail
                  go_ret
                  exact ⟨by simp, B20.out _ VW.out⟩
                · rw [ob1] at y0
                  have g2 := BO.out.own ob1
                  go_wp2_with fail
                  go_ret
                  exact ⟨by simp, B20.out _ VW.out⟩
end Go.Proofs.Ytjpfgfcggekklaa
