/- Layer 5: EventTurns, walked. -/
import Derived.Test.YtniognoapcaliaaETurnM
import Derived.Test.YtniognoapcaliaaEAhead1
namespace Go.Proofs.Ytniognoapcaliaa
open Go.RowKit
attribute [local go_sem ↓] Go.wp_at_zero Go.wp_at_succ

theorem idx_mod (i : Int) (n : Nat) (h : 2 ≤ n) (h' : n ≤ 100000) : ∃ k : Nat, wrap64 ((IntKind.u64.wrap i).tmod ((n : Int) - 1)) = (k : Int) ∧ k + 1 < n := by
  rw [IntKind.wrap_u64]
  have h0 : 0 ≤ i % 18446744073709551616 := Int.emod_nonneg _ (by omega)
  have h1 := Int.tmod_nonneg ((n : Int) - 1) h0
  have h2 := Int.tmod_lt_of_pos (i % 18446744073709551616) (show (0 : Int) < (n : Int) - 1 by omega)
  generalize (i % 18446744073709551616).tmod ((n : Int) - 1) = m at *
  exact ⟨m.toNat, by unfold wrap64; omega, by omega⟩
section
variable (base : Option Addr) (b o c : Nat) (hs : List EvD) (pb : Nat → Option Addr) (pc pg po : Nat → Nat) (w : World) (h : EvsAt w base b o hs pb pc pg po) (hcap : hs.length ≤ c)
include h hcap

set_option maxRecDepth 100000 in
set_option maxHeartbeats 2000000 in
theorem eventTurns_any (i : Int) : Calls Try.prog 11 #[.slice base hs.length c, .int .i64 i] w fun e w' => e = .returned (.bool true) ∧ Below w.heap.size w w' := by
  have HA : Hid _ := h
  clear h
  by_cases he : hErr hs = 0
  · have hn : (hErr hs != 0) = false := by simp [he]
    have HE : Hid _ := he
    have HLN : Hid (hs.length ≤ 100000) := (hErr_zero he).1
    have hsn : (spansL hs).length ≤ 100000 := by obtain ⟨_, s, hst, hsl⟩ := hErr_zero he; rw [hsl]; have := (stN_ok hst).len; omega
    have K1 : Hid (∀ W, EvsAt W base b o hs pb pc pg po → Calls Try.prog 17 #[.slice base hs.length c] W fun e w' => ∃ g, e = .returned (.tuple #[.slice (some ⟨g, 0, none⟩) (spansL hs).length (spansL hs).length, .int .i64 0]) ∧ Below W.heap.size W w') := by
      intro W hW
      refine (Calls_any base b o c hs pb pc pg po W hW).mono ?_
      rintro e w' ⟨v, rfl, hb, _, hv⟩
      obtain ⟨g, l, _, _, rfl, _⟩ := hv HE.out
      exact ⟨g, by rw [HE.out], hb⟩
    have K2 : Hid (∀ W, EvsAt W base b o hs pb pc pg po → Calls Try.prog 35 #[.slice base hs.length c, .int .i64 (spansL hs).length] W fun e w' => ∃ a cc g qb qc qg qo, e = .returned (.tuple #[.slice a hs.length cc, .int .i64 0]) ∧ Below W.heap.size W w' ∧ EvsAt w' a g 0 hs qb qc qg qo) := by
      intro W hW
      refine (Cut_any base b o c hs pb pc pg po W hW (spansL hs).length).mono ?_
      rintro e w' ⟨v, rfl, hb, hN⟩
      have e1 : cutE hs (spansL hs).length = 0 := by have he := HE.out; unfold cutE; rw [if_neg (fun q => q he), if_neg (by omega)]
      rw [cut_all HE.out] at hN
      obtain ⟨a, cc, g, qb, qc, qg, qo, rfl, hE, _⟩ := hN
      exact ⟨a, cc, g, qb, qc, qg, qo, by rw [e1], hb, hE⟩
    have K3 : Hid (∀ W, EvsAt W base b o hs pb pc pg po → Calls Try.prog 43 #[.slice base hs.length c, .slice base hs.length c] W fun e w' => e = .returned (.tuple #[.bool true, .int .i64 0]) ∧ Below W.heap.size W w') := by
      intro W hW
      refine (same_any base base b o c b o c hs hs pb pb pc pg po pc pg po W hW hW).mono ?_
      rintro e w' ⟨r, rfl, hb, hr⟩
      have e1 : sameE hs hs = 0 := by have he := HE.out; unfold sameE; rw [if_neg (fun q => q he)]; exact he
      have e2 : r = true := hr.2 (same_self HE.out)
      exact ⟨by rw [e1, e2], hb⟩
    clear he
    have lsn : ((spansL hs).length : Int) ≤ 100000 := by omega
    generalize (spansL hs).length = ns at *
    go_enter Try.func11, Try.ntmps11
    go_wp2_with fail
    refine (known_any _).mono ?_
    rintro e w0 ⟨rfl, hb⟩
    have B0 : Hid (Below w.heap.size w w0) := hb
    clear hb
    go_wp2_with fail
    refine (check_any base b o c hs pb pc pg po _ (HA.out.below B0.out)).mono ?_
    rintro e w1 ⟨rfl, hb⟩
    have B1 : Hid (Below w.heap.size w w1) := B0.out.trans (hb.mono B0.out.size)
    clear hb
    go_wp2_with fail
    refine (K1.out _ (HA.out.below B1.out)).mono ?_
    rintro e w2 ⟨g2, rfl, hb⟩
    have B2 : Hid (Below w.heap.size w w2) := B1.out.trans (hb.mono B1.out.size)
    clear hb
    go_wp2_with fail
    refine (K2.out _ (HA.out.below B2.out)).mono ?_
    rintro e w3 ⟨a3, c3, g3, qb3, qc3, qg3, qo3, rfl, hb, hE3⟩
    have B3 : Hid (Below w.heap.size w w3) := B2.out.trans (hb.mono B2.out.size)
    have HE3 : Hid (EvsAt _ _ _ _ _ _ _ _ _) := hE3
    clear hb hE3
    go_wp2_with fail
    refine (K3.out _ (HA.out.below B3.out)).mono ?_
    rintro e w4 ⟨rfl, hb⟩
    have B4 : Hid (Below w.heap.size w w4) := B3.out.trans (hb.mono B3.out.size)
    have C4 : Hid (Calls _ _ _ _ _) := sameEvents_any a3 base g3 0 c3 b o c hs hs qb3 pb qc3 qg3 qo3 pc pg po w4 (HE3.out.below hb) (HA.out.below B4.out)
    clear hb
    go_wp2_with fail
    refine C4.out.mono ?_
    rintro e w5 ⟨r, rfl, hb, hr⟩
    have B5 : Hid (Below w.heap.size w w5) := B4.out.trans (hb.mono B4.out.size)
    obtain rfl : r = true := hr.2 (by simp)
    clear hb hr
    by_cases hl2 : hs.length < 2
    · have z2 : (hs.length : Int) < 2 := by omega
      go_wp2_with fail
      go_ret
      exact ⟨rfl, B5.out⟩
    · have z2 : ¬ (hs.length : Int) < 2 := by omega
      have z3 : (2 : Int) ≤ (hs.length : Int) := by omega
      have z4 : hs.length ≤ 100000 := HLN.out
      go_wp2_with fail
      obtain ⟨k, hk1, hk2⟩ := idx_mod i hs.length (by omega) z4
      rw [hk1]
      clear hk1
      refine (copyEvents_row base b o c hs pb pc pg po _ (HA.out.below B5.out) (by omega)).mono ?_
      rintro e w6 ⟨v, m, rfl, hb, hm, ho, hr⟩
      obtain ⟨g6, c6, tb, tc, tg, tp, rfl, hg6, hgl6, hRP⟩ := owns_rowP hm ho hr (by omega)
      have B6 : Hid (Below w.heap.size w w6) := B5.out.trans (hb.mono B5.out.size)
      have RP : Hid (RowP _ _ _ _ _ _ _ _) := hRP
      have G6 : Hid (w.heap.size ≤ g6) := Nat.le_trans B5.out.size hg6
      obtain ⟨d, hd⟩ : ∃ d, d = d0E hs tb tc := ⟨_, rfl⟩
      have HD : Hid _ := hd
      have HR : Hid (RowE w6 g6 hs.length d) := by rw [hd]; exact RP.out.row
      clear hb hm ho hr hRP hg6 hd
      have k0 : (0 : Int) ≤ (k : Int) := Int.natCast_nonneg _
      have k1 : (k : Int) < (hs.length : Int) := by omega
      have k2 : (0 : Int) ≤ (k : Int) + 1 := by omega
      have k3 : (k : Int) + 1 < (hs.length : Int) := by omega
      have k4 : ((k : Int) + 1).toNat = k + 1 := by omega
      have k5 : IntKind.i64.wrap ((k : Int) + 1) = (k : Int) + 1 := by rw [IntKind.wrap_i64] <;> omega
      have p0 : w6.cell? ⟨g6, k * 10, none⟩ = some (.int .i64 (d k).e.th) := (HR.out.cell (i := k) (by omega) (c := 0) (by omega)).1
      have p1 : w6.cell? ⟨g6, k * 10 + 1, none⟩ = some (.bool (d k).e.ret) := (HR.out.cell (i := k) (by omega) (c := 1) (by omega)).1
      have p2 : w6.cell? ⟨g6, k * 10 + 2, none⟩ = some (.int .i64 (d k).e.op.kind) := (HR.out.cell (i := k) (by omega) (c := 2) (by omega)).1
      have p3 : w6.cell? ⟨g6, k * 10 + 3, none⟩ = some (.int .i64 (d k).e.op.key) := (HR.out.cell (i := k) (by omega) (c := 3) (by omega)).1
      have p4 : w6.cell? ⟨g6, k * 10 + 4, none⟩ = some (.int .i64 (d k).e.op.val) := (HR.out.cell (i := k) (by omega) (c := 4) (by omega)).1
      have p5 : w6.cell? ⟨g6, k * 10 + 5, none⟩ = some (.int .i64 (d k).e.op.hi) := (HR.out.cell (i := k) (by omega) (c := 5) (by omega)).1
      have p6 : w6.cell? ⟨g6, k * 10 + 6, none⟩ = some (.bool (d k).e.rt.ok) := (HR.out.cell (i := k) (by omega) (c := 6) (by omega)).1
      have p7 : w6.cell? ⟨g6, k * 10 + 7, none⟩ = some (.int .i64 (d k).e.rt.key) := (HR.out.cell (i := k) (by omega) (c := 7) (by omega)).1
      have p8 : w6.cell? ⟨g6, k * 10 + 8, none⟩ = some (.int .i64 (d k).e.rt.val) := (HR.out.cell (i := k) (by omega) (c := 8) (by omega)).1
      have p9 : w6.cell? ⟨g6, k * 10 + 9, none⟩ = some (.slice (d k).a (d k).e.rt.pairs.length (d k).c) := (HR.out.cell (i := k) (by omega) (c := 9) (by omega)).1
      have q0 : w6.cell? ⟨g6, (k + 1) * 10, none⟩ = some (.int .i64 (d (k + 1)).e.th) := (HR.out.cell (i := (k + 1)) (by omega) (c := 0) (by omega)).1
      have q1 : w6.cell? ⟨g6, (k + 1) * 10 + 1, none⟩ = some (.bool (d (k + 1)).e.ret) := (HR.out.cell (i := (k + 1)) (by omega) (c := 1) (by omega)).1
      have q2 : w6.cell? ⟨g6, (k + 1) * 10 + 2, none⟩ = some (.int .i64 (d (k + 1)).e.op.kind) := (HR.out.cell (i := (k + 1)) (by omega) (c := 2) (by omega)).1
      have q3 : w6.cell? ⟨g6, (k + 1) * 10 + 3, none⟩ = some (.int .i64 (d (k + 1)).e.op.key) := (HR.out.cell (i := (k + 1)) (by omega) (c := 3) (by omega)).1
      have q4 : w6.cell? ⟨g6, (k + 1) * 10 + 4, none⟩ = some (.int .i64 (d (k + 1)).e.op.val) := (HR.out.cell (i := (k + 1)) (by omega) (c := 4) (by omega)).1
      have q5 : w6.cell? ⟨g6, (k + 1) * 10 + 5, none⟩ = some (.int .i64 (d (k + 1)).e.op.hi) := (HR.out.cell (i := (k + 1)) (by omega) (c := 5) (by omega)).1
      have q6 : w6.cell? ⟨g6, (k + 1) * 10 + 6, none⟩ = some (.bool (d (k + 1)).e.rt.ok) := (HR.out.cell (i := (k + 1)) (by omega) (c := 6) (by omega)).1
      have q7 : w6.cell? ⟨g6, (k + 1) * 10 + 7, none⟩ = some (.int .i64 (d (k + 1)).e.rt.key) := (HR.out.cell (i := (k + 1)) (by omega) (c := 7) (by omega)).1
      have q8 : w6.cell? ⟨g6, (k + 1) * 10 + 8, none⟩ = some (.int .i64 (d (k + 1)).e.rt.val) := (HR.out.cell (i := (k + 1)) (by omega) (c := 8) (by omega)).1
      have q9 : w6.cell? ⟨g6, (k + 1) * 10 + 9, none⟩ = some (.slice (d (k + 1)).a (d (k + 1)).e.rt.pairs.length (d (k + 1)).c) := (HR.out.cell (i := (k + 1)) (by omega) (c := 9) (by omega)).1
      have r0 : w6.frozen? ⟨g6, k * 10, none⟩ = false := (HR.out.cell (i := k) (by omega) (c := 0) (by omega)).2
      have r1 : w6.frozen? ⟨g6, k * 10 + 1, none⟩ = false := (HR.out.cell (i := k) (by omega) (c := 1) (by omega)).2
      have r2 : w6.frozen? ⟨g6, k * 10 + 2, none⟩ = false := (HR.out.cell (i := k) (by omega) (c := 2) (by omega)).2
      have r3 : w6.frozen? ⟨g6, k * 10 + 3, none⟩ = false := (HR.out.cell (i := k) (by omega) (c := 3) (by omega)).2
      have r4 : w6.frozen? ⟨g6, k * 10 + 4, none⟩ = false := (HR.out.cell (i := k) (by omega) (c := 4) (by omega)).2
      have r5 : w6.frozen? ⟨g6, k * 10 + 5, none⟩ = false := (HR.out.cell (i := k) (by omega) (c := 5) (by omega)).2
      have r6 : w6.frozen? ⟨g6, k * 10 + 6, none⟩ = false := (HR.out.cell (i := k) (by omega) (c := 6) (by omega)).2
      have r7 : w6.frozen? ⟨g6, k * 10 + 7, none⟩ = false := (HR.out.cell (i := k) (by omega) (c := 7) (by omega)).2
      have r8 : w6.frozen? ⟨g6, k * 10 + 8, none⟩ = false := (HR.out.cell (i := k) (by omega) (c := 8) (by omega)).2
      have r9 : w6.frozen? ⟨g6, k * 10 + 9, none⟩ = false := (HR.out.cell (i := k) (by omega) (c := 9) (by omega)).2
      have s0 : w6.frozen? ⟨g6, (k + 1) * 10, none⟩ = false := (HR.out.cell (i := (k + 1)) (by omega) (c := 0) (by omega)).2
      have s1 : w6.frozen? ⟨g6, (k + 1) * 10 + 1, none⟩ = false := (HR.out.cell (i := (k + 1)) (by omega) (c := 1) (by omega)).2
      have s2 : w6.frozen? ⟨g6, (k + 1) * 10 + 2, none⟩ = false := (HR.out.cell (i := (k + 1)) (by omega) (c := 2) (by omega)).2
      have s3 : w6.frozen? ⟨g6, (k + 1) * 10 + 3, none⟩ = false := (HR.out.cell (i := (k + 1)) (by omega) (c := 3) (by omega)).2
      have s4 : w6.frozen? ⟨g6, (k + 1) * 10 + 4, none⟩ = false := (HR.out.cell (i := (k + 1)) (by omega) (c := 4) (by omega)).2
      have s5 : w6.frozen? ⟨g6, (k + 1) * 10 + 5, none⟩ = false := (HR.out.cell (i := (k + 1)) (by omega) (c := 5) (by omega)).2
      have s6 : w6.frozen? ⟨g6, (k + 1) * 10 + 6, none⟩ = false := (HR.out.cell (i := (k + 1)) (by omega) (c := 6) (by omega)).2
      have s7 : w6.frozen? ⟨g6, (k + 1) * 10 + 7, none⟩ = false := (HR.out.cell (i := (k + 1)) (by omega) (c := 7) (by omega)).2
      have s8 : w6.frozen? ⟨g6, (k + 1) * 10 + 8, none⟩ = false := (HR.out.cell (i := (k + 1)) (by omega) (c := 8) (by omega)).2
      have s9 : w6.frozen? ⟨g6, (k + 1) * 10 + 9, none⟩ = false := (HR.out.cell (i := (k + 1)) (by omega) (c := 9) (by omega)).2
      go_wp2_with fail
      go_region
      obtain ⟨W2, hW2⟩ : ∃ W2, W2 = (setMany g6 (setMany g6 w6 (k * 10) (encE (d (k + 1)))) ((k + 1) * 10) (encE (d k))).drew := ⟨_, rfl⟩
      have HW2 : Hid _ := hW2
      simp only [setMany, encE, Nat.add_assoc, Nat.reduceAdd] at hW2
      rw [← hW2]
      clear hW2 p0 q0 r0 s0 p1 q1 r1 s1 p2 q2 r2 s2 p3 q3 r3 s3 p4 q4 r4 s4 p5 q5 r5 s5 p6 q6 r6 s6 p7 q7 r7 s7 p8 q8 r8 s8 p9 q9 r9 s9
      obtain ⟨u1, u2, u3⟩ := swappedE HR.out (grown_refl w6 (some g6)) HW2.out
      have B7 : Hid (Below w.heap.size w W2) := Below.grown B6.out u2 (by have := B6.out.size; omega) (by intro j hj; cases hj; exact G6.out)
      obtain ⟨hs', qb, qc, qg, qo, hT, hE7⟩ := turn_evs RP.out hgl6 (HA.out.len) hk2 (by rw [← HD.out]; exact u1) u2
      have HT : Hid (Turned _ _ _) := hT
      have HE7 : Hid (EvsAt _ _ _ _ _ _ _ _ _) := hE7
      clear u1 u2 u3 HW2 hT hE7
      obtain rfl : base = some ⟨b, o, none⟩ := HA.out.base (by omega)
      have K5 : Hid (∀ W, EvsAt W (some ⟨b, o, none⟩) b o hs pb pc pg po → Calls Try.prog 43 #[.slice (some ⟨b, o, none⟩) hs.length c, .slice (some ⟨b, o, none⟩) (hs.length - 1) c] W fun e w' => e = .returned (.tuple #[.bool false, .int .i64 0]) ∧ Below W.heap.size W w') := by
        intro W hW
        have hl : (hs.take (hs.length - 1)).length = hs.length - 1 := by rw [List.length_take]; omega
        obtain ⟨l1, l2⟩ := less_same HE.out (by omega)
        have := same_any (some ⟨b, o, none⟩) (some ⟨b, o, none⟩) b o c b o c hs (hs.take (hs.length - 1)) pb pb pc pg po pc pg po W hW (hW.take _)
        rw [hl] at this
        refine this.mono ?_
        rintro e w' ⟨r, rfl, hb, hr⟩
        have e1 : sameE hs (hs.take (hs.length - 1)) = 0 := by have he := HE.out; unfold sameE; rw [if_neg (fun q => q he)]; exact l1
        have e2 : r = false := by
          cases r with
          | false => rfl
          | true => exact absurd (hr.1 rfl) l2
        exact ⟨by rw [e1, e2], hb⟩
      have n1 : ((hs.length : Int) - 1).toNat = hs.length - 1 := by omega
      have n2 : (0 : Int) ≤ (hs.length : Int) - 1 := by omega
      have n3 : (hs.length : Int) - 1 ≤ (c : Int) := by omega
      have n4 : IntKind.i64.wrap ((hs.length : Int) - 1) = (hs.length : Int) - 1 := by rw [IntKind.wrap_i64] <;> omega
      have t0 : W2.cell? ⟨b, o + k * 10, none⟩ = some (.int .i64 (evAt hs k).th) := ((HA.out.below B7.out).c0 k (by omega)).1
      have t1 : W2.cell? ⟨b, o + (k + 1) * 10, none⟩ = some (.int .i64 (evAt hs (k + 1)).th) := ((HA.out.below B7.out).c0 (k + 1) (by omega)).1
      have tz : b < W2.heap.size := (HA.out.below B7.out).lt (by omega)
      by_cases hth : (evAt hs k).th = (evAt hs (k + 1)).th
      · have hq : ((evAt hs k).th != (evAt hs (k + 1)).th) = false := by simp [hth]
        clear hth
        go_wp2_with fail
        go_quiet (fail)
        clear t0 t1
        go_wp2_with fail
        refine (K5.out _ ?_).mono ?_
        · exact HA.out.below (below_drewN B7.out _)
        rintro e w8 ⟨rfl, hb⟩
        have B8 : Hid (Below w.heap.size w w8) := (below_drewN B7.out _).trans (hb.mono B7.out.size)
        clear hb
        go_wp2_with fail
        go_ret
        exact ⟨by simp, B8.out⟩
      · have hq : ((evAt hs k).th != (evAt hs (k + 1)).th) = true := by simp [hth]
        have HTS : Hid (hErr hs' = 0 ∧ SameP hs hs') := turned_same HE.out HT.out hth
        have hl' : Hid (hs'.length = hs.length) := HT.out.1
        have K6 : Hid (∀ W, EvsAt W (some ⟨b, o, none⟩) b o hs pb pc pg po → EvsAt W (some ⟨g6, 0, none⟩) g6 0 hs' qb qc qg qo → Calls Try.prog 43 #[.slice (some ⟨b, o, none⟩) hs.length c, .slice (some ⟨g6, 0, none⟩) hs.length c6] W fun e w' => e = .returned (.tuple #[.bool true, .int .i64 0]) ∧ Below W.heap.size W w') := by
          intro W hW hW'
          have := same_any (some ⟨b, o, none⟩) (some ⟨g6, 0, none⟩) b o c g6 0 c6 hs hs' pb qb pc pg po qc qg qo W hW hW'
          rw [hl'.out] at this
          refine this.mono ?_
          rintro e w' ⟨r, rfl, hb, hr⟩
          have e1 : sameE hs hs' = 0 := by have he := HE.out; unfold sameE; rw [if_neg (fun q => q he)]; exact HTS.out.1
          have e2 : r = true := hr.2 HTS.out.2
          exact ⟨by rw [e1, e2], hb⟩
        clear hth
        go_wp2_with fail
        go_quiet (fail)
        clear t0 t1
        go_wp2_with fail
        refine (K6.out _ ?_ ?_).mono ?_
        · exact HA.out.below (below_drewN B7.out _)
        · exact HE7.out.below (below_drewN (Below.refl _ _) _)
        rintro e w8 ⟨rfl, hb⟩
        have B8 : Hid (Below w.heap.size w w8) := (below_drewN B7.out _).trans (hb.mono B7.out.size)
        clear hb
        go_wp2_with fail
        refine (K5.out _ (HA.out.below B8.out)).mono ?_
        rintro e w9 ⟨rfl, hb⟩
        have B9 : Hid (Below w.heap.size w w9) := B8.out.trans (hb.mono B8.out.size)
        clear hb
        go_wp2_with fail
        go_ret
        exact ⟨by simp, B9.out⟩
  · have hn : (hErr hs != 0) = true := by simp [he]
    have K3 : Hid (∀ W, EvsAt W base b o hs pb pc pg po → Calls Try.prog 43 #[.slice base hs.length c, .slice none 0 0] W fun e w' => ∃ r, e = .returned (.tuple #[.bool r, .int .i64 (hErr hs)]) ∧ Below W.heap.size W w') := by
      intro W hW
      refine (same_any base none b o c 0 0 0 hs [] pb (fun _ => none) pc pg po (fun _ => 0) (fun _ => 0) (fun _ => 0) W hW ⟨fun q => absurd rfl q, fun q => absurd rfl q, by simp, fun i hi => by simp at hi, fun i hi => by simp at hi, fun i hi => by simp at hi, fun i hi => by simp at hi⟩).mono ?_
      rintro e w' ⟨r, rfl, hb, hr⟩
      exact ⟨r, by unfold sameE; rw [if_pos he], hb⟩
    clear he
    go_enter Try.func11, Try.ntmps11
    go_wp2_with fail
    refine (known_any _).mono ?_
    rintro e w0 ⟨rfl, hb⟩
    have B0 : Hid (Below w.heap.size w w0) := hb
    clear hb
    go_wp2_with fail
    refine (check_any base b o c hs pb pc pg po _ (HA.out.below B0.out)).mono ?_
    rintro e w1 ⟨rfl, hb⟩
    have B1 : Hid (Below w.heap.size w w1) := B0.out.trans (hb.mono B0.out.size)
    clear hb
    go_wp2_with fail
    refine (K3.out _ (HA.out.below B1.out)).mono ?_
    rintro e w2 ⟨r, rfl, hb⟩
    have B2 : Hid (Below w.heap.size w w2) := B1.out.trans (hb.mono B1.out.size)
    clear hb
    go_wp2_with fail
    refine (check_any base b o c hs pb pc pg po _ (HA.out.below B2.out)).mono ?_
    rintro e w3 ⟨rfl, hb⟩
    have B3 : Hid (Below w.heap.size w w3) := B2.out.trans (hb.mono B2.out.size)
    clear hb
    go_wp2_with fail
    go_ret
    exact ⟨by simp, B3.out⟩
end
end Go.Proofs.Ytniognoapcaliaa
