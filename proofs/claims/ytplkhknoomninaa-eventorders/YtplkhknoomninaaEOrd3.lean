/- Layer 5: the reference's Orders. -/
import Derived.Test.YtplkhknoomninaaEOrd2
namespace Go.Proofs.Ytplkhknoomninaa
open Go.RowKit
attribute [local go_sem ↓] Go.wp_at_zero Go.wp_at_succ

set_option maxRecDepth 100000 in
set_option maxHeartbeats 4000000 in
theorem rOrders_any (base : Option Addr) (b o c : Nat) (hs : List EvD) (pb : Nat → Option Addr) (pc pg po : Nat → Nat) (w : World) (h : EvsAt w base b o hs pb pc pg po) :
    Calls Try.prog 40 #[.slice base hs.length c] w fun e w' => e = .returned (.tuple #[.int .i64 (ordersA hs).1, .int .i64 (ordersA hs).2]) ∧ Below w.heap.size w w' := by
  have HA : Hid _ := h
  clear h
  by_cases he : hErr hs = 0
  · have hn : (hErr hs != 0) = false := by simp [he]
    obtain ⟨hbn, s, hst, hsl⟩ := hErr_zero he
    have hok := stN_ok hst
    have hsn : (spansL hs).length ≤ 100000 := by rw [hsl]; have := hok.len; omega
    have hself : Hid (∀ p ∈ rtN (spansL hs) (spansL hs).length, ahd p p = false) := by
      refine rtN_self (fun k hk => ?_) _ (Nat.le_refl _)
      rw [hsl] at hk ⊢
      rcases hok.to k hk with q | q
      · exact Or.inl q
      · exact Or.inr q.1
    have F0 : Hid (ordersA hs = if 16 < (rtN (spansL hs) (spansL hs).length).length then (0, 2) else (ordsA (rtN (spansL hs) (spansL hs).length), 0)) := by show ordersA hs = _; unfold ordersA; rw [if_neg (by simp [he])]
    have HE : Hid _ := he
    clear he hst hsl hbn hok
    obtain ⟨i0, hi0, hz0, hz1, hz2⟩ := info_parts rc_info
    go_enter Try.func40, Try.ntmps40
    go_wp2_with fail
    refine (rCalls_any base b o c hs pb pc pg po _ HA.out).mono ?_
    rintro e w1 ⟨v, rfl, hb, _, hown⟩
    obtain ⟨l, hm, ho, hrets⟩ := hown HE.out
    obtain ⟨base1, cap, g, rfl, hnil, hca, hmx⟩ := calls_of_owns ho
    generalize hgs : spansL hs = sp at *
    have hll : l.length = sp.length := by rw [← hm, List.length_map]
    have hll1 : l.length ≤ sp.length := by omega
    have hll2 : sp.length ≤ l.length := by omega
    have HB : Hid _ := hb
    have HC : Hid _ := hca
    have HM : Hid _ := hm
    have HR : Hid (RetsAt _ _ _ _ _) := hrets
    have hs1 := hb.size
    clear hown ho hnil hca hm hb hgs hrets hll
    go_wp2_with fail
    go_loopw [6, 7] (fun v i wr => ∃ k : Nat, k ≤ l.length ∧ i = .int .i64 k ∧ Below w1.heap.size w1 wr ∧ wr.ownsRow w1.heap.size 88 11 v (rtC l k).length (callsC hs (rtC l k))) (fun _ i _ => l.length - (intOf i).toNat)
    case atStart => exact ⟨0, Nat.zero_le _, rfl, Below.refl _ _, World.ownsRow_nil _ _ _ _⟩
    case round =>
      obtain ⟨k, hk, rfl, hbw, hown⟩ := hrel
      have HW : Hid _ := hbw
      have HOW : Hid (World.ownsRow _ _ _ _ _ _ _) := hown
      have ol := owns_lt hown
      have hz := hbw.size
      by_cases hlt : k < l.length
      · obtain rfl : base1 = some ⟨g, 0, none⟩ := HC.out.base (by omega)
        obtain ⟨x, hx, ex, hxm⟩ := getE_of_map HM.out (k := k) (by omega)
        have y : ∀ i, i < 11 → wr.cell? ⟨g, k * 11 + i, none⟩ = (callC hs x.1 x.2)[i]? := fun i hi => (HC.out.below hbw).cells k x hx i hi
        have k0 : (0 : Int) ≤ (k : Int) := Int.natCast_nonneg _
        have k1 : (k : Int) < (l.length : Int) := by omega
        have hgl : g < wr.heap.size := Nat.lt_of_lt_of_le (HC.out.lt (by omega)) hbw.size
        have hlp := rtC_le l k
        obtain ⟨⟨x1, x2⟩, xv⟩ := x
        clear hbw hown
        by_cases hp : x2 = -1
        · have hd : (x2 != -1) = false := by simp [hp]
          have HN : Hid (rtC l (k + 1) = rtC l k) := by show rtC l (k + 1) = _; simp only [rtC, hx]; rw [if_pos hp]
          have y10 := y 10 (by omega)
          simp only [callC, List.getElem?_cons_succ, List.getElem?_cons_zero] at y10
          clear y hp hx ex
          go_wp2_with fail
          refine ⟨⟨k + 1, by omega, by go_num, HW.out, ?_⟩, by simp [intOf]; omega⟩
          rw [HN.out]
          exact HOW.out
        · have hd : (x2 != -1) = true := by simp [hp]
          have HN : Hid (rtC l (k + 1) = rtC l k ++ [((x1, x2), xv)]) := by show rtC l (k + 1) = _; simp only [rtC, hx]; rw [if_neg hp]
          obtain ⟨gp, cp, exv, _, _, _, _⟩ := (HR.out _ hxm).2 hp
          simp only at exv
          subst exv
          generalize hrr : retOf hs (x1, x2) = rr at *
          have y0 := y 0 (by omega)
          have y1 := y 1 (by omega)
          have y2 := y 2 (by omega)
          have y3 := y 3 (by omega)
          have y4 := y 4 (by omega)
          have y5 := y 5 (by omega)
          have y6 := y 6 (by omega)
          have y7 := y 7 (by omega)
          have y8 := y 8 (by omega)
          have y9 := y 9 (by omega)
          have y10 := y 10 (by omega)
          simp only [callC, hrr, List.getElem?_cons_succ, List.getElem?_cons_zero, Nat.add_zero] at y0 y1 y2 y3 y4 y5 y6 y7 y8 y9 y10
          have HRR : Hid _ := hrr
          clear y hp hx ex hrr
          go_wp2_with (first | (at_builtin; (refine wpList_append_lies _ (by rfl) _ _ _ (by rfl) w1.heap.size 88 i0 _ 11 104 rcs_under hi0 hz0 hz1 hz2 rfl (by omega) _ (rtC l k).length _ (by rfl) (HOW.out.alloc _) ⟨wr.heap.size, 0, none⟩ 1 1 [.int .i64 (evAt hs x1).th, .int .i64 (evAt hs x1).op.kind, .int .i64 (evAt hs x1).op.key, .int .i64 (evAt hs x1).op.val, .int .i64 (evAt hs x1).op.hi, .bool rr.ok, .int .i64 rr.key, .int .i64 rr.val, .slice (some ⟨gp, 0, none⟩) rr.pairs.length cp, .int .i64 x1, .int .i64 x2] (by rfl) (by rfl) (World.news_of_block (cs := #[.int .i64 (evAt hs x1).th, .int .i64 (evAt hs x1).op.kind, .int .i64 (evAt hs x1).op.key, .int .i64 (evAt hs x1).op.val, .int .i64 (evAt hs x1).op.hi, .bool rr.ok, .int .i64 rr.key, .int .i64 rr.val, .slice (some ⟨gp, 0, none⟩) rr.pairs.length cp, .int .i64 x1, .int .i64 x2]) (t := 88) (fr := (0, 0)) (heap_alloc_at _ _ _ (by simp))) (by simp [Value.oneCell']) (by omega) (by unfold maxLen; omega) (by omega) (by simp; omega) (wr.heap.size + 1) (by simp) ?_); intro gg cq w3 hown3 hgrow hat hlt3))
          refine ⟨⟨k + 1, by omega, by go_num, Below.grown (HW.out.alloc (by omega) _) hgrow (by simp; omega) (fun k hk => (ol k hk).1), ?_⟩, by simp [intOf]; omega⟩
          rw [HN.out, callsC_append, List.length_append]
          simp only [callsC, callC, HRR.out, List.append_nil]
          exact hown3
      · obtain rfl : k = l.length := by omega
        have hmp : Hid ((rtC l l.length).map (·.1) = rtN sp sp.length) := by
          have := rtC_map HM.out sp.length (Nat.le_refl _)
          rw [show l.length = sp.length by omega]; exact this
        obtain ⟨oa, oc, g2, rfl, hn2, hca2, hmx2⟩ := calls_of_owns hown
        have hlen : (rtC l l.length).length = (rtN sp sp.length).length := by rw [← hmp.out, List.length_map]
        generalize rtC l l.length = dl at *
        generalize rtN sp sp.length = rt at *
        have HC2 : Hid _ := hca2
        have hl1 : dl.length ≤ rt.length := by omega
        have hl2 : rt.length ≤ dl.length := by omega
        clear hown hn2 hca2 hbw hlen HOW ol
        by_cases hbig : 16 < dl.length
        · have F : Hid (ordersA hs = (0, 2)) := by show ordersA hs = _; rw [F0.out, if_pos (by omega)]
          have hbi : (16 : Int) < (dl.length : Int) := by omega
          go_wp2_with fail
          go_ret2
          exact ⟨by rw [F.out]; rfl, HB.out.trans (HW.out.mono HB.out.size)⟩
        · have F : Hid (ordersA hs = (ordsA rt, 0)) := by show ordersA hs = _; rw [F0.out, if_neg (by omega)]
          have hbi : (dl.length : Int) ≤ 16 := by omega
          obtain ⟨N, hN⟩ : ∃ N, N = 2 ^ rt.length := ⟨_, rfl⟩
          have hN1 : N ≤ 65536 := by
            rw [hN]
            have : 2 ^ rt.length ≤ 2 ^ 16 := pow_le16 (by omega)
            exact this
          have hN0 : 0 < N := by rw [hN]; exact Nat.pow_pos (by omega)
          have wN : Hid (wrap64 ((2 : Int) ^ dl.length) = (N : Int)) := by
            show wrap64 ((2 : Int) ^ dl.length) = (N : Int)
            rw [wrap_pow _ (by omega), hN, show dl.length = rt.length by omega]
          have hm2 : ∀ w : World, (Instr.makeSlice 41 (.int .i64 (wrap64 (2 ^ dl.length))) (.int .i64 (wrap64 (2 ^ dl.length)))).run Try.prog w = .ok (.slice (some ⟨w.heap.size, 0, none⟩) N N) (w.alloc (.cells (madeCells #[.int .i64 0] (N * 1)) 3)) := fun w => by
            rw [wN.out]
            exact run_make_known (P := Try.prog) 41 3 (.int .i64 0) 1 8 ints_under int_info N (by omega) (by omega) w
          have hc0 : (madeCells #[.int .i64 0] N)[0]? = some (.int .i64 0) := by simp [madeCells, hN0]
          have HN : Hid _ := hN
          have hNi : (0 : Int) < (N : Int) := by omega
          have hNj : (N : Int) ≤ 65536 := by omega
          generalize wr = W0 at *
          clear hN hbig
          go_wp2_with fail
          go_loopw [10] (fun i wr => ∃ s : Nat, s ≤ N ∧ i = .int .i64 s ∧ Below W0.heap.size W0 wr ∧ W0.heap.size < wr.heap.size ∧ Ints wr W0.heap.size N (outW rt rt.length s)) (fun i _ => N - (intOf i).toNat)
          case atStart => exact ⟨0, Nat.zero_le _, rfl, below_alloc _ _, by simp, Ints.made1 W0 N _⟩
          case round =>
            obtain ⟨s, hs', rfl, hbw2, hsz2, hO⟩ := hrel
            have HB2 : Hid _ := hbw2
            have HO : Hid (Ints _ _ _ _) := hO
            have s0 : (0 : Int) ≤ (s : Int) := Int.natCast_nonneg _
            by_cases hls : s < N
            · have s1 : (s : Int) < (N : Int) := by omega
              obtain ⟨o2, o3⟩ := hO s hls
              clear hO hbw2
              generalize wr = W1 at *
              have hcd : (s : Int) < wrap64 (2 ^ dl.length) := by rw [wN.out]; exact s1
              by_cases hz0' : outW rt rt.length s s = 0
              · have hzb : (outW rt rt.length s s == 0) = true := by simp [hz0']
                have HZ : Hid (outW rt rt.length (s + 1) = outW rt rt.length s) := by
                  show outW rt rt.length (s + 1) = _
                  simp only [outW]
                  exact inW_zero (outW_in rt rt.length s) hz0' rt.length
                clear hz0'
                go_wp2_with fail
                refine ⟨⟨s + 1, by omega, by go_num, HB2.out, hsz2, ?_⟩, by simp [intOf]; omega⟩
                rw [HZ.out]
                exact HO.out
              · have hzb : (outW rt rt.length s s == 0) = false := by simp [hz0']
                clear hz0'
                go_wp2_with fail
                clear hcd
                go_loopw [11] (fun i wr => ∃ j : Nat, j ≤ dl.length ∧ i = .int .i64 j ∧ Below W0.heap.size W0 wr ∧ W0.heap.size < wr.heap.size ∧ Ints wr W0.heap.size N (inW rt rt.length s (outW rt rt.length s) j)) (fun i _ => dl.length - (intOf i).toNat)
                case atStart => exact ⟨0, Nat.zero_le _, rfl, HB2.out, hsz2, HO.out⟩
                case round =>
                  obtain ⟨j, hj, rfl, hbw3, hsz3, hO3⟩ := hrel
                  have HB3 : Hid _ := hbw3
                  have HO3 : Hid (Ints _ _ _ _) := hO3
                  clear hbw3 hO3
                  by_cases hlt2 : j < dl.length
                  · have j0 : (0 : Int) ≤ (j : Int) := Int.natCast_nonneg _
                    have j1 : (j : Int) < (dl.length : Int) := by omega
                    have hself' : ahd (spAt rt j) (spAt rt j) = false := hself.out _ (spAt_mem (by omega))
                    have hcnd : Hid (condP rt rt.length s j = (!s.testBit j && firstN rt s j rt.length)) := cond_iff (by omega) (by omega) (by omega) hself'
                    clear hself'
                    have hbs := bit_shr s j (by omega)
                    cases htb : s.testBit j
                    · rw [htb] at hbs
                      simp only [Bool.false_eq_true, if_false] at hbs
                      have HTB : Hid _ := htb
                      clear htb
                      generalize wr = W3 at *
                      go_wp2_with fail
                      go_loopw [12, 13] (fun f i wr => ∃ k : Nat, k ≤ dl.length ∧ i = .int .i64 k ∧ f = .bool (firstN rt s j k) ∧ Below W0.heap.size W0 wr ∧ W0.heap.size < wr.heap.size ∧ Ints wr W0.heap.size N (inW rt rt.length s (outW rt rt.length s) j)) (fun _ i _ => dl.length - (intOf i).toNat)
                      case atStart => exact ⟨0, Nat.zero_le _, rfl, rfl, HB3.out, hsz3, HO3.out⟩
                      case round =>
                        obtain ⟨k, hk, rfl, rfl, hbw4, hsz4, hO4⟩ := hrel
                        have HB4 : Hid _ := hbw4
                        have HO4 : Hid (Ints _ _ _ _) := hO4
                        by_cases hlk : k < dl.length
                        · have k0 : (0 : Int) ≤ (k : Int) := Int.natCast_nonneg _
                          have k1 : (k : Int) < (dl.length : Int) := by omega
                          clear hbw4 hO4
                          have hbk := bit_shr s k (by omega)
                          by_cases hkj : k = j
                          · have hne : ((k : Int) != (j : Int)) = false := by simp; omega
                            have NX : Hid (firstN rt s j (k + 1) = firstN rt s j k) := by show firstN rt s j (k + 1) = _; simp [firstN, hkj]
                            clear hbk hkj
                            go_wp2_with fail
                            exact ⟨⟨k + 1, by omega, by go_num, by rw [NX.out], HB4.out, hsz4, HO4.out⟩, by simp [intOf]; omega⟩
                          · have hne : ((k : Int) != (j : Int)) = true := by simp; omega
                            cases hkb : s.testBit k
                            · rw [hkb] at hbk
                              simp only [Bool.false_eq_true, if_false] at hbk
                              cases ha : ahd (spAt rt k) (spAt rt j)
                              · have NX : Hid (firstN rt s j (k + 1) = firstN rt s j k) := by show firstN rt s j (k + 1) = _; simp [firstN, ha]
                                clear hkj hkb
                                go_wp2_with fail
                                refine (before_any hs oa g2 oc k j dl rt _ (HC2.out.below HB4.out) hmp.out (by omega) (by omega)).mono ?_
                                rw [ha]
                                rintro e w5 ⟨rfl, hb5⟩
                                have B5 : Hid _ := hb5
                                clear hb5
                                go_wp2_with fail
                                exact ⟨⟨k + 1, by omega, by go_num, by rw [NX.out], HB4.out.trans (B5.out.mono HB4.out.size), Nat.lt_of_lt_of_le hsz4 B5.out.size, HO4.out.below hsz4 B5.out⟩, by simp [intOf]; omega⟩
                              · have NX : Hid (firstN rt s j (k + 1) = false) := by show firstN rt s j (k + 1) = _; simp [firstN, ha, hkj, hkb]
                                clear hkj hkb
                                go_wp2_with fail
                                refine (before_any hs oa g2 oc k j dl rt _ (HC2.out.below HB4.out) hmp.out (by omega) (by omega)).mono ?_
                                rw [ha]
                                rintro e w5 ⟨rfl, hb5⟩
                                have B5 : Hid _ := hb5
                                clear hb5
                                go_wp2_with fail
                                exact ⟨⟨k + 1, by omega, by go_num, by rw [NX.out], HB4.out.trans (B5.out.mono HB4.out.size), Nat.lt_of_lt_of_le hsz4 B5.out.size, HO4.out.below hsz4 B5.out⟩, by simp [intOf]; omega⟩
                            · rw [hkb] at hbk
                              simp only [if_true] at hbk
                              have NX : Hid (firstN rt s j (k + 1) = firstN rt s j k) := by show firstN rt s j (k + 1) = _; simp [firstN, hkb]
                              clear hkj hkb
                              go_wp2_with fail
                              exact ⟨⟨k + 1, by omega, by go_num, by rw [NX.out], HB4.out, hsz4, HO4.out⟩, by simp [intOf]; omega⟩
                        · obtain rfl : k = dl.length := by omega
                          have hcn : condP rt rt.length s j = firstN rt s j dl.length := by rw [hcnd.out, HTB.out, show dl.length = rt.length by omega]; rfl
                          have HCN : Hid _ := hcn
                          clear hbw4 hcn
                          cases hff : firstN rt s j dl.length
                          · have HNX : Hid (inW rt rt.length s (outW rt rt.length s) (j + 1) = inW rt rt.length s (outW rt rt.length s) j) := by
                              show inW rt rt.length s (outW rt rt.length s) (j + 1) = _
                              simp only [inW]
                              rw [if_neg]
                              rw [HCN.out, hff]; simp
                            clear hO4
                            go_wp2_with fail
                            refine ⟨⟨j + 1, by omega, by go_num, HB4.out, hsz4, ?_⟩, by simp [intOf]; omega⟩
                            rw [HNX.out]
                            exact HO4.out
                          · obtain ⟨Q, hQ⟩ : ∃ Q, Q = s ||| 2 ^ j := ⟨_, rfl⟩
                            have hQN : Q < N := by rw [hQ, HN.out]; exact Nat.or_lt_two_pow (by rw [← HN.out]; exact hls) (Nat.pow_lt_pow_right (by omega) (by omega))
                            have rq : bits BinOp.or IntKind.i64 (s : Int) (wrap64 (2 ^ j)) = (Q : Int) := by rw [hQ]; exact or_pow (by omega) (by omega)
                            obtain ⟨o0, o1⟩ := hO4 Q hQN
                            obtain ⟨o4, o5⟩ := hO4 s hls
                            have HNX : Hid (inW rt rt.length s (outW rt rt.length s) (j + 1) = fun x => if x = Q then wrap64 (inW rt rt.length s (outW rt rt.length s) j Q + inW rt rt.length s (outW rt rt.length s) j s) else inW rt rt.length s (outW rt rt.length s) j x) := by
                              show inW rt rt.length s (outW rt rt.length s) (j + 1) = _
                              simp only [inW]
                              rw [if_pos (by rw [HCN.out, hff]), hQ]
                            have q0 : (0 : Int) ≤ (Q : Int) := Int.natCast_nonneg _
                            have q1 : (Q : Int) < (N : Int) := by omega
                            clear hO4 hQ
                            go_wp2_with fail
                            go_region
                            go_wp2_with fail
                            refine ⟨⟨j + 1, by omega, by go_num, (HB4.out.setCell (by simp) _).drew, by simp; omega, ?_⟩, by simp [intOf]; omega⟩
                            rw [HNX.out]
                            exact HO4.out.set Q _ hQN
                    · rw [htb] at hbs
                      simp only [if_true] at hbs
                      have HNX : Hid (inW rt rt.length s (outW rt rt.length s) (j + 1) = inW rt rt.length s (outW rt rt.length s) j) := by
                        show inW rt rt.length s (outW rt rt.length s) (j + 1) = _
                        simp only [inW]
                        rw [if_neg]
                        rw [hcnd.out, htb]; simp
                      clear htb
                      go_wp2_with fail
                      refine ⟨⟨j + 1, by omega, by go_num, HB3.out, hsz3, ?_⟩, by simp [intOf]; omega⟩
                      rw [HNX.out]
                      exact HO3.out
                  · have hjj : Hid (j = rt.length) := by show j = rt.length; omega
                    go_wp2_with fail
                    refine ⟨⟨s + 1, by omega, by go_num, HB3.out, hsz3, ?_⟩, by simp [intOf]; omega⟩
                    have := HO3.out
                    rw [hjj.out] at this
                    exact this
            · obtain rfl : s = N := by omega
              have hdb : decide ((s : Int) < wrap64 (2 ^ dl.length)) = false := by rw [wN.out]; simp
              obtain ⟨M, hM⟩ : ∃ M, M = s - 1 := ⟨_, rfl⟩
              have hMs : (M : Int) < (s : Int) := by omega
              have hM0 : (0 : Int) ≤ (M : Int) := Int.natCast_nonneg _
              obtain ⟨o0, o1⟩ := hO M (by omega)
              have F2 : Hid (ordsA rt = outW rt rt.length s M) := by show ordsA rt = _; unfold ordsA; rw [← HN.out, hM]
              have hix : wrap64 (wrap64 (2 ^ dl.length) - 1) = (M : Int) := by rw [wN.out]; unfold wrap64; omega
              clear hO hbw2 hM hm2 hc0 wN HN hNi hNj hN0 hN1 hs' hls s0 hl1 hl2 hbi
              go_wp2_with fail
              go_ret2
              exact ⟨by rw [F.out, F2.out]; rfl, HB.out.trans ((HW.out.trans (HB2.out.mono HW.out.size)).mono HB.out.size)⟩
  · have hn : (hErr hs != 0) = true := by simp [he]
    have F : Hid (ordersA hs = (0, hErr hs)) := by show ordersA hs = _; unfold ordersA; rw [if_pos he]
    clear he
    go_enter Try.func40, Try.ntmps40
    go_wp2_with fail
    refine (rCalls_any base b o c hs pb pc pg po _ HA.out).mono ?_
    rintro e w1 ⟨v, rfl, hb, _, hown⟩
    clear hown
    go_wp2_with fail
    go_ret2
    exact ⟨by rw [F.out]; rfl, hb⟩
end Go.Proofs.Ytplkhknoomninaa
