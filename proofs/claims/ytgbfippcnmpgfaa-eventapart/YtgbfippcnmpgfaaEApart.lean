
/- Layer 5: EventApart, walked. -/

import Derived.Test.YtgbfippcnmpgfaaEApF

import Derived.Test.YtgbfippcnmpgfaaEApS

import Derived.Test.YtgbfippcnmpgfaaERParts

namespace Go.Proofs.Ytgbfippcnmpgfaa

open Go.RowKit

attribute [local go_sem ↓] Go.wp_at_zero Go.wp_at_succ

theorem Spo.down {KS : Nat → Prop} {B : Nat} {w W z : World} (h : Below B w W) (s : Spo KS W z) (hB : B ≤ W.heap.size) (hk : ∀ b, KS b → B ≤ b) : Below B w z :=
  h.trans ⟨s.bel.os, s.bel.tape, s.bel.output, s.size, fun k hk' => s.keep k (by omega) (fun q => by have := hk k q; omega)⟩
/-- The blocks that the law writes: those of the row that it made, of a, c and o. -/
def KSp (f0 f1 a0 a1 c0 c1 o0 o1 : Nat) (b : Nat) : Prop := (f0 ≤ b ∧ b < f1) ∨ (a0 ≤ b ∧ b < a1) ∨ (c0 ≤ b ∧ b < c1) ∨ (o0 ≤ b ∧ b < o1)

set_option maxRecDepth 100000 in
set_option maxHeartbeats 4000000 in
theorem eventApart_ok (base : Option Addr) (b o c : Nat) (hs : List EvD) (pb : Nat → Option Addr) (pc pg po : Nat → Nat) (w : World) (h : EvsAt w base b o hs pb pc pg po) (hby : hs.length * 96 ≤ 140737488351232) (he : hErr hs = 0) :
    Calls Try.prog 3 #[.slice base hs.length c] w fun e w' => e = .returned (.bool true) ∧ Below w.heap.size w w' := by
  have HA : Hid _ := h
  have HE : Hid (hErr hs = 0) := he
  obtain ⟨n, hn⟩ : ∃ n, n = hs.length := ⟨_, rfl⟩
  obtain ⟨M, hM⟩ : ∃ M, M = n + 6 := ⟨_, rfl⟩
  have e6 : IntKind.i64.wrap ((n : Int) + 6) = (M : Int) := by rw [IntKind.wrap_i64] <;> omega
  have e7 : wrap64 ((n : Int) + 6) = (M : Int) := by unfold wrap64; omega
  have hMx : M * 96 ≤ 140737488355328 := by omega
  have n0 : (0 : Int) ≤ (n : Int) := Int.natCast_nonneg _
  have nM : (n : Int) ≤ (M : Int) := by omega
  have q0 : (hErr hs != hErr hs) = false := by simp
  have q1 : (hErr hs == 0) = true := by simp [he]
  have hmk := run_make_known (P := Try.prog) 22 55 (.agg z10) 10 96 evs_under ev_info M (by omega) (by omega)
  have HN : Hid (n = hs.length) := hn
  have HM : Hid (M = n + 6) := hM
  have HBY : Hid (hs.length * 96 ≤ 140737488351232) := hby
  rw [← hn]
  clear h hn hM hby he
  go_enter Try.func3, Try.ntmps3
  go_wp2_with fail
  refine (known_any _).mono ?_
  rintro e w1 ⟨rfl, hb1⟩
  have B1 : Hid _ := hb1
  clear hb1
  go_wp2_with fail
  have EA2 := copyEvents_row base b o c hs pb pc pg po (w1.alloc (.cells (madeCells z10 (M * 10)) 55)) (HA.out.below (B1.out.alloc B1.out.size _)) (by have := HN.out; have := HM.out; omega)
  rw [← HN.out] at EA2
  refine EA2.mono ?_
  clear EA2
  rintro e w2 ⟨v2, m2, rfl, hb2, hm2, ho2, hr2⟩
  have hml : m2.length = n := by rw [HN.out, ← hm2, List.length_map]
  obtain ⟨a2, c2, rfl⟩ := owns_form ho2
  rw [hml] at ho2 hr2 ⊢
  obtain ⟨w3, hcp, hb3, hl3, pb3, pc3, pg3, po3, hE3, hB3⟩ := copy_full 3 hs m2 HN.out.symm HM.out hMx hm2 hb2 ho2 hr2
  have FF : Hid _ := hE3
  have RI : Hid (w1.heap.size < w3.heap.size ∧ ∀ i, i < hs.length → (evAt hs i).rt.pairs.length ≠ 0 → w1.heap.size ≤ pg3 i ∧ pg3 i < w3.heap.size) := ⟨hl3, fun i hi q => by
    have e : evAt (hs ++ List.replicate 6 ev0) i = evAt hs i := by unfold evAt; rw [List.getD_eq_getElem?_getD, List.getD_eq_getElem?_getD, List.getElem?_append_left hi]
    exact ⟨hB3 i (by rw [List.length_append]; omega) (by rw [e]; exact q), (hE3.head.prs i hi).1.lt q⟩⟩
  have B3 : Hid (Below w.heap.size w w3) := B1.out.trans (hb3.mono B1.out.size)
  have Z1 : Hid (w.heap.size ≤ w1.heap.size) := B1.out.size
  have HL : Hid ((hs ++ List.replicate 6 ev0).length = M) := by show _ = _; rw [HM.out, HN.out]; simp
  have II : Hid (EvsAt w3 (some ⟨w1.heap.size, 0, none⟩) w1.heap.size 0 hs pb3 pc3 pg3 po3) := hE3.head
  have LN : Hid (hs.length = n) := HN.out.symm
  clear hb2 hm2 ho2 hr2 hml hb3 hE3 hB3 hl3 hmk B1
  have CWA : Hid (∀ W, EvsAt W (some ⟨w1.heap.size, 0, none⟩) w1.heap.size 0 (hs ++ List.replicate 6 ev0) pb3 pc3 pg3 po3 → Calls Try.prog 5 #[.slice (some ⟨w1.heap.size, 0, none⟩) M M] W fun e w' => ∃ v, e = .returned v ∧ Below W.heap.size W w' ∧ EvsNew w' W.heap.size W.heap.size v (hs ++ List.replicate 6 ev0)) := fun W hW => by
    have := copyEvents_any _ _ 0 M _ _ _ _ _ W hW (by rw [HL.out]; omega)
    rw [HL.out] at this
    exact this
  have KCA : Hid (∀ W, EvsAt W (some ⟨w1.heap.size, 0, none⟩) w1.heap.size 0 hs pb3 pc3 pg3 po3 → Calls Try.prog 6 #[.slice (some ⟨w1.heap.size, 0, none⟩) n M] W fun e w' => ∃ bs cap g qb qc qg qo, e = .returned (.tuple #[.slice bs (lcd hs).length cap, .int .i64 (hErr hs)]) ∧ Below W.heap.size W w' ∧ CdsAt w' bs g 0 (lcd hs) qb qc qg qo ∧ ((lcd hs).length ≠ 0 → W.heap.size ≤ g) ∧ (∀ i, i < (lcd hs).length → (cdAt (lcd hs) i).rt.pairs.length ≠ 0 → W.heap.size ≤ qg i) ∧ ∀ k, k < (lcd hs).length * 11 → w'.frozen? ⟨g, k, none⟩ = false) := fun W hW => by
    have := calls_new (some ⟨w1.heap.size, 0, none⟩) w1.heap.size 0 M hs pb3 pc3 pg3 po3 W hW 
    rw [LN.out] at this
    exact this
  have KCU : Hid (∀ (k : Int) W, EvsAt W (some ⟨w1.heap.size, 0, none⟩) w1.heap.size 0 hs pb3 pc3 pg3 po3 → Calls Try.prog 7 #[.slice (some ⟨w1.heap.size, 0, none⟩) n M, .int .i64 k] W fun e w' => ∃ v, e = .returned (.tuple #[v, .int .i64 (cutE hs k)]) ∧ Below W.heap.size W w' ∧ EvsNew w' W.heap.size W.heap.size v (cutL hs k)) := fun k W hW => by
    have := Cut_any (some ⟨w1.heap.size, 0, none⟩) w1.heap.size 0 M hs pb3 pc3 pg3 po3 W hW k
    rw [LN.out] at this
    exact this
  have KDO : Hid (∀ W, EvsAt W (some ⟨w1.heap.size, 0, none⟩) w1.heap.size 0 hs pb3 pc3 pg3 po3 → Calls Try.prog 8 #[.slice (some ⟨w1.heap.size, 0, none⟩) n M] W fun e w' => ∃ v, e = .returned (.tuple #[v, .int .i64 (hErr hs)]) ∧ Below W.heap.size W w' ∧ EvsNew w' W.heap.size W.heap.size v (doneL hs)) := fun W hW => by
    have := Done_any (some ⟨w1.heap.size, 0, none⟩) w1.heap.size 0 M hs pb3 pc3 pg3 po3 W hW 
    rw [LN.out] at this
    exact this
  have KOF : Hid (∀ W, EvsAt W (some ⟨w1.heap.size, 0, none⟩) w1.heap.size 0 hs pb3 pc3 pg3 po3 → Calls Try.prog 9 #[.slice (some ⟨w1.heap.size, 0, none⟩) n M, .int .i64 0] W fun e w' => ∃ v, e = .returned (.tuple #[v, .int .i64 (hErr hs)]) ∧ Below W.heap.size W w' ∧ EvsNew w' W.heap.size W.heap.size v (ofL' hs 0)) := fun W hW => by
    have := Of_new (some ⟨w1.heap.size, 0, none⟩) w1.heap.size 0 M hs pb3 pc3 pg3 po3 W hW 0
    rw [LN.out] at this
    exact this
  have RCA : Hid (∀ W, EvsAt W base b o hs pb pc pg po → Calls Try.prog 12 #[.slice base n c] W fun e w' => ∃ bs cap g qb qc qg qo, e = .returned (.tuple #[.slice bs (lcd hs).length cap, .int .i64 (hErr hs)]) ∧ Below W.heap.size W w' ∧ CdsAt w' bs g 0 (lcd hs) qb qc qg qo ∧ ((lcd hs).length ≠ 0 → W.heap.size ≤ g) ∧ (∀ i, i < (lcd hs).length → (cdAt (lcd hs) i).rt.pairs.length ≠ 0 → W.heap.size ≤ qg i)) := fun W hW => by
    have := rcalls_new base b o c hs pb pc pg po W hW 
    rw [LN.out] at this
    exact this
  have RCU : Hid (∀ (k : Int) W, EvsAt W base b o hs pb pc pg po → Calls Try.prog 13 #[.slice base n c, .int .i64 k] W fun e w' => ∃ v, e = .returned (.tuple #[v, .int .i64 (cutE hs k)]) ∧ Below W.heap.size W w' ∧ EvsNew w' W.heap.size W.heap.size v (cutL hs k)) := fun k W hW => by
    have := rCut_any base b o c hs pb pc pg po W hW k
    rw [LN.out] at this
    exact this
  have RDO : Hid (∀ W, EvsAt W base b o hs pb pc pg po → Calls Try.prog 14 #[.slice base n c] W fun e w' => ∃ v, e = .returned (.tuple #[v, .int .i64 (hErr hs)]) ∧ Below W.heap.size W w' ∧ EvsNew w' W.heap.size W.heap.size v (doneL hs)) := fun W hW => by
    have := rDone_any base b o c hs pb pc pg po W hW 
    rw [LN.out] at this
    exact this
  have ROF : Hid (∀ W, EvsAt W base b o hs pb pc pg po → Calls Try.prog 15 #[.slice base n c, .int .i64 0] W fun e w' => ∃ v, e = .returned (.tuple #[v, .int .i64 (hErr hs)]) ∧ Below W.heap.size W w' ∧ EvsNew w' W.heap.size W.heap.size v (ofL' hs 0)) := fun W hW => by
    have := rOf_new base b o c hs pb pc pg po W hW 0
    rw [LN.out] at this
    exact this
  go_wp2_with fail
  refine (CWA.out _ FF.out).mono ?_
  rintro e w4 ⟨v4, rfl, hb4, x4, k4, g4, pb4, pc4, pg4, po4, rfl, hE4, hg4, _, hp4⟩
  replace FF : Hid _ := FF.out.below hb4
  replace II : Hid _ := II.out.below hb4
  have B4 : Hid (Below w.heap.size w w4) := B3.out.trans (hb4.mono B3.out.size)
  have Z4 : Hid (w3.heap.size ≤ w4.heap.size) := hb4.size
  have WS : Hid _ := hE4
  have RWS : Hid ((hs ++ List.replicate 6 ev0).length ≠ 0 → w3.heap.size ≤ g4 ∧ g4 < w4.heap.size) := fun q => ⟨hg4 q, hE4.lt q⟩
  have PWS : Hid (∀ i, i < (hs ++ List.replicate 6 ev0).length → (evAt (hs ++ List.replicate 6 ev0) i).rt.pairs.length ≠ 0 → w3.heap.size ≤ pg4 i ∧ pg4 i < w4.heap.size) := fun i hi q => ⟨hp4 i hi q, (hE4.prs i hi).1.lt q⟩
  clear hb4 hE4 hg4 hp4
  rw [HL.out]
  go_wp2_with fail
  refine (KCA.out _ II.out).mono ?_
  rintro e w5 ⟨x5, k5, g5, qb5, qc5, qg5, qo5, rfl, hb5, hC5, hg5, hp5, hf5⟩
  replace FF : Hid _ := FF.out.below hb5
  replace II : Hid _ := II.out.below hb5
  replace WS : Hid _ := WS.out.below hb5
  have B5 : Hid (Below w.heap.size w w5) := B4.out.trans (hb5.mono B4.out.size)
  have Z5 : Hid (w4.heap.size ≤ w5.heap.size) := hb5.size
  have CA : Hid _ := hC5
  have RXTCA : Hid (((lcd hs).length ≠ 0 → w4.heap.size ≤ g5 ∧ g5 < w5.heap.size) ∧ ∀ i, i < (lcd hs).length → (cdAt (lcd hs) i).rt.pairs.length ≠ 0 → w4.heap.size ≤ qg5 i ∧ qg5 i < w5.heap.size) := ⟨fun q => ⟨hg5 q, hC5.lt q⟩, fun i hi q => ⟨hp5 i hi q, (hC5.prs i hi).1.lt q⟩⟩
  have TCA : Hid (∀ k, k < (lcd hs).length * 11 → w5.frozen? ⟨g5, k, none⟩ = false) := hf5
  clear hb5 hC5 hg5 hp5 hf5
  go_wp2_with fail
  refine (KCA.out _ II.out).mono ?_
  rintro e w6 ⟨x6, k6, g6, qb6, qc6, qg6, qo6, rfl, hb6, hC6, hg6, hp6, _⟩
  replace TCA : Hid (∀ k, k < (lcd hs).length * 11 → w6.frozen? ⟨g5, k, none⟩ = false) := fun k hk => (hb6.frozen (p := ⟨g5, k, none⟩) (CA.out.lt (by omega))).trans (TCA.out k hk)
  replace FF : Hid _ := FF.out.below hb6
  replace II : Hid _ := II.out.below hb6
  replace WS : Hid _ := WS.out.below hb6
  replace CA : Hid _ := CA.out.below hb6
  have B6 : Hid (Below w.heap.size w w6) := B5.out.trans (hb6.mono B5.out.size)
  have Z6 : Hid (w5.heap.size ≤ w6.heap.size) := hb6.size
  have CB : Hid _ := hC6
  have RXTCB : Hid (((lcd hs).length ≠ 0 → w5.heap.size ≤ g6 ∧ g6 < w6.heap.size) ∧ ∀ i, i < (lcd hs).length → (cdAt (lcd hs) i).rt.pairs.length ≠ 0 → w5.heap.size ≤ qg6 i ∧ qg6 i < w6.heap.size) := ⟨fun q => ⟨hg6 q, hC6.lt q⟩, fun i hi q => ⟨hp6 i hi q, (hC6.prs i hi).1.lt q⟩⟩
  clear hb6 hC6 hg6 hp6
  go_wp2_with fail
  refine (KCU.out _ _ II.out).mono ?_
  rintro e w7 ⟨v7, rfl, hb7, x7, k7, g7, pb7, pc7, pg7, po7, rfl, hE7, hg7, _, hp7⟩
  replace TCA : Hid (∀ k, k < (lcd hs).length * 11 → w7.frozen? ⟨g5, k, none⟩ = false) := fun k hk => (hb7.frozen (p := ⟨g5, k, none⟩) (CA.out.lt (by omega))).trans (TCA.out k hk)
  replace FF : Hid _ := FF.out.below hb7
  replace II : Hid _ := II.out.below hb7
  replace WS : Hid _ := WS.out.below hb7
  replace CA : Hid _ := CA.out.below hb7
  replace CB : Hid _ := CB.out.below hb7
  have B7 : Hid (Below w.heap.size w w7) := B6.out.trans (hb7.mono B6.out.size)
  have Z7 : Hid (w6.heap.size ≤ w7.heap.size) := hb7.size
  have EC : Hid _ := hE7
  have REC : Hid ((cutL hs _).length ≠ 0 → w6.heap.size ≤ g7 ∧ g7 < w7.heap.size) := fun q => ⟨hg7 q, hE7.lt q⟩
  have PEC : Hid (∀ i, i < (cutL hs _).length → (evAt (cutL hs _) i).rt.pairs.length ≠ 0 → w6.heap.size ≤ pg7 i ∧ pg7 i < w7.heap.size) := fun i hi q => ⟨hp7 i hi q, (hE7.prs i hi).1.lt q⟩
  clear hb7 hE7 hg7 hp7
  go_wp2_with fail
  refine (KDO.out _ II.out).mono ?_
  rintro e w8 ⟨v8, rfl, hb8, x8, k8, g8, pb8, pc8, pg8, po8, rfl, hE8, hg8, _, hp8⟩
  replace TCA : Hid (∀ k, k < (lcd hs).length * 11 → w8.frozen? ⟨g5, k, none⟩ = false) := fun k hk => (hb8.frozen (p := ⟨g5, k, none⟩) (CA.out.lt (by omega))).trans (TCA.out k hk)
  replace FF : Hid _ := FF.out.below hb8
  replace II : Hid _ := II.out.below hb8
  replace WS : Hid _ := WS.out.below hb8
  replace CA : Hid _ := CA.out.below hb8
  replace CB : Hid _ := CB.out.below hb8
  replace EC : Hid _ := EC.out.below hb8
  have B8 : Hid (Below w.heap.size w w8) := B7.out.trans (hb8.mono B7.out.size)
  have Z8 : Hid (w7.heap.size ≤ w8.heap.size) := hb8.size
  have ED : Hid _ := hE8
  have RED : Hid ((doneL hs).length ≠ 0 → w7.heap.size ≤ g8 ∧ g8 < w8.heap.size) := fun q => ⟨hg8 q, hE8.lt q⟩
  have PED : Hid (∀ i, i < (doneL hs).length → (evAt (doneL hs) i).rt.pairs.length ≠ 0 → w7.heap.size ≤ pg8 i ∧ pg8 i < w8.heap.size) := fun i hi q => ⟨hp8 i hi q, (hE8.prs i hi).1.lt q⟩
  clear hb8 hE8 hg8 hp8
  go_wp2_with fail
  refine (KOF.out _ II.out).mono ?_
  rintro e w9 ⟨v9, rfl, hb9, x9, k9, g9, pb9, pc9, pg9, po9, rfl, hE9, hg9, _, hp9⟩
  replace TCA : Hid (∀ k, k < (lcd hs).length * 11 → w9.frozen? ⟨g5, k, none⟩ = false) := fun k hk => (hb9.frozen (p := ⟨g5, k, none⟩) (CA.out.lt (by omega))).trans (TCA.out k hk)
  replace FF : Hid _ := FF.out.below hb9
  replace II : Hid _ := II.out.below hb9
  replace WS : Hid _ := WS.out.below hb9
  replace CA : Hid _ := CA.out.below hb9
  replace CB : Hid _ := CB.out.below hb9
  replace EC : Hid _ := EC.out.below hb9
  replace ED : Hid _ := ED.out.below hb9
  have B9 : Hid (Below w.heap.size w w9) := B8.out.trans (hb9.mono B8.out.size)
  have Z9 : Hid (w8.heap.size ≤ w9.heap.size) := hb9.size
  have EO : Hid _ := hE9
  have REO : Hid ((ofL' hs 0).length ≠ 0 → w8.heap.size ≤ g9 ∧ g9 < w9.heap.size) := fun q => ⟨hg9 q, hE9.lt q⟩
  have PEO : Hid (∀ i, i < (ofL' hs 0).length → (evAt (ofL' hs 0) i).rt.pairs.length ≠ 0 → w8.heap.size ≤ pg9 i ∧ pg9 i < w9.heap.size) := fun i hi q => ⟨hp9 i hi q, (hE9.prs i hi).1.lt q⟩
  clear hb9 hE9 hg9 hp9
  go_wp2_with fail
  refine (KOF.out _ II.out).mono ?_
  rintro e w10 ⟨v10, rfl, hb10, x10, k10, g10, pb10, pc10, pg10, po10, rfl, hE10, hg10, _, hp10⟩
  replace TCA : Hid (∀ k, k < (lcd hs).length * 11 → w10.frozen? ⟨g5, k, none⟩ = false) := fun k hk => (hb10.frozen (p := ⟨g5, k, none⟩) (CA.out.lt (by omega))).trans (TCA.out k hk)
  replace FF : Hid _ := FF.out.below hb10
  replace II : Hid _ := II.out.below hb10
  replace WS : Hid _ := WS.out.below hb10
  replace CA : Hid _ := CA.out.below hb10
  replace CB : Hid _ := CB.out.below hb10
  replace EC : Hid _ := EC.out.below hb10
  replace ED : Hid _ := ED.out.below hb10
  replace EO : Hid _ := EO.out.below hb10
  have B10 : Hid (Below w.heap.size w w10) := B9.out.trans (hb10.mono B9.out.size)
  have Z10 : Hid (w9.heap.size ≤ w10.heap.size) := hb10.size
  have EP : Hid _ := hE10
  have REP : Hid ((ofL' hs 0).length ≠ 0 → w9.heap.size ≤ g10 ∧ g10 < w10.heap.size) := fun q => ⟨hg10 q, hE10.lt q⟩
  have PEP : Hid (∀ i, i < (ofL' hs 0).length → (evAt (ofL' hs 0) i).rt.pairs.length ≠ 0 → w9.heap.size ≤ pg10 i ∧ pg10 i < w10.heap.size) := fun i hi q => ⟨hp10 i hi q, (hE10.prs i hi).1.lt q⟩
  clear hb10 hE10 hg10 hp10
  go_wp2_with fail
  refine (back_new HE.out x5 g5 0 k5 qb5 qc5 qg5 qo5 _ CA.out).mono ?_
  rintro e w11 ⟨x11, k11, g11, pb11, pc11, pg11, po11, rfl, hb11, hE11, hg11, hp11⟩
  replace TCA : Hid (∀ k, k < (lcd hs).length * 11 → w11.frozen? ⟨g5, k, none⟩ = false) := fun k hk => (hb11.frozen (p := ⟨g5, k, none⟩) (CA.out.lt (by omega))).trans (TCA.out k hk)
  replace FF : Hid _ := FF.out.below hb11
  replace II : Hid _ := II.out.below hb11
  replace WS : Hid _ := WS.out.below hb11
  replace CA : Hid _ := CA.out.below hb11
  replace CB : Hid _ := CB.out.below hb11
  replace EC : Hid _ := EC.out.below hb11
  replace ED : Hid _ := ED.out.below hb11
  replace EO : Hid _ := EO.out.below hb11
  replace EP : Hid _ := EP.out.below hb11
  have B11 : Hid (Below w.heap.size w w11) := B10.out.trans (hb11.mono B10.out.size)
  have Z11 : Hid (w10.heap.size ≤ w11.heap.size) := hb11.size
  have EK : Hid _ := hE11
  have REK : Hid (hs.length ≠ 0 → w10.heap.size ≤ g11 ∧ g11 < w11.heap.size) := fun q => ⟨hg11, hE11.lt q⟩
  have PEK : Hid (∀ i, i < hs.length → (evAt hs i).rt.pairs.length ≠ 0 → w10.heap.size ≤ pg11 i ∧ pg11 i < w11.heap.size) := fun i hi q => ⟨hp11 i hi q, (hE11.prs i hi).1.lt q⟩
  clear hb11 hE11 hg11 hp11
  have SAME : Hid (∀ (a1 a2 : Option Addr) (b1 o1 c1 b2 o2 c2 : Nat) (x : List EvD) (pb qb : Nat → Option Addr) (pc pg po qc qg qo : Nat → Nat) (W : World), EvsAt W a1 b1 o1 x pb pc pg po → EvsAt W a2 b2 o2 x qb qc qg qo → Calls Try.prog 11 #[.slice a1 x.length c1, .slice a2 x.length c2] W fun e w' => e = .returned (.bool true) ∧ Below W.heap.size W w') := fun a1 a2 b1 o1 c1 b2 o2 c2 x pb qb pc pg po qc qg qo W h1 h2 => (sameEvents_any a1 a2 b1 o1 c1 b2 o2 c2 x x pb qb pc pg po qc qg qo W h1 h2).mono (fun e w' ⟨r, e1, e2, e3⟩ => ⟨by rw [e1, e3.2 rfl], e2⟩)
  have SAM : Hid (∀ W, EvsAt W (some ⟨w1.heap.size, 0, none⟩) w1.heap.size 0 (hs ++ List.replicate 6 ev0) pb3 pc3 pg3 po3 → EvsAt W x4 g4 0 (hs ++ List.replicate 6 ev0) pb4 pc4 pg4 po4 → Calls Try.prog 11 #[.slice (some ⟨w1.heap.size, 0, none⟩) M M, .slice x4 M k4] W fun e w' => e = .returned (.bool true) ∧ Below W.heap.size W w') := fun W h1 h2 => by
    have := SAME.out _ _ _ 0 M _ 0 k4 _ _ _ _ _ _ _ _ _ W h1 h2
    rw [HL.out] at this
    exact this
  go_wp2_with fail
  refine (SAM.out _ FF.out WS.out).mono ?_
  rintro e w12 ⟨rfl, hb12⟩
  replace TCA : Hid (∀ k, k < (lcd hs).length * 11 → w12.frozen? ⟨g5, k, none⟩ = false) := fun k hk => (hb12.frozen (p := ⟨g5, k, none⟩) (CA.out.lt (by omega))).trans (TCA.out k hk)
  replace FF : Hid _ := FF.out.below hb12
  replace II : Hid _ := II.out.below hb12
  replace WS : Hid _ := WS.out.below hb12
  replace CA : Hid _ := CA.out.below hb12
  replace CB : Hid _ := CB.out.below hb12
  replace EC : Hid _ := EC.out.below hb12
  replace ED : Hid _ := ED.out.below hb12
  replace EO : Hid _ := EO.out.below hb12
  replace EP : Hid _ := EP.out.below hb12
  replace EK : Hid _ := EK.out.below hb12
  have B12 : Hid (Below w.heap.size w w12) := B11.out.trans (hb12.mono B11.out.size)
  have Z12 : Hid (w11.heap.size ≤ w12.heap.size) := hb12.size
  clear hb12
  go_wp2_with fail
  refine (RCA.out _ (HA.out.below B12.out)).mono ?_
  rintro e w13 ⟨x13, k13, g13, qb13, qc13, qg13, qo13, rfl, hb13, hC13, hg13, hp13⟩
  replace TCA : Hid (∀ k, k < (lcd hs).length * 11 → w13.frozen? ⟨g5, k, none⟩ = false) := fun k hk => (hb13.frozen (p := ⟨g5, k, none⟩) (CA.out.lt (by omega))).trans (TCA.out k hk)
  replace FF : Hid _ := FF.out.below hb13
  replace II : Hid _ := II.out.below hb13
  replace WS : Hid _ := WS.out.below hb13
  replace CA : Hid _ := CA.out.below hb13
  replace CB : Hid _ := CB.out.below hb13
  replace EC : Hid _ := EC.out.below hb13
  replace ED : Hid _ := ED.out.below hb13
  replace EO : Hid _ := EO.out.below hb13
  replace EP : Hid _ := EP.out.below hb13
  replace EK : Hid _ := EK.out.below hb13
  have B13 : Hid (Below w.heap.size w w13) := B12.out.trans (hb13.mono B12.out.size)
  have Z13 : Hid (w12.heap.size ≤ w13.heap.size) := hb13.size
  have CR : Hid _ := hC13
  have RXTCR : Hid (((lcd hs).length ≠ 0 → w12.heap.size ≤ g13 ∧ g13 < w13.heap.size) ∧ ∀ i, i < (lcd hs).length → (cdAt (lcd hs) i).rt.pairs.length ≠ 0 → w12.heap.size ≤ qg13 i ∧ qg13 i < w13.heap.size) := ⟨fun q => ⟨hg13 q, hC13.lt q⟩, fun i hi q => ⟨hp13 i hi q, (hC13.prs i hi).1.lt q⟩⟩
  clear hb13 hC13 hg13 hp13
  go_wp2_with fail
  refine (RCU.out _ _ (HA.out.below B13.out)).mono ?_
  rintro e w14 ⟨v14, rfl, hb14, x14, k14, g14, pb14, pc14, pg14, po14, rfl, hE14, hg14, _, hp14⟩
  replace TCA : Hid (∀ k, k < (lcd hs).length * 11 → w14.frozen? ⟨g5, k, none⟩ = false) := fun k hk => (hb14.frozen (p := ⟨g5, k, none⟩) (CA.out.lt (by omega))).trans (TCA.out k hk)
  replace FF : Hid _ := FF.out.below hb14
  replace II : Hid _ := II.out.below hb14
  replace WS : Hid _ := WS.out.below hb14
  replace CA : Hid _ := CA.out.below hb14
  replace CB : Hid _ := CB.out.below hb14
  replace EC : Hid _ := EC.out.below hb14
  replace ED : Hid _ := ED.out.below hb14
  replace EO : Hid _ := EO.out.below hb14
  replace EP : Hid _ := EP.out.below hb14
  replace EK : Hid _ := EK.out.below hb14
  replace CR : Hid _ := CR.out.below hb14
  have B14 : Hid (Below w.heap.size w w14) := B13.out.trans (hb14.mono B13.out.size)
  have Z14 : Hid (w13.heap.size ≤ w14.heap.size) := hb14.size
  have UC : Hid _ := hE14
  have RUC : Hid ((cutL hs _).length ≠ 0 → w13.heap.size ≤ g14 ∧ g14 < w14.heap.size) := fun q => ⟨hg14 q, hE14.lt q⟩
  have PUC : Hid (∀ i, i < (cutL hs _).length → (evAt (cutL hs _) i).rt.pairs.length ≠ 0 → w13.heap.size ≤ pg14 i ∧ pg14 i < w14.heap.size) := fun i hi q => ⟨hp14 i hi q, (hE14.prs i hi).1.lt q⟩
  clear hb14 hE14 hg14 hp14
  go_wp2_with fail
  refine (RDO.out _ (HA.out.below B14.out)).mono ?_
  rintro e w15 ⟨v15, rfl, hb15, x15, k15, g15, pb15, pc15, pg15, po15, rfl, hE15, hg15, _, hp15⟩
  replace TCA : Hid (∀ k, k < (lcd hs).length * 11 → w15.frozen? ⟨g5, k, none⟩ = false) := fun k hk => (hb15.frozen (p := ⟨g5, k, none⟩) (CA.out.lt (by omega))).trans (TCA.out k hk)
  replace FF : Hid _ := FF.out.below hb15
  replace II : Hid _ := II.out.below hb15
  replace WS : Hid _ := WS.out.below hb15
  replace CA : Hid _ := CA.out.below hb15
  replace CB : Hid _ := CB.out.below hb15
  replace EC : Hid _ := EC.out.below hb15
  replace ED : Hid _ := ED.out.below hb15
  replace EO : Hid _ := EO.out.below hb15
  replace EP : Hid _ := EP.out.below hb15
  replace EK : Hid _ := EK.out.below hb15
  replace CR : Hid _ := CR.out.below hb15
  replace UC : Hid _ := UC.out.below hb15
  have B15 : Hid (Below w.heap.size w w15) := B14.out.trans (hb15.mono B14.out.size)
  have Z15 : Hid (w14.heap.size ≤ w15.heap.size) := hb15.size
  have UD : Hid _ := hE15
  have RUD : Hid ((doneL hs).length ≠ 0 → w14.heap.size ≤ g15 ∧ g15 < w15.heap.size) := fun q => ⟨hg15 q, hE15.lt q⟩
  have PUD : Hid (∀ i, i < (doneL hs).length → (evAt (doneL hs) i).rt.pairs.length ≠ 0 → w14.heap.size ≤ pg15 i ∧ pg15 i < w15.heap.size) := fun i hi q => ⟨hp15 i hi q, (hE15.prs i hi).1.lt q⟩
  clear hb15 hE15 hg15 hp15
  go_wp2_with fail
  refine (ROF.out _ (HA.out.below B15.out)).mono ?_
  rintro e w16 ⟨v16, rfl, hb16, x16, k16, g16, pb16, pc16, pg16, po16, rfl, hE16, hg16, _, hp16⟩
  replace TCA : Hid (∀ k, k < (lcd hs).length * 11 → w16.frozen? ⟨g5, k, none⟩ = false) := fun k hk => (hb16.frozen (p := ⟨g5, k, none⟩) (CA.out.lt (by omega))).trans (TCA.out k hk)
  replace FF : Hid _ := FF.out.below hb16
  replace II : Hid _ := II.out.below hb16
  replace WS : Hid _ := WS.out.below hb16
  replace CA : Hid _ := CA.out.below hb16
  replace CB : Hid _ := CB.out.below hb16
  replace EC : Hid _ := EC.out.below hb16
  replace ED : Hid _ := ED.out.below hb16
  replace EO : Hid _ := EO.out.below hb16
  replace EP : Hid _ := EP.out.below hb16
  replace EK : Hid _ := EK.out.below hb16
  replace CR : Hid _ := CR.out.below hb16
  replace UC : Hid _ := UC.out.below hb16
  replace UD : Hid _ := UD.out.below hb16
  have B16 : Hid (Below w.heap.size w w16) := B15.out.trans (hb16.mono B15.out.size)
  have Z16 : Hid (w15.heap.size ≤ w16.heap.size) := hb16.size
  have UO : Hid _ := hE16
  have RUO : Hid ((ofL' hs 0).length ≠ 0 → w15.heap.size ≤ g16 ∧ g16 < w16.heap.size) := fun q => ⟨hg16 q, hE16.lt q⟩
  have PUO : Hid (∀ i, i < (ofL' hs 0).length → (evAt (ofL' hs 0) i).rt.pairs.length ≠ 0 → w15.heap.size ≤ pg16 i ∧ pg16 i < w16.heap.size) := fun i hi q => ⟨hp16 i hi q, (hE16.prs i hi).1.lt q⟩
  clear hb16 hE16 hg16 hp16
  go_wp2_with fail
  refine (are_same x6 x13 g6 0 k6 g13 0 k13 (lcd hs) qb6 qb13 qc6 qg6 qo6 qc13 qg13 qo13 _ CB.out CR.out).mono ?_
  rintro e w17 ⟨rfl, hb17⟩
  replace TCA : Hid (∀ k, k < (lcd hs).length * 11 → w17.frozen? ⟨g5, k, none⟩ = false) := fun k hk => (hb17.frozen (p := ⟨g5, k, none⟩) (CA.out.lt (by omega))).trans (TCA.out k hk)
  replace FF : Hid _ := FF.out.below hb17
  replace II : Hid _ := II.out.below hb17
  replace WS : Hid _ := WS.out.below hb17
  replace CA : Hid _ := CA.out.below hb17
  replace CB : Hid _ := CB.out.below hb17
  replace EC : Hid _ := EC.out.below hb17
  replace ED : Hid _ := ED.out.below hb17
  replace EO : Hid _ := EO.out.below hb17
  replace EP : Hid _ := EP.out.below hb17
  replace EK : Hid _ := EK.out.below hb17
  replace CR : Hid _ := CR.out.below hb17
  replace UC : Hid _ := UC.out.below hb17
  replace UD : Hid _ := UD.out.below hb17
  replace UO : Hid _ := UO.out.below hb17
  have B17 : Hid (Below w.heap.size w w17) := B16.out.trans (hb17.mono B16.out.size)
  have Z17 : Hid (w16.heap.size ≤ w17.heap.size) := hb17.size
  clear hb17
  go_wp2_with fail
  refine (SAME.out x7 x14 g7 0 k7 g14 0 k14 _ pb7 pb14 pc7 pg7 po7 pc14 pg14 po14 _ EC.out UC.out).mono ?_
  rintro e w18 ⟨rfl, hb18⟩
  replace TCA : Hid (∀ k, k < (lcd hs).length * 11 → w18.frozen? ⟨g5, k, none⟩ = false) := fun k hk => (hb18.frozen (p := ⟨g5, k, none⟩) (CA.out.lt (by omega))).trans (TCA.out k hk)
  replace FF : Hid _ := FF.out.below hb18
  replace II : Hid _ := II.out.below hb18
  replace WS : Hid _ := WS.out.below hb18
  replace CA : Hid _ := CA.out.below hb18
  replace CB : Hid _ := CB.out.below hb18
  replace EC : Hid _ := EC.out.below hb18
  replace ED : Hid _ := ED.out.below hb18
  replace EO : Hid _ := EO.out.below hb18
  replace EP : Hid _ := EP.out.below hb18
  replace EK : Hid _ := EK.out.below hb18
  replace CR : Hid _ := CR.out.below hb18
  replace UC : Hid _ := UC.out.below hb18
  replace UD : Hid _ := UD.out.below hb18
  replace UO : Hid _ := UO.out.below hb18
  have B18 : Hid (Below w.heap.size w w18) := B17.out.trans (hb18.mono B17.out.size)
  have Z18 : Hid (w17.heap.size ≤ w18.heap.size) := hb18.size
  clear hb18
  go_wp2_with fail
  refine (SAME.out x8 x15 g8 0 k8 g15 0 k15 _ pb8 pb15 pc8 pg8 po8 pc15 pg15 po15 _ ED.out UD.out).mono ?_
  rintro e w19 ⟨rfl, hb19⟩
  replace TCA : Hid (∀ k, k < (lcd hs).length * 11 → w19.frozen? ⟨g5, k, none⟩ = false) := fun k hk => (hb19.frozen (p := ⟨g5, k, none⟩) (CA.out.lt (by omega))).trans (TCA.out k hk)
  replace FF : Hid _ := FF.out.below hb19
  replace II : Hid _ := II.out.below hb19
  replace WS : Hid _ := WS.out.below hb19
  replace CA : Hid _ := CA.out.below hb19
  replace CB : Hid _ := CB.out.below hb19
  replace EC : Hid _ := EC.out.below hb19
  replace ED : Hid _ := ED.out.below hb19
  replace EO : Hid _ := EO.out.below hb19
  replace EP : Hid _ := EP.out.below hb19
  replace EK : Hid _ := EK.out.below hb19
  replace CR : Hid _ := CR.out.below hb19
  replace UC : Hid _ := UC.out.below hb19
  replace UD : Hid _ := UD.out.below hb19
  replace UO : Hid _ := UO.out.below hb19
  have B19 : Hid (Below w.heap.size w w19) := B18.out.trans (hb19.mono B18.out.size)
  have Z19 : Hid (w18.heap.size ≤ w19.heap.size) := hb19.size
  clear hb19
  go_wp2_with fail
  refine (SAME.out x9 x16 g9 0 k9 g16 0 k16 _ pb9 pb16 pc9 pg9 po9 pc16 pg16 po16 _ EO.out UO.out).mono ?_
  rintro e w20 ⟨rfl, hb20⟩
  replace TCA : Hid (∀ k, k < (lcd hs).length * 11 → w20.frozen? ⟨g5, k, none⟩ = false) := fun k hk => (hb20.frozen (p := ⟨g5, k, none⟩) (CA.out.lt (by omega))).trans (TCA.out k hk)
  replace FF : Hid _ := FF.out.below hb20
  replace II : Hid _ := II.out.below hb20
  replace WS : Hid _ := WS.out.below hb20
  replace CA : Hid _ := CA.out.below hb20
  replace CB : Hid _ := CB.out.below hb20
  replace EC : Hid _ := EC.out.below hb20
  replace ED : Hid _ := ED.out.below hb20
  replace EO : Hid _ := EO.out.below hb20
  replace EP : Hid _ := EP.out.below hb20
  replace EK : Hid _ := EK.out.below hb20
  replace CR : Hid _ := CR.out.below hb20
  replace UC : Hid _ := UC.out.below hb20
  replace UD : Hid _ := UD.out.below hb20
  replace UO : Hid _ := UO.out.below hb20
  have B20 : Hid (Below w.heap.size w w20) := B19.out.trans (hb20.mono B19.out.size)
  have Z20 : Hid (w19.heap.size ≤ w20.heap.size) := hb20.size
  clear hb20
  have SAB : Hid (∀ W, EvsAt W x11 g11 0 hs pb11 pc11 pg11 po11 → EvsAt W base b o hs pb pc pg po → Calls Try.prog 11 #[.slice x11 hs.length k11, .slice base n c] W fun e w' => e = .returned (.bool true) ∧ Below W.heap.size W w') := fun W h1 h2 => by
    have := SAME.out _ _ _ 0 k11 _ _ c _ _ _ _ _ _ _ _ _ W h1 h2
    rw [LN.out] at this ⊢
    exact this
  go_wp2_with fail
  refine (SAB.out _ EK.out (HA.out.below B20.out)).mono ?_
  rintro e w21 ⟨rfl, hb21⟩
  replace TCA : Hid (∀ k, k < (lcd hs).length * 11 → w21.frozen? ⟨g5, k, none⟩ = false) := fun k hk => (hb21.frozen (p := ⟨g5, k, none⟩) (CA.out.lt (by omega))).trans (TCA.out k hk)
  replace FF : Hid _ := FF.out.below hb21
  replace II : Hid _ := II.out.below hb21
  replace WS : Hid _ := WS.out.below hb21
  replace CA : Hid _ := CA.out.below hb21
  replace CB : Hid _ := CB.out.below hb21
  replace EC : Hid _ := EC.out.below hb21
  replace ED : Hid _ := ED.out.below hb21
  replace EO : Hid _ := EO.out.below hb21
  replace EP : Hid _ := EP.out.below hb21
  replace EK : Hid _ := EK.out.below hb21
  replace CR : Hid _ := CR.out.below hb21
  replace UC : Hid _ := UC.out.below hb21
  replace UD : Hid _ := UD.out.below hb21
  replace UO : Hid _ := UO.out.below hb21
  have B21 : Hid (Below w.heap.size w w21) := B20.out.trans (hb21.mono B20.out.size)
  have Z21 : Hid (w20.heap.size ≤ w21.heap.size) := hb21.size
  clear hb21
  -- the blocks that are written
  have ZZ : Hid (w.heap.size ≤ w1.heap.size ∧ w1.heap.size < w3.heap.size ∧ w3.heap.size ≤ w4.heap.size ∧ w4.heap.size ≤ w5.heap.size ∧ w5.heap.size ≤ w6.heap.size ∧ w6.heap.size ≤ w7.heap.size ∧ w7.heap.size ≤ w8.heap.size ∧ w8.heap.size ≤ w9.heap.size ∧ w9.heap.size ≤ w10.heap.size ∧ w10.heap.size ≤ w11.heap.size ∧ w11.heap.size ≤ w12.heap.size ∧ w12.heap.size ≤ w13.heap.size ∧ w13.heap.size ≤ w14.heap.size ∧ w14.heap.size ≤ w15.heap.size ∧ w15.heap.size ≤ w16.heap.size ∧ w16.heap.size ≤ w17.heap.size ∧ w17.heap.size ≤ w18.heap.size ∧ w18.heap.size ≤ w19.heap.size ∧ w19.heap.size ≤ w20.heap.size ∧ w20.heap.size ≤ w21.heap.size) := ⟨Z1.out, RI.out.1, Z4.out, Z5.out, Z6.out, Z7.out, Z8.out, Z9.out, Z10.out, Z11.out, Z12.out, Z13.out, Z14.out, Z15.out, Z16.out, Z17.out, Z18.out, Z19.out, Z20.out, Z21.out⟩
  clear Z4 Z5 Z6 Z7 Z8 Z9 Z10 Z11 Z12 Z13 Z14 Z15 Z16 Z17 Z18 Z19 Z20 Z21 Z1 KCU KDO KOF RCA RCU RDO ROF CWA SAM WS FF RWS PWS
  obtain ⟨KS, hKS⟩ : ∃ KS, KS = KSp w1.heap.size w3.heap.size w4.heap.size w5.heap.size w6.heap.size w7.heap.size w8.heap.size w9.heap.size := ⟨_, rfl⟩
  have KW : Hid (∀ q, KS q → w.heap.size ≤ q) := fun q hq => by rw [hKS] at hq; unfold KSp at hq; have zz := ZZ.out; omega
  have KI : Hid (KS w1.heap.size) := by show KS _; rw [hKS]; exact Or.inl ⟨Nat.le_refl _, RI.out.1⟩
  have KIP : Hid (∀ i, i < hs.length → (evAt hs i).rt.pairs.length ≠ 0 → KS (pg3 i)) := fun i hi q => by rw [hKS]; exact Or.inl (RI.out.2 i hi q)
  have KA : Hid ((lcd hs).length ≠ 0 → KS g5) := fun q => by rw [hKS]; exact Or.inr (Or.inl (RXTCA.out.1 q))
  have KAP : Hid (∀ i, i < (lcd hs).length → (cdAt (lcd hs) i).rt.pairs.length ≠ 0 → KS (qg5 i)) := fun i hi q => by rw [hKS]; exact Or.inr (Or.inl (RXTCA.out.2 i hi q))
  have KC : Hid ((cutL hs _).length ≠ 0 → KS g7) := fun q => by rw [hKS]; exact Or.inr (Or.inr (Or.inl (REC.out q)))
  have KCP : Hid (∀ i, i < (cutL hs _).length → (evAt (cutL hs _) i).rt.pairs.length ≠ 0 → KS (pg7 i)) := fun i hi q => by rw [hKS]; exact Or.inr (Or.inr (Or.inl (PEC.out i hi q)))
  have KO : Hid ((ofL' hs 0).length ≠ 0 → KS g9) := fun q => by rw [hKS]; exact Or.inr (Or.inr (Or.inr (REO.out q)))
  have KOP : Hid (∀ i, i < (ofL' hs 0).length → (evAt (ofL' hs 0) i).rt.pairs.length ≠ 0 → KS (pg9 i)) := fun i hi q => by rw [hKS]; exact Or.inr (Or.inr (Or.inr (PEO.out i hi q)))
  have SCB : Hid (∀ Q, Spo KS w21 Q → CdsAt Q x6 g6 0 (lcd hs) qb6 qc6 qg6 qo6) := fun Q s => CB.out.stay s (fun q => fun hq => by rw [hKS] at hq; unfold KSp at hq; have := RXTCB.out.1 q; have zz := ZZ.out; omega) (fun i hi q => fun hq => by rw [hKS] at hq; unfold KSp at hq; have := RXTCB.out.2 i hi q; have zz := ZZ.out; omega)
  have SCR : Hid (∀ Q, Spo KS w21 Q → CdsAt Q x13 g13 0 (lcd hs) qb13 qc13 qg13 qo13) := fun Q s => CR.out.stay s (fun q => fun hq => by rw [hKS] at hq; unfold KSp at hq; have := RXTCR.out.1 q; have zz := ZZ.out; omega) (fun i hi q => fun hq => by rw [hKS] at hq; unfold KSp at hq; have := RXTCR.out.2 i hi q; have zz := ZZ.out; omega)
  have SED : Hid (∀ Q, Spo KS w21 Q → EvsAt Q x8 g8 0 (doneL hs) pb8 pc8 pg8 po8) := fun Q s => ED.out.stay s (fun q => fun hq => by rw [hKS] at hq; unfold KSp at hq; have := RED.out q; have zz := ZZ.out; omega) (fun i hi q => fun hq => by rw [hKS] at hq; unfold KSp at hq; have := PED.out i hi q; have zz := ZZ.out; omega)
  have SUD : Hid (∀ Q, Spo KS w21 Q → EvsAt Q x15 g15 0 (doneL hs) pb15 pc15 pg15 po15) := fun Q s => UD.out.stay s (fun q => fun hq => by rw [hKS] at hq; unfold KSp at hq; have := RUD.out q; have zz := ZZ.out; omega) (fun i hi q => fun hq => by rw [hKS] at hq; unfold KSp at hq; have := PUD.out i hi q; have zz := ZZ.out; omega)
  have SEP : Hid (∀ Q, Spo KS w21 Q → EvsAt Q x10 g10 0 (ofL' hs 0) pb10 pc10 pg10 po10) := fun Q s => EP.out.stay s (fun q => fun hq => by rw [hKS] at hq; unfold KSp at hq; have := REP.out q; have zz := ZZ.out; omega) (fun i hi q => fun hq => by rw [hKS] at hq; unfold KSp at hq; have := PEP.out i hi q; have zz := ZZ.out; omega)
  have SUO : Hid (∀ Q, Spo KS w21 Q → EvsAt Q x16 g16 0 (ofL' hs 0) pb16 pc16 pg16 po16) := fun Q s => UO.out.stay s (fun q => fun hq => by rw [hKS] at hq; unfold KSp at hq; have := RUO.out q; have zz := ZZ.out; omega) (fun i hi q => fun hq => by rw [hKS] at hq; unfold KSp at hq; have := PUO.out i hi q; have zz := ZZ.out; omega)
  have SEK : Hid (∀ Q, Spo KS w21 Q → EvsAt Q x11 g11 0 (hs) pb11 pc11 pg11 po11) := fun Q s => EK.out.stay s (fun q => fun hq => by rw [hKS] at hq; unfold KSp at hq; have := REK.out q; have zz := ZZ.out; omega) (fun i hi q => fun hq => by rw [hKS] at hq; unfold KSp at hq; have := PEK.out i hi q; have zz := ZZ.out; omega)
  have SH : Hid (∀ Q, Spo KS w21 Q → EvsAt Q base b o hs pb pc pg po) := fun Q s => HA.out.below (Spo.down B21.out s B21.out.size KW.out)
  have CAx : Hid (CdsAt w21 x5 g5 0 (lcd hs) qb5 qc5 qg5 qo5) := CA.out
  have TAx : Hid (∀ k, k < (lcd hs).length * 11 → w21.frozen? ⟨g5, k, none⟩ = false) := TCA.out
  clear hKS RXTCA RXTCB RXTCR REC PEC RED PED REO PEO REP PEP RUC PUC RUD PUD RUO PUO CB CR ED UD EP UO CA TCA ZZ RI UC EK REK PEK
  have LA : Hid ((lcd hs).length ≤ maxLen) := CAx.out.len
  have la := LA.out
  unfold maxLen at la
  generalize hll : (lcd hs).length = L at la ⊢
  have HLL : Hid ((lcd hs).length = L) := hll
  clear hll
  go_wp2_with fail
  go_loopw [29] (fun i wr => ∃ j : Nat, j ≤ L ∧ i = .int .i64 j ∧ Spo KS w21 wr) (fun i _ => L - (intOf i).toNat)
  case atStart => exact ⟨0, Nat.zero_le _, rfl, Spo.refl _ _⟩
  case round =>
    obtain ⟨j, hj, rfl, hspo⟩ := hrel
    rename World => wr
    have HS : Hid (Spo KS w21 wr) := hspo
    by_cases hlt : j < L
    · have hjl : j < (lcd hs).length := by rw [HLL.out]; exact hlt
      obtain rfl : x5 = some ⟨g5, 0, none⟩ := CAx.out.base (by omega)
      obtain ⟨l', hl', hp', hC'⟩ := CAx.out.turn hspo
      obtain ⟨d0, _, d2, _⟩ := hC'.c0 j (by omega)
      obtain ⟨_, _, _, d8⟩ := hC'.c1 j (by omega)
      rw [hp' j hjl] at d8
      simp only [Nat.zero_add] at d0 d2 d8
      have gl : g5 < w21.heap.size := CAx.out.lt (by omega)
      have f0 : wr.frozen? ⟨g5, j * 11, none⟩ = false := (hspo.frz _ _ gl).trans (TAx.out _ (by omega))
      have f2 : wr.frozen? ⟨g5, j * 11 + 2, none⟩ = false := (hspo.frz _ _ gl).trans (TAx.out _ (by omega))
      have S4 : Hid (Spo KS w21 ((wr.setCell ⟨g5, j * 11 + 2, none⟩ (.int .i64 99)).setCell ⟨g5, j * 11, none⟩ (.int .i64 99))) := (hspo.set (KA.out (by omega)) 99 d2).set (KA.out (by omega)) 99 (by rw [World.cell?_setCell_other _ _ _ _ (fun q => by have := congrArg Addr.off q; simp at this)]; exact d0)
      have j0 : (0 : Int) ≤ (j : Int) := Int.natCast_nonneg _
      have j1 : (j : Int) < (L : Int) := by omega
      clear hspo hC' hl' hp' gl d8
      go_wp2_with fail
      go_loopw [30] (fun k wr2 => ∃ m : Nat, m ≤ (cdAt (lcd hs) j).rt.pairs.length ∧ k = .int .i64 m ∧ Spo KS w21 wr2) (fun k _ => (cdAt (lcd hs) j).rt.pairs.length - (intOf k).toNat)
      case atStart => exact ⟨0, Nat.zero_le _, rfl, S4.out⟩
      case round =>
        clear d0 d2 f0 f2 S4
        obtain ⟨m, hm, rfl, hspo2⟩ := hrel
        rename World => wr2
        have HS2 : Hid (Spo KS w21 wr2) := hspo2
        obtain ⟨l2, hl2, hp2, hC2⟩ := CAx.out.turn hspo2
        obtain ⟨_, _, _, d8⟩ := hC2.c1 j (by omega)
        rw [hp2 j hjl] at d8
        simp only [Nat.zero_add] at d8
        have PX : Hid _ := (hC2.prs j (by omega)).1
        have HQ : Hid ((cdAt l2 j).rt.pairs.length = (cdAt (lcd hs) j).rt.pairs.length) := hp2 j hjl
        have lm : (cdAt (lcd hs) j).rt.pairs.length ≤ 281474976710656 := by have := (CAx.out.prs j hjl).2.2; omega
        clear hspo2 hC2 hl2 hp2
        by_cases hmt : m < (cdAt (lcd hs) j).rt.pairs.length
        · have hb : qb5 j = some ⟨qg5 j, qo5 j, none⟩ := PX.out.base (by rw [HQ.out]; omega)
          rw [hb] at d8
          obtain ⟨c1, _⟩ := PX.out.cells m (by rw [HQ.out]; exact hmt)
          have f1 : wr2.frozen? ⟨qg5 j, qo5 j + m * 2, none⟩ = false := PX.out.thaw (m * 2) (by rw [HQ.out]; omega)
          have S1 : Hid (∀ y : Int, Spo KS w21 (wr2.setCell ⟨qg5 j, qo5 j + m * 2, none⟩ (.int .i64 y))) := fun y => HS2.out.set (KAP.out j hjl (by omega)) y c1
          have m0 : (0 : Int) ≤ (m : Int) := Int.natCast_nonneg _
          have m1 : (m : Int) < ((cdAt (lcd hs) j).rt.pairs.length : Int) := by omega
          clear hb
          go_wp2_with fail
          refine ⟨⟨m + 1, by omega, by go_num, S1.out _⟩, by simp [intOf]; omega⟩
        · obtain rfl : m = (cdAt (lcd hs) j).rt.pairs.length := by omega
          go_wp2_with fail
          refine ⟨⟨j + 1, by omega, by go_num, HS2.out⟩, by simp [intOf]; omega⟩
    · obtain rfl : j = L := by omega
      clear hspo
      have SI : Hid (∀ Q, Spo KS w21 Q → ∃ hs' : List EvD, hs'.length = n ∧ EvsAt Q (some ⟨w1.heap.size, 0, none⟩) w1.heap.size 0 hs' pb3 pc3 pg3 po3 ∧ Calls Try.prog 17 #[.slice (some ⟨w1.heap.size, 0, none⟩) n M] Q fun e w' => e = .returned (.tuple #[]) ∧ Spo KS w21 w') := fun Q s => by
        obtain ⟨hs', hl', hp', hE'⟩ := II.out.turn s
        have q := spoil_any KS _ _ 0 M hs' _ _ _ _ Q hE' (fun _ => KI.out) (fun i hi z => KIP.out i (by omega) (by rw [hp' i (by omega)] at z; exact z))
        rw [hl', LN.out] at q
        exact ⟨hs', by rw [hl', LN.out], hE', q.mono (fun e w' ⟨e1, e2⟩ => ⟨e1, s.trans e2⟩)⟩
      have SC : Hid (∀ Q, Spo KS w21 Q → Calls Try.prog 17 #[.slice x7 (cutL hs _).length k7] Q fun e w' => e = .returned (.tuple #[]) ∧ Spo KS w21 w') := fun Q s => by
        obtain ⟨hs', hl', hp', hE'⟩ := EC.out.turn s
        have q := spoil_any KS _ _ 0 k7 hs' _ _ _ _ Q hE' (fun z => KC.out (by omega)) (fun i hi z => KCP.out i (by omega) (by rw [hp' i (by omega)] at z; exact z))
        rw [hl'] at q
        exact q.mono (fun e w' ⟨e1, e2⟩ => ⟨e1, s.trans e2⟩)
      have SO : Hid (∀ Q, Spo KS w21 Q → Calls Try.prog 17 #[.slice x9 (ofL' hs 0).length k9] Q fun e w' => e = .returned (.tuple #[]) ∧ Spo KS w21 w') := fun Q s => by
        obtain ⟨hs', hl', hp', hE'⟩ := EO.out.turn s
        have q := spoil_any KS _ _ 0 k9 hs' _ _ _ _ Q hE' (fun z => KO.out (by omega)) (fun i hi z => KOP.out i (by omega) (by rw [hp' i (by omega)] at z; exact z))
        rw [hl'] at q
        exact q.mono (fun e w' ⟨e1, e2⟩ => ⟨e1, s.trans e2⟩)
      have AR : Hid (∀ Q, Spo KS w21 Q → Calls Try.prog 16 #[.slice x6 (lcd hs).length k6, .slice x13 (lcd hs).length k13] Q fun e w' => e = .returned (.bool true) ∧ Spo KS w21 w') := fun Q s => (are_same _ _ _ 0 k6 _ 0 k13 (lcd hs) _ _ _ _ _ _ _ _ Q (SCB.out Q s) (SCR.out Q s)).mono (fun e w' ⟨e1, e2⟩ => ⟨e1, s.below e2⟩)
      rw [HLL.out] at AR
      go_wp2_with fail
      obtain ⟨_, _, _, qc1⟩ := SI.out _ HS.out
      refine qc1.mono ?_
      clear qc1
      rintro e z1 ⟨rfl, hz⟩
      have Y1 : Hid (Spo KS w21 z1) := hz
      clear hz
      go_wp2_with fail
      refine (SC.out _ Y1.out).mono ?_
      rintro e z2 ⟨rfl, hz⟩
      have Y2 : Hid (Spo KS w21 z2) := hz
      clear hz
      go_wp2_with fail
      refine (SO.out _ Y2.out).mono ?_
      rintro e z3 ⟨rfl, hz⟩
      have Y3 : Hid (Spo KS w21 z3) := hz
      clear hz
      go_wp2_with fail
      refine (AR.out _ Y3.out).mono ?_
      rintro e z4 ⟨rfl, hz⟩
      have Y4 : Hid (Spo KS w21 z4) := hz
      clear hz
      go_wp2_with fail
      refine (SAME.out x8 x15 g8 0 k8 g15 0 k15 _ pb8 pb15 pc8 pg8 po8 pc15 pg15 po15 _ (SED.out _ Y4.out) (SUD.out _ Y4.out)).mono ?_
      rintro e z5 ⟨rfl, hz⟩
      have Y5 : Hid (Spo KS w21 z5) := Y4.out.below hz
      clear hz
      go_wp2_with fail
      refine (SAME.out x10 x16 g10 0 k10 g16 0 k16 _ pb10 pb16 pc10 pg10 po10 pc16 pg16 po16 _ (SEP.out _ Y5.out) (SUO.out _ Y5.out)).mono ?_
      rintro e z6 ⟨rfl, hz⟩
      have Y6 : Hid (Spo KS w21 z6) := Y5.out.below hz
      clear hz
      go_wp2_with fail
      refine (SAB.out _ (SEK.out _ Y6.out) (SH.out _ Y6.out)).mono ?_
      rintro e z7 ⟨rfl, hz⟩
      have Y7 : Hid (Spo KS w21 z7) := Y6.out.below hz
      clear hz
      go_wp2_with fail
      obtain ⟨ht, hlt, hE, _⟩ := SI.out _ Y7.out
      have ET : Hid _ := hE
      have LT : Hid (ht.length = n) := hlt
      clear hE hlt
      have EA8 := copyEvents_any _ _ 0 M ht _ _ _ _ _ ET.out (by have := HBY.out; have := LT.out; have := LN.out; omega)
      rw [LT.out] at EA8
      refine EA8.mono ?_
      clear EA8
      rintro e z8 ⟨v8, rfl, hb8, x8, k8, g8, pb8, pc8, pg8, po8, rfl, hE8, _, _, _⟩
      have Y8 : Hid (Spo KS w21 z8) := Y7.out.below hb8
      have E8 : Hid _ := hE8
      have ET8 : Hid _ := ET.out.below hb8
      clear hb8 hE8
      go_wp2_with fail
      refine (rcalls_new x8 g8 0 k8 ht pb8 pc8 pg8 po8 _ E8.out).mono ?_
      rintro e z9 ⟨x9, k9, g9, qb9, qc9, qg9, qo9, rfl, hb9, hC9, _, _⟩
      have Y9 : Hid (Spo KS w21 z9) := Y8.out.below hb9
      have C9 : Hid _ := hC9
      have ET9 : Hid _ := ET8.out.below hb9
      clear hb9 hC9
      go_wp2_with fail
      have EA10 := calls_new _ _ 0 M ht _ _ _ _ _ ET9.out
      rw [LT.out] at EA10
      refine EA10.mono ?_
      clear EA10
      rintro e z10 ⟨x10, k10, g10, qb10, qc10, qg10, qo10, rfl, hb10, hC10, _, _, _⟩
      have Y10 : Hid (Spo KS w21 z10) := Y9.out.below hb10
      have C10 : Hid _ := hC10
      have C910 : Hid _ := C9.out.below hb10
      have q5 : (hErr ht == hErr ht) = true := by simp
      clear hb10 hC10
      go_wp2_with fail
      refine (are_same x10 x9 g10 0 k10 g9 0 k9 (lcd ht) qb10 qb9 qc10 qg10 qo10 qc9 qg9 qo9 _ C10.out C910.out).mono ?_
      rintro e z11 ⟨rfl, hb11⟩
      have Y11 : Hid (Spo KS w21 z11) := Y10.out.below hb11
      clear hb11
      go_wp2_with fail
      go_ret
      exact ⟨rfl, Spo.down B21.out Y11.out B21.out.size KW.out⟩
set_option maxRecDepth 100000 in
set_option maxHeartbeats 4000000 in
theorem eventApart_bad (base : Option Addr) (b o c : Nat) (hs : List EvD) (pb : Nat → Option Addr) (pc pg po : Nat → Nat) (w : World) (h : EvsAt w base b o hs pb pc pg po) (hby : hs.length * 96 ≤ 140737488351232) (he : hErr hs ≠ 0) :
    Calls Try.prog 3 #[.slice base hs.length c] w fun e w' => e = .returned (.bool true) ∧ Below w.heap.size w w' := by
  have HA : Hid _ := h
  have HE : Hid (hErr hs ≠ 0) := he
  obtain ⟨n, hn⟩ : ∃ n, n = hs.length := ⟨_, rfl⟩
  obtain ⟨M, hM⟩ : ∃ M, M = n + 6 := ⟨_, rfl⟩
  have e6 : IntKind.i64.wrap ((n : Int) + 6) = (M : Int) := by rw [IntKind.wrap_i64] <;> omega
  have e7 : wrap64 ((n : Int) + 6) = (M : Int) := by unfold wrap64; omega
  have hMx : M * 96 ≤ 140737488355328 := by omega
  have n0 : (0 : Int) ≤ (n : Int) := Int.natCast_nonneg _
  have nM : (n : Int) ≤ (M : Int) := by omega
  have q0 : (hErr hs != hErr hs) = false := by simp
  have q1 : (hErr hs == 0) = false := by simp [he]
  have hmk := run_make_known (P := Try.prog) 22 55 (.agg z10) 10 96 evs_under ev_info M (by omega) (by omega)
  have HN : Hid (n = hs.length) := hn
  have HM : Hid (M = n + 6) := hM
  have HBY : Hid (hs.length * 96 ≤ 140737488351232) := hby
  rw [← hn]
  clear h hn hM hby he
  go_enter Try.func3, Try.ntmps3
  go_wp2_with fail
  refine (known_any _).mono ?_
  rintro e w1 ⟨rfl, hb1⟩
  have B1 : Hid _ := hb1
  clear hb1
  go_wp2_with fail
  have EA2 := copyEvents_row base b o c hs pb pc pg po (w1.alloc (.cells (madeCells z10 (M * 10)) 55)) (HA.out.below (B1.out.alloc B1.out.size _)) (by have := HN.out; have := HM.out; omega)
  rw [← HN.out] at EA2
  refine EA2.mono ?_
  clear EA2
  rintro e w2 ⟨v2, m2, rfl, hb2, hm2, ho2, hr2⟩
  have hml : m2.length = n := by rw [HN.out, ← hm2, List.length_map]
  obtain ⟨a2, c2, rfl⟩ := owns_form ho2
  rw [hml] at ho2 hr2 ⊢
  obtain ⟨w3, hcp, hb3, hl3, pb3, pc3, pg3, po3, hE3, hB3⟩ := copy_full 3 hs m2 HN.out.symm HM.out hMx hm2 hb2 ho2 hr2
  have FF : Hid _ := hE3
  have RI : Hid (w1.heap.size < w3.heap.size ∧ ∀ i, i < hs.length → (evAt hs i).rt.pairs.length ≠ 0 → w1.heap.size ≤ pg3 i ∧ pg3 i < w3.heap.size) := ⟨hl3, fun i hi q => by
    have e : evAt (hs ++ List.replicate 6 ev0) i = evAt hs i := by unfold evAt; rw [List.getD_eq_getElem?_getD, List.getD_eq_getElem?_getD, List.getElem?_append_left hi]
    exact ⟨hB3 i (by rw [List.length_append]; omega) (by rw [e]; exact q), (hE3.head.prs i hi).1.lt q⟩⟩
  have B3 : Hid (Below w.heap.size w w3) := B1.out.trans (hb3.mono B1.out.size)
  have Z1 : Hid (w.heap.size ≤ w1.heap.size) := B1.out.size
  have HL : Hid ((hs ++ List.replicate 6 ev0).length = M) := by show _ = _; rw [HM.out, HN.out]; simp
  have II : Hid (EvsAt w3 (some ⟨w1.heap.size, 0, none⟩) w1.heap.size 0 hs pb3 pc3 pg3 po3) := hE3.head
  have LN : Hid (hs.length = n) := HN.out.symm
  clear hb2 hm2 ho2 hr2 hml hb3 hE3 hB3 hl3 hmk B1
  have CWA : Hid (∀ W, EvsAt W (some ⟨w1.heap.size, 0, none⟩) w1.heap.size 0 (hs ++ List.replicate 6 ev0) pb3 pc3 pg3 po3 → Calls Try.prog 5 #[.slice (some ⟨w1.heap.size, 0, none⟩) M M] W fun e w' => ∃ v, e = .returned v ∧ Below W.heap.size W w' ∧ EvsNew w' W.heap.size W.heap.size v (hs ++ List.replicate 6 ev0)) := fun W hW => by
    have := copyEvents_any _ _ 0 M _ _ _ _ _ W hW (by rw [HL.out]; omega)
    rw [HL.out] at this
    exact this
  have KCA : Hid (∀ W, EvsAt W (some ⟨w1.heap.size, 0, none⟩) w1.heap.size 0 hs pb3 pc3 pg3 po3 → Calls Try.prog 6 #[.slice (some ⟨w1.heap.size, 0, none⟩) n M] W fun e w' => ∃ bs cap g qb qc qg qo, e = .returned (.tuple #[.slice bs (lcd hs).length cap, .int .i64 (hErr hs)]) ∧ Below W.heap.size W w' ∧ CdsAt w' bs g 0 (lcd hs) qb qc qg qo ∧ ((lcd hs).length ≠ 0 → W.heap.size ≤ g) ∧ (∀ i, i < (lcd hs).length → (cdAt (lcd hs) i).rt.pairs.length ≠ 0 → W.heap.size ≤ qg i) ∧ ∀ k, k < (lcd hs).length * 11 → w'.frozen? ⟨g, k, none⟩ = false) := fun W hW => by
    have := calls_new (some ⟨w1.heap.size, 0, none⟩) w1.heap.size 0 M hs pb3 pc3 pg3 po3 W hW 
    rw [LN.out] at this
    exact this
  have KCU : Hid (∀ (k : Int) W, EvsAt W (some ⟨w1.heap.size, 0, none⟩) w1.heap.size 0 hs pb3 pc3 pg3 po3 → Calls Try.prog 7 #[.slice (some ⟨w1.heap.size, 0, none⟩) n M, .int .i64 k] W fun e w' => ∃ v, e = .returned (.tuple #[v, .int .i64 (cutE hs k)]) ∧ Below W.heap.size W w' ∧ EvsNew w' W.heap.size W.heap.size v (cutL hs k)) := fun k W hW => by
    have := Cut_any (some ⟨w1.heap.size, 0, none⟩) w1.heap.size 0 M hs pb3 pc3 pg3 po3 W hW k
    rw [LN.out] at this
    exact this
  have KDO : Hid (∀ W, EvsAt W (some ⟨w1.heap.size, 0, none⟩) w1.heap.size 0 hs pb3 pc3 pg3 po3 → Calls Try.prog 8 #[.slice (some ⟨w1.heap.size, 0, none⟩) n M] W fun e w' => ∃ v, e = .returned (.tuple #[v, .int .i64 (hErr hs)]) ∧ Below W.heap.size W w' ∧ EvsNew w' W.heap.size W.heap.size v (doneL hs)) := fun W hW => by
    have := Done_any (some ⟨w1.heap.size, 0, none⟩) w1.heap.size 0 M hs pb3 pc3 pg3 po3 W hW 
    rw [LN.out] at this
    exact this
  have KOF : Hid (∀ W, EvsAt W (some ⟨w1.heap.size, 0, none⟩) w1.heap.size 0 hs pb3 pc3 pg3 po3 → Calls Try.prog 9 #[.slice (some ⟨w1.heap.size, 0, none⟩) n M, .int .i64 0] W fun e w' => ∃ v, e = .returned (.tuple #[v, .int .i64 (hErr hs)]) ∧ Below W.heap.size W w' ∧ EvsNew w' W.heap.size W.heap.size v (ofL' hs 0)) := fun W hW => by
    have := Of_new (some ⟨w1.heap.size, 0, none⟩) w1.heap.size 0 M hs pb3 pc3 pg3 po3 W hW 0
    rw [LN.out] at this
    exact this
  have RCA : Hid (∀ W, EvsAt W base b o hs pb pc pg po → Calls Try.prog 12 #[.slice base n c] W fun e w' => ∃ bs cap g qb qc qg qo, e = .returned (.tuple #[.slice bs (lcd hs).length cap, .int .i64 (hErr hs)]) ∧ Below W.heap.size W w' ∧ CdsAt w' bs g 0 (lcd hs) qb qc qg qo ∧ ((lcd hs).length ≠ 0 → W.heap.size ≤ g) ∧ (∀ i, i < (lcd hs).length → (cdAt (lcd hs) i).rt.pairs.length ≠ 0 → W.heap.size ≤ qg i)) := fun W hW => by
    have := rcalls_new base b o c hs pb pc pg po W hW 
    rw [LN.out] at this
    exact this
  have RCU : Hid (∀ (k : Int) W, EvsAt W base b o hs pb pc pg po → Calls Try.prog 13 #[.slice base n c, .int .i64 k] W fun e w' => ∃ v, e = .returned (.tuple #[v, .int .i64 (cutE hs k)]) ∧ Below W.heap.size W w' ∧ EvsNew w' W.heap.size W.heap.size v (cutL hs k)) := fun k W hW => by
    have := rCut_any base b o c hs pb pc pg po W hW k
    rw [LN.out] at this
    exact this
  have RDO : Hid (∀ W, EvsAt W base b o hs pb pc pg po → Calls Try.prog 14 #[.slice base n c] W fun e w' => ∃ v, e = .returned (.tuple #[v, .int .i64 (hErr hs)]) ∧ Below W.heap.size W w' ∧ EvsNew w' W.heap.size W.heap.size v (doneL hs)) := fun W hW => by
    have := rDone_any base b o c hs pb pc pg po W hW 
    rw [LN.out] at this
    exact this
  have ROF : Hid (∀ W, EvsAt W base b o hs pb pc pg po → Calls Try.prog 15 #[.slice base n c, .int .i64 0] W fun e w' => ∃ v, e = .returned (.tuple #[v, .int .i64 (hErr hs)]) ∧ Below W.heap.size W w' ∧ EvsNew w' W.heap.size W.heap.size v (ofL' hs 0)) := fun W hW => by
    have := rOf_new base b o c hs pb pc pg po W hW 0
    rw [LN.out] at this
    exact this
  go_wp2_with fail
  refine (CWA.out _ FF.out).mono ?_
  rintro e w4 ⟨v4, rfl, hb4, x4, k4, g4, pb4, pc4, pg4, po4, rfl, hE4, hg4, _, hp4⟩
  replace FF : Hid _ := FF.out.below hb4
  replace II : Hid _ := II.out.below hb4
  have B4 : Hid (Below w.heap.size w w4) := B3.out.trans (hb4.mono B3.out.size)
  have Z4 : Hid (w3.heap.size ≤ w4.heap.size) := hb4.size
  have WS : Hid _ := hE4
  have RWS : Hid ((hs ++ List.replicate 6 ev0).length ≠ 0 → w3.heap.size ≤ g4 ∧ g4 < w4.heap.size) := fun q => ⟨hg4 q, hE4.lt q⟩
  have PWS : Hid (∀ i, i < (hs ++ List.replicate 6 ev0).length → (evAt (hs ++ List.replicate 6 ev0) i).rt.pairs.length ≠ 0 → w3.heap.size ≤ pg4 i ∧ pg4 i < w4.heap.size) := fun i hi q => ⟨hp4 i hi q, (hE4.prs i hi).1.lt q⟩
  clear hb4 hE4 hg4 hp4
  rw [HL.out]
  go_wp2_with fail
  refine (KCA.out _ II.out).mono ?_
  rintro e w5 ⟨x5, k5, g5, qb5, qc5, qg5, qo5, rfl, hb5, hC5, hg5, hp5, hf5⟩
  replace FF : Hid _ := FF.out.below hb5
  replace II : Hid _ := II.out.below hb5
  replace WS : Hid _ := WS.out.below hb5
  have B5 : Hid (Below w.heap.size w w5) := B4.out.trans (hb5.mono B4.out.size)
  have Z5 : Hid (w4.heap.size ≤ w5.heap.size) := hb5.size
  have CA : Hid _ := hC5
  have RXTCA : Hid (((lcd hs).length ≠ 0 → w4.heap.size ≤ g5 ∧ g5 < w5.heap.size) ∧ ∀ i, i < (lcd hs).length → (cdAt (lcd hs) i).rt.pairs.length ≠ 0 → w4.heap.size ≤ qg5 i ∧ qg5 i < w5.heap.size) := ⟨fun q => ⟨hg5 q, hC5.lt q⟩, fun i hi q => ⟨hp5 i hi q, (hC5.prs i hi).1.lt q⟩⟩
  have TCA : Hid (∀ k, k < (lcd hs).length * 11 → w5.frozen? ⟨g5, k, none⟩ = false) := hf5
  clear hb5 hC5 hg5 hp5 hf5
  go_wp2_with fail
  refine (KCA.out _ II.out).mono ?_
  rintro e w6 ⟨x6, k6, g6, qb6, qc6, qg6, qo6, rfl, hb6, hC6, hg6, hp6, _⟩
  replace TCA : Hid (∀ k, k < (lcd hs).length * 11 → w6.frozen? ⟨g5, k, none⟩ = false) := fun k hk => (hb6.frozen (p := ⟨g5, k, none⟩) (CA.out.lt (by omega))).trans (TCA.out k hk)
  replace FF : Hid _ := FF.out.below hb6
  replace II : Hid _ := II.out.below hb6
  replace WS : Hid _ := WS.out.below hb6
  replace CA : Hid _ := CA.out.below hb6
  have B6 : Hid (Below w.heap.size w w6) := B5.out.trans (hb6.mono B5.out.size)
  have Z6 : Hid (w5.heap.size ≤ w6.heap.size) := hb6.size
  have CB : Hid _ := hC6
  have RXTCB : Hid (((lcd hs).length ≠ 0 → w5.heap.size ≤ g6 ∧ g6 < w6.heap.size) ∧ ∀ i, i < (lcd hs).length → (cdAt (lcd hs) i).rt.pairs.length ≠ 0 → w5.heap.size ≤ qg6 i ∧ qg6 i < w6.heap.size) := ⟨fun q => ⟨hg6 q, hC6.lt q⟩, fun i hi q => ⟨hp6 i hi q, (hC6.prs i hi).1.lt q⟩⟩
  clear hb6 hC6 hg6 hp6
  go_wp2_with fail
  refine (KCU.out _ _ II.out).mono ?_
  rintro e w7 ⟨v7, rfl, hb7, x7, k7, g7, pb7, pc7, pg7, po7, rfl, hE7, hg7, _, hp7⟩
  replace TCA : Hid (∀ k, k < (lcd hs).length * 11 → w7.frozen? ⟨g5, k, none⟩ = false) := fun k hk => (hb7.frozen (p := ⟨g5, k, none⟩) (CA.out.lt (by omega))).trans (TCA.out k hk)
  replace FF : Hid _ := FF.out.below hb7
  replace II : Hid _ := II.out.below hb7
  replace WS : Hid _ := WS.out.below hb7
  replace CA : Hid _ := CA.out.below hb7
  replace CB : Hid _ := CB.out.below hb7
  have B7 : Hid (Below w.heap.size w w7) := B6.out.trans (hb7.mono B6.out.size)
  have Z7 : Hid (w6.heap.size ≤ w7.heap.size) := hb7.size
  have EC : Hid _ := hE7
  have REC : Hid ((cutL hs _).length ≠ 0 → w6.heap.size ≤ g7 ∧ g7 < w7.heap.size) := fun q => ⟨hg7 q, hE7.lt q⟩
  have PEC : Hid (∀ i, i < (cutL hs _).length → (evAt (cutL hs _) i).rt.pairs.length ≠ 0 → w6.heap.size ≤ pg7 i ∧ pg7 i < w7.heap.size) := fun i hi q => ⟨hp7 i hi q, (hE7.prs i hi).1.lt q⟩
  clear hb7 hE7 hg7 hp7
  go_wp2_with fail
  refine (KDO.out _ II.out).mono ?_
  rintro e w8 ⟨v8, rfl, hb8, x8, k8, g8, pb8, pc8, pg8, po8, rfl, hE8, hg8, _, hp8⟩
  replace TCA : Hid (∀ k, k < (lcd hs).length * 11 → w8.frozen? ⟨g5, k, none⟩ = false) := fun k hk => (hb8.frozen (p := ⟨g5, k, none⟩) (CA.out.lt (by omega))).trans (TCA.out k hk)
  replace FF : Hid _ := FF.out.below hb8
  replace II : Hid _ := II.out.below hb8
  replace WS : Hid _ := WS.out.below hb8
  replace CA : Hid _ := CA.out.below hb8
  replace CB : Hid _ := CB.out.below hb8
  replace EC : Hid _ := EC.out.below hb8
  have B8 : Hid (Below w.heap.size w w8) := B7.out.trans (hb8.mono B7.out.size)
  have Z8 : Hid (w7.heap.size ≤ w8.heap.size) := hb8.size
  have ED : Hid _ := hE8
  have RED : Hid ((doneL hs).length ≠ 0 → w7.heap.size ≤ g8 ∧ g8 < w8.heap.size) := fun q => ⟨hg8 q, hE8.lt q⟩
  have PED : Hid (∀ i, i < (doneL hs).length → (evAt (doneL hs) i).rt.pairs.length ≠ 0 → w7.heap.size ≤ pg8 i ∧ pg8 i < w8.heap.size) := fun i hi q => ⟨hp8 i hi q, (hE8.prs i hi).1.lt q⟩
  clear hb8 hE8 hg8 hp8
  go_wp2_with fail
  refine (KOF.out _ II.out).mono ?_
  rintro e w9 ⟨v9, rfl, hb9, x9, k9, g9, pb9, pc9, pg9, po9, rfl, hE9, hg9, _, hp9⟩
  replace TCA : Hid (∀ k, k < (lcd hs).length * 11 → w9.frozen? ⟨g5, k, none⟩ = false) := fun k hk => (hb9.frozen (p := ⟨g5, k, none⟩) (CA.out.lt (by omega))).trans (TCA.out k hk)
  replace FF : Hid _ := FF.out.below hb9
  replace II : Hid _ := II.out.below hb9
  replace WS : Hid _ := WS.out.below hb9
  replace CA : Hid _ := CA.out.below hb9
  replace CB : Hid _ := CB.out.below hb9
  replace EC : Hid _ := EC.out.below hb9
  replace ED : Hid _ := ED.out.below hb9
  have B9 : Hid (Below w.heap.size w w9) := B8.out.trans (hb9.mono B8.out.size)
  have Z9 : Hid (w8.heap.size ≤ w9.heap.size) := hb9.size
  have EO : Hid _ := hE9
  have REO : Hid ((ofL' hs 0).length ≠ 0 → w8.heap.size ≤ g9 ∧ g9 < w9.heap.size) := fun q => ⟨hg9 q, hE9.lt q⟩
  have PEO : Hid (∀ i, i < (ofL' hs 0).length → (evAt (ofL' hs 0) i).rt.pairs.length ≠ 0 → w8.heap.size ≤ pg9 i ∧ pg9 i < w9.heap.size) := fun i hi q => ⟨hp9 i hi q, (hE9.prs i hi).1.lt q⟩
  clear hb9 hE9 hg9 hp9
  go_wp2_with fail
  refine (KOF.out _ II.out).mono ?_
  rintro e w10 ⟨v10, rfl, hb10, x10, k10, g10, pb10, pc10, pg10, po10, rfl, hE10, hg10, _, hp10⟩
  replace TCA : Hid (∀ k, k < (lcd hs).length * 11 → w10.frozen? ⟨g5, k, none⟩ = false) := fun k hk => (hb10.frozen (p := ⟨g5, k, none⟩) (CA.out.lt (by omega))).trans (TCA.out k hk)
  replace FF : Hid _ := FF.out.below hb10
  replace II : Hid _ := II.out.below hb10
  replace WS : Hid _ := WS.out.below hb10
  replace CA : Hid _ := CA.out.below hb10
  replace CB : Hid _ := CB.out.below hb10
  replace EC : Hid _ := EC.out.below hb10
  replace ED : Hid _ := ED.out.below hb10
  replace EO : Hid _ := EO.out.below hb10
  have B10 : Hid (Below w.heap.size w w10) := B9.out.trans (hb10.mono B9.out.size)
  have Z10 : Hid (w9.heap.size ≤ w10.heap.size) := hb10.size
  have EP : Hid _ := hE10
  have REP : Hid ((ofL' hs 0).length ≠ 0 → w9.heap.size ≤ g10 ∧ g10 < w10.heap.size) := fun q => ⟨hg10 q, hE10.lt q⟩
  have PEP : Hid (∀ i, i < (ofL' hs 0).length → (evAt (ofL' hs 0) i).rt.pairs.length ≠ 0 → w9.heap.size ≤ pg10 i ∧ pg10 i < w10.heap.size) := fun i hi q => ⟨hp10 i hi q, (hE10.prs i hi).1.lt q⟩
  clear hb10 hE10 hg10 hp10
  go_wp2_with fail
  refine (Events_any x5 g5 0 k5 (lcd hs) qb5 qc5 qg5 qo5 _ CA.out).mono ?_
  rintro e w11 ⟨v11, err11, rfl, hb11, _⟩
  replace TCA : Hid (∀ k, k < (lcd hs).length * 11 → w11.frozen? ⟨g5, k, none⟩ = false) := fun k hk => (hb11.frozen (p := ⟨g5, k, none⟩) (CA.out.lt (by omega))).trans (TCA.out k hk)
  replace FF : Hid _ := FF.out.below hb11
  replace II : Hid _ := II.out.below hb11
  replace WS : Hid _ := WS.out.below hb11
  replace CA : Hid _ := CA.out.below hb11
  replace CB : Hid _ := CB.out.below hb11
  replace EC : Hid _ := EC.out.below hb11
  replace ED : Hid _ := ED.out.below hb11
  replace EO : Hid _ := EO.out.below hb11
  replace EP : Hid _ := EP.out.below hb11
  have B11 : Hid (Below w.heap.size w w11) := B10.out.trans (hb11.mono B10.out.size)
  have Z11 : Hid (w10.heap.size ≤ w11.heap.size) := hb11.size
  clear hb11
  have SAME : Hid (∀ (a1 a2 : Option Addr) (b1 o1 c1 b2 o2 c2 : Nat) (x : List EvD) (pb qb : Nat → Option Addr) (pc pg po qc qg qo : Nat → Nat) (W : World), EvsAt W a1 b1 o1 x pb pc pg po → EvsAt W a2 b2 o2 x qb qc qg qo → Calls Try.prog 11 #[.slice a1 x.length c1, .slice a2 x.length c2] W fun e w' => e = .returned (.bool true) ∧ Below W.heap.size W w') := fun a1 a2 b1 o1 c1 b2 o2 c2 x pb qb pc pg po qc qg qo W h1 h2 => (sameEvents_any a1 a2 b1 o1 c1 b2 o2 c2 x x pb qb pc pg po qc qg qo W h1 h2).mono (fun e w' ⟨r, e1, e2, e3⟩ => ⟨by rw [e1, e3.2 rfl], e2⟩)
  have SAM : Hid (∀ W, EvsAt W (some ⟨w1.heap.size, 0, none⟩) w1.heap.size 0 (hs ++ List.replicate 6 ev0) pb3 pc3 pg3 po3 → EvsAt W x4 g4 0 (hs ++ List.replicate 6 ev0) pb4 pc4 pg4 po4 → Calls Try.prog 11 #[.slice (some ⟨w1.heap.size, 0, none⟩) M M, .slice x4 M k4] W fun e w' => e = .returned (.bool true) ∧ Below W.heap.size W w') := fun W h1 h2 => by
    have := SAME.out _ _ _ 0 M _ 0 k4 _ _ _ _ _ _ _ _ _ W h1 h2
    rw [HL.out] at this
    exact this
  go_wp2_with fail
  refine (SAM.out _ FF.out WS.out).mono ?_
  rintro e w12 ⟨rfl, hb12⟩
  replace TCA : Hid (∀ k, k < (lcd hs).length * 11 → w12.frozen? ⟨g5, k, none⟩ = false) := fun k hk => (hb12.frozen (p := ⟨g5, k, none⟩) (CA.out.lt (by omega))).trans (TCA.out k hk)
  replace FF : Hid _ := FF.out.below hb12
  replace II : Hid _ := II.out.below hb12
  replace WS : Hid _ := WS.out.below hb12
  replace CA : Hid _ := CA.out.below hb12
  replace CB : Hid _ := CB.out.below hb12
  replace EC : Hid _ := EC.out.below hb12
  replace ED : Hid _ := ED.out.below hb12
  replace EO : Hid _ := EO.out.below hb12
  replace EP : Hid _ := EP.out.below hb12
  have B12 : Hid (Below w.heap.size w w12) := B11.out.trans (hb12.mono B11.out.size)
  have Z12 : Hid (w11.heap.size ≤ w12.heap.size) := hb12.size
  clear hb12
  go_wp2_with fail
  refine (RCA.out _ (HA.out.below B12.out)).mono ?_
  rintro e w13 ⟨x13, k13, g13, qb13, qc13, qg13, qo13, rfl, hb13, hC13, hg13, hp13⟩
  replace TCA : Hid (∀ k, k < (lcd hs).length * 11 → w13.frozen? ⟨g5, k, none⟩ = false) := fun k hk => (hb13.frozen (p := ⟨g5, k, none⟩) (CA.out.lt (by omega))).trans (TCA.out k hk)
  replace FF : Hid _ := FF.out.below hb13
  replace II : Hid _ := II.out.below hb13
  replace WS : Hid _ := WS.out.below hb13
  replace CA : Hid _ := CA.out.below hb13
  replace CB : Hid _ := CB.out.below hb13
  replace EC : Hid _ := EC.out.below hb13
  replace ED : Hid _ := ED.out.below hb13
  replace EO : Hid _ := EO.out.below hb13
  replace EP : Hid _ := EP.out.below hb13
  have B13 : Hid (Below w.heap.size w w13) := B12.out.trans (hb13.mono B12.out.size)
  have Z13 : Hid (w12.heap.size ≤ w13.heap.size) := hb13.size
  have CR : Hid _ := hC13
  have RXTCR : Hid (((lcd hs).length ≠ 0 → w12.heap.size ≤ g13 ∧ g13 < w13.heap.size) ∧ ∀ i, i < (lcd hs).length → (cdAt (lcd hs) i).rt.pairs.length ≠ 0 → w12.heap.size ≤ qg13 i ∧ qg13 i < w13.heap.size) := ⟨fun q => ⟨hg13 q, hC13.lt q⟩, fun i hi q => ⟨hp13 i hi q, (hC13.prs i hi).1.lt q⟩⟩
  clear hb13 hC13 hg13 hp13
  go_wp2_with fail
  refine (RCU.out _ _ (HA.out.below B13.out)).mono ?_
  rintro e w14 ⟨v14, rfl, hb14, x14, k14, g14, pb14, pc14, pg14, po14, rfl, hE14, hg14, _, hp14⟩
  replace TCA : Hid (∀ k, k < (lcd hs).length * 11 → w14.frozen? ⟨g5, k, none⟩ = false) := fun k hk => (hb14.frozen (p := ⟨g5, k, none⟩) (CA.out.lt (by omega))).trans (TCA.out k hk)
  replace FF : Hid _ := FF.out.below hb14
  replace II : Hid _ := II.out.below hb14
  replace WS : Hid _ := WS.out.below hb14
  replace CA : Hid _ := CA.out.below hb14
  replace CB : Hid _ := CB.out.below hb14
  replace EC : Hid _ := EC.out.below hb14
  replace ED : Hid _ := ED.out.below hb14
  replace EO : Hid _ := EO.out.below hb14
  replace EP : Hid _ := EP.out.below hb14
  replace CR : Hid _ := CR.out.below hb14
  have B14 : Hid (Below w.heap.size w w14) := B13.out.trans (hb14.mono B13.out.size)
  have Z14 : Hid (w13.heap.size ≤ w14.heap.size) := hb14.size
  have UC : Hid _ := hE14
  have RUC : Hid ((cutL hs _).length ≠ 0 → w13.heap.size ≤ g14 ∧ g14 < w14.heap.size) := fun q => ⟨hg14 q, hE14.lt q⟩
  have PUC : Hid (∀ i, i < (cutL hs _).length → (evAt (cutL hs _) i).rt.pairs.length ≠ 0 → w13.heap.size ≤ pg14 i ∧ pg14 i < w14.heap.size) := fun i hi q => ⟨hp14 i hi q, (hE14.prs i hi).1.lt q⟩
  clear hb14 hE14 hg14 hp14
  go_wp2_with fail
  refine (RDO.out _ (HA.out.below B14.out)).mono ?_
  rintro e w15 ⟨v15, rfl, hb15, x15, k15, g15, pb15, pc15, pg15, po15, rfl, hE15, hg15, _, hp15⟩
  replace TCA : Hid (∀ k, k < (lcd hs).length * 11 → w15.frozen? ⟨g5, k, none⟩ = false) := fun k hk => (hb15.frozen (p := ⟨g5, k, none⟩) (CA.out.lt (by omega))).trans (TCA.out k hk)
  replace FF : Hid _ := FF.out.below hb15
  replace II : Hid _ := II.out.below hb15
  replace WS : Hid _ := WS.out.below hb15
  replace CA : Hid _ := CA.out.below hb15
  replace CB : Hid _ := CB.out.below hb15
  replace EC : Hid _ := EC.out.below hb15
  replace ED : Hid _ := ED.out.below hb15
  replace EO : Hid _ := EO.out.below hb15
  replace EP : Hid _ := EP.out.below hb15
  replace CR : Hid _ := CR.out.below hb15
  replace UC : Hid _ := UC.out.below hb15
  have B15 : Hid (Below w.heap.size w w15) := B14.out.trans (hb15.mono B14.out.size)
  have Z15 : Hid (w14.heap.size ≤ w15.heap.size) := hb15.size
  have UD : Hid _ := hE15
  have RUD : Hid ((doneL hs).length ≠ 0 → w14.heap.size ≤ g15 ∧ g15 < w15.heap.size) := fun q => ⟨hg15 q, hE15.lt q⟩
  have PUD : Hid (∀ i, i < (doneL hs).length → (evAt (doneL hs) i).rt.pairs.length ≠ 0 → w14.heap.size ≤ pg15 i ∧ pg15 i < w15.heap.size) := fun i hi q => ⟨hp15 i hi q, (hE15.prs i hi).1.lt q⟩
  clear hb15 hE15 hg15 hp15
  go_wp2_with fail
  refine (ROF.out _ (HA.out.below B15.out)).mono ?_
  rintro e w16 ⟨v16, rfl, hb16, x16, k16, g16, pb16, pc16, pg16, po16, rfl, hE16, hg16, _, hp16⟩
  replace TCA : Hid (∀ k, k < (lcd hs).length * 11 → w16.frozen? ⟨g5, k, none⟩ = false) := fun k hk => (hb16.frozen (p := ⟨g5, k, none⟩) (CA.out.lt (by omega))).trans (TCA.out k hk)
  replace FF : Hid _ := FF.out.below hb16
  replace II : Hid _ := II.out.below hb16
  replace WS : Hid _ := WS.out.below hb16
  replace CA : Hid _ := CA.out.below hb16
  replace CB : Hid _ := CB.out.below hb16
  replace EC : Hid _ := EC.out.below hb16
  replace ED : Hid _ := ED.out.below hb16
  replace EO : Hid _ := EO.out.below hb16
  replace EP : Hid _ := EP.out.below hb16
  replace CR : Hid _ := CR.out.below hb16
  replace UC : Hid _ := UC.out.below hb16
  replace UD : Hid _ := UD.out.below hb16
  have B16 : Hid (Below w.heap.size w w16) := B15.out.trans (hb16.mono B15.out.size)
  have Z16 : Hid (w15.heap.size ≤ w16.heap.size) := hb16.size
  have UO : Hid _ := hE16
  have RUO : Hid ((ofL' hs 0).length ≠ 0 → w15.heap.size ≤ g16 ∧ g16 < w16.heap.size) := fun q => ⟨hg16 q, hE16.lt q⟩
  have PUO : Hid (∀ i, i < (ofL' hs 0).length → (evAt (ofL' hs 0) i).rt.pairs.length ≠ 0 → w15.heap.size ≤ pg16 i ∧ pg16 i < w16.heap.size) := fun i hi q => ⟨hp16 i hi q, (hE16.prs i hi).1.lt q⟩
  clear hb16 hE16 hg16 hp16
  go_wp2_with fail
  refine (are_same x6 x13 g6 0 k6 g13 0 k13 (lcd hs) qb6 qb13 qc6 qg6 qo6 qc13 qg13 qo13 _ CB.out CR.out).mono ?_
  rintro e w17 ⟨rfl, hb17⟩
  replace TCA : Hid (∀ k, k < (lcd hs).length * 11 → w17.frozen? ⟨g5, k, none⟩ = false) := fun k hk => (hb17.frozen (p := ⟨g5, k, none⟩) (CA.out.lt (by omega))).trans (TCA.out k hk)
  replace FF : Hid _ := FF.out.below hb17
  replace II : Hid _ := II.out.below hb17
  replace WS : Hid _ := WS.out.below hb17
  replace CA : Hid _ := CA.out.below hb17
  replace CB : Hid _ := CB.out.below hb17
  replace EC : Hid _ := EC.out.below hb17
  replace ED : Hid _ := ED.out.below hb17
  replace EO : Hid _ := EO.out.below hb17
  replace EP : Hid _ := EP.out.below hb17
  replace CR : Hid _ := CR.out.below hb17
  replace UC : Hid _ := UC.out.below hb17
  replace UD : Hid _ := UD.out.below hb17
  replace UO : Hid _ := UO.out.below hb17
  have B17 : Hid (Below w.heap.size w w17) := B16.out.trans (hb17.mono B16.out.size)
  have Z17 : Hid (w16.heap.size ≤ w17.heap.size) := hb17.size
  clear hb17
  go_wp2_with fail
  refine (SAME.out x7 x14 g7 0 k7 g14 0 k14 _ pb7 pb14 pc7 pg7 po7 pc14 pg14 po14 _ EC.out UC.out).mono ?_
  rintro e w18 ⟨rfl, hb18⟩
  replace TCA : Hid (∀ k, k < (lcd hs).length * 11 → w18.frozen? ⟨g5, k, none⟩ = false) := fun k hk => (hb18.frozen (p := ⟨g5, k, none⟩) (CA.out.lt (by omega))).trans (TCA.out k hk)
  replace FF : Hid _ := FF.out.below hb18
  replace II : Hid _ := II.out.below hb18
  replace WS : Hid _ := WS.out.below hb18
  replace CA : Hid _ := CA.out.below hb18
  replace CB : Hid _ := CB.out.below hb18
  replace EC : Hid _ := EC.out.below hb18
  replace ED : Hid _ := ED.out.below hb18
  replace EO : Hid _ := EO.out.below hb18
  replace EP : Hid _ := EP.out.below hb18
  replace CR : Hid _ := CR.out.below hb18
  replace UC : Hid _ := UC.out.below hb18
  replace UD : Hid _ := UD.out.below hb18
  replace UO : Hid _ := UO.out.below hb18
  have B18 : Hid (Below w.heap.size w w18) := B17.out.trans (hb18.mono B17.out.size)
  have Z18 : Hid (w17.heap.size ≤ w18.heap.size) := hb18.size
  clear hb18
  go_wp2_with fail
  refine (SAME.out x8 x15 g8 0 k8 g15 0 k15 _ pb8 pb15 pc8 pg8 po8 pc15 pg15 po15 _ ED.out UD.out).mono ?_
  rintro e w19 ⟨rfl, hb19⟩
  replace TCA : Hid (∀ k, k < (lcd hs).length * 11 → w19.frozen? ⟨g5, k, none⟩ = false) := fun k hk => (hb19.frozen (p := ⟨g5, k, none⟩) (CA.out.lt (by omega))).trans (TCA.out k hk)
  replace FF : Hid _ := FF.out.below hb19
  replace II : Hid _ := II.out.below hb19
  replace WS : Hid _ := WS.out.below hb19
  replace CA : Hid _ := CA.out.below hb19
  replace CB : Hid _ := CB.out.below hb19
  replace EC : Hid _ := EC.out.below hb19
  replace ED : Hid _ := ED.out.below hb19
  replace EO : Hid _ := EO.out.below hb19
  replace EP : Hid _ := EP.out.below hb19
  replace CR : Hid _ := CR.out.below hb19
  replace UC : Hid _ := UC.out.below hb19
  replace UD : Hid _ := UD.out.below hb19
  replace UO : Hid _ := UO.out.below hb19
  have B19 : Hid (Below w.heap.size w w19) := B18.out.trans (hb19.mono B18.out.size)
  have Z19 : Hid (w18.heap.size ≤ w19.heap.size) := hb19.size
  clear hb19
  go_wp2_with fail
  refine (SAME.out x9 x16 g9 0 k9 g16 0 k16 _ pb9 pb16 pc9 pg9 po9 pc16 pg16 po16 _ EO.out UO.out).mono ?_
  rintro e w20 ⟨rfl, hb20⟩
  replace TCA : Hid (∀ k, k < (lcd hs).length * 11 → w20.frozen? ⟨g5, k, none⟩ = false) := fun k hk => (hb20.frozen (p := ⟨g5, k, none⟩) (CA.out.lt (by omega))).trans (TCA.out k hk)
  replace FF : Hid _ := FF.out.below hb20
  replace II : Hid _ := II.out.below hb20
  replace WS : Hid _ := WS.out.below hb20
  replace CA : Hid _ := CA.out.below hb20
  replace CB : Hid _ := CB.out.below hb20
  replace EC : Hid _ := EC.out.below hb20
  replace ED : Hid _ := ED.out.below hb20
  replace EO : Hid _ := EO.out.below hb20
  replace EP : Hid _ := EP.out.below hb20
  replace CR : Hid _ := CR.out.below hb20
  replace UC : Hid _ := UC.out.below hb20
  replace UD : Hid _ := UD.out.below hb20
  replace UO : Hid _ := UO.out.below hb20
  have B20 : Hid (Below w.heap.size w w20) := B19.out.trans (hb20.mono B19.out.size)
  have Z20 : Hid (w19.heap.size ≤ w20.heap.size) := hb20.size
  clear hb20
  -- the blocks that are written
  have ZZ : Hid (w.heap.size ≤ w1.heap.size ∧ w1.heap.size < w3.heap.size ∧ w3.heap.size ≤ w4.heap.size ∧ w4.heap.size ≤ w5.heap.size ∧ w5.heap.size ≤ w6.heap.size ∧ w6.heap.size ≤ w7.heap.size ∧ w7.heap.size ≤ w8.heap.size ∧ w8.heap.size ≤ w9.heap.size ∧ w9.heap.size ≤ w10.heap.size ∧ w10.heap.size ≤ w11.heap.size ∧ w11.heap.size ≤ w12.heap.size ∧ w12.heap.size ≤ w13.heap.size ∧ w13.heap.size ≤ w14.heap.size ∧ w14.heap.size ≤ w15.heap.size ∧ w15.heap.size ≤ w16.heap.size ∧ w16.heap.size ≤ w17.heap.size ∧ w17.heap.size ≤ w18.heap.size ∧ w18.heap.size ≤ w19.heap.size ∧ w19.heap.size ≤ w20.heap.size) := ⟨Z1.out, RI.out.1, Z4.out, Z5.out, Z6.out, Z7.out, Z8.out, Z9.out, Z10.out, Z11.out, Z12.out, Z13.out, Z14.out, Z15.out, Z16.out, Z17.out, Z18.out, Z19.out, Z20.out⟩
  clear Z4 Z5 Z6 Z7 Z8 Z9 Z10 Z11 Z12 Z13 Z14 Z15 Z16 Z17 Z18 Z19 Z20 Z1 KCU KDO KOF RCA RCU RDO ROF CWA SAM WS FF RWS PWS
  obtain ⟨KS, hKS⟩ : ∃ KS, KS = KSp w1.heap.size w3.heap.size w4.heap.size w5.heap.size w6.heap.size w7.heap.size w8.heap.size w9.heap.size := ⟨_, rfl⟩
  have KW : Hid (∀ q, KS q → w.heap.size ≤ q) := fun q hq => by rw [hKS] at hq; unfold KSp at hq; have zz := ZZ.out; omega
  have KI : Hid (KS w1.heap.size) := by show KS _; rw [hKS]; exact Or.inl ⟨Nat.le_refl _, RI.out.1⟩
  have KIP : Hid (∀ i, i < hs.length → (evAt hs i).rt.pairs.length ≠ 0 → KS (pg3 i)) := fun i hi q => by rw [hKS]; exact Or.inl (RI.out.2 i hi q)
  have KA : Hid ((lcd hs).length ≠ 0 → KS g5) := fun q => by rw [hKS]; exact Or.inr (Or.inl (RXTCA.out.1 q))
  have KAP : Hid (∀ i, i < (lcd hs).length → (cdAt (lcd hs) i).rt.pairs.length ≠ 0 → KS (qg5 i)) := fun i hi q => by rw [hKS]; exact Or.inr (Or.inl (RXTCA.out.2 i hi q))
  have KC : Hid ((cutL hs _).length ≠ 0 → KS g7) := fun q => by rw [hKS]; exact Or.inr (Or.inr (Or.inl (REC.out q)))
  have KCP : Hid (∀ i, i < (cutL hs _).length → (evAt (cutL hs _) i).rt.pairs.length ≠ 0 → KS (pg7 i)) := fun i hi q => by rw [hKS]; exact Or.inr (Or.inr (Or.inl (PEC.out i hi q)))
  have KO : Hid ((ofL' hs 0).length ≠ 0 → KS g9) := fun q => by rw [hKS]; exact Or.inr (Or.inr (Or.inr (REO.out q)))
  have KOP : Hid (∀ i, i < (ofL' hs 0).length → (evAt (ofL' hs 0) i).rt.pairs.length ≠ 0 → KS (pg9 i)) := fun i hi q => by rw [hKS]; exact Or.inr (Or.inr (Or.inr (PEO.out i hi q)))
  have SCB : Hid (∀ Q, Spo KS w20 Q → CdsAt Q x6 g6 0 (lcd hs) qb6 qc6 qg6 qo6) := fun Q s => CB.out.stay s (fun q => fun hq => by rw [hKS] at hq; unfold KSp at hq; have := RXTCB.out.1 q; have zz := ZZ.out; omega) (fun i hi q => fun hq => by rw [hKS] at hq; unfold KSp at hq; have := RXTCB.out.2 i hi q; have zz := ZZ.out; omega)
  have SCR : Hid (∀ Q, Spo KS w20 Q → CdsAt Q x13 g13 0 (lcd hs) qb13 qc13 qg13 qo13) := fun Q s => CR.out.stay s (fun q => fun hq => by rw [hKS] at hq; unfold KSp at hq; have := RXTCR.out.1 q; have zz := ZZ.out; omega) (fun i hi q => fun hq => by rw [hKS] at hq; unfold KSp at hq; have := RXTCR.out.2 i hi q; have zz := ZZ.out; omega)
  have SED : Hid (∀ Q, Spo KS w20 Q → EvsAt Q x8 g8 0 (doneL hs) pb8 pc8 pg8 po8) := fun Q s => ED.out.stay s (fun q => fun hq => by rw [hKS] at hq; unfold KSp at hq; have := RED.out q; have zz := ZZ.out; omega) (fun i hi q => fun hq => by rw [hKS] at hq; unfold KSp at hq; have := PED.out i hi q; have zz := ZZ.out; omega)
  have SUD : Hid (∀ Q, Spo KS w20 Q → EvsAt Q x15 g15 0 (doneL hs) pb15 pc15 pg15 po15) := fun Q s => UD.out.stay s (fun q => fun hq => by rw [hKS] at hq; unfold KSp at hq; have := RUD.out q; have zz := ZZ.out; omega) (fun i hi q => fun hq => by rw [hKS] at hq; unfold KSp at hq; have := PUD.out i hi q; have zz := ZZ.out; omega)
  have SEP : Hid (∀ Q, Spo KS w20 Q → EvsAt Q x10 g10 0 (ofL' hs 0) pb10 pc10 pg10 po10) := fun Q s => EP.out.stay s (fun q => fun hq => by rw [hKS] at hq; unfold KSp at hq; have := REP.out q; have zz := ZZ.out; omega) (fun i hi q => fun hq => by rw [hKS] at hq; unfold KSp at hq; have := PEP.out i hi q; have zz := ZZ.out; omega)
  have SUO : Hid (∀ Q, Spo KS w20 Q → EvsAt Q x16 g16 0 (ofL' hs 0) pb16 pc16 pg16 po16) := fun Q s => UO.out.stay s (fun q => fun hq => by rw [hKS] at hq; unfold KSp at hq; have := RUO.out q; have zz := ZZ.out; omega) (fun i hi q => fun hq => by rw [hKS] at hq; unfold KSp at hq; have := PUO.out i hi q; have zz := ZZ.out; omega)
  have SH : Hid (∀ Q, Spo KS w20 Q → EvsAt Q base b o hs pb pc pg po) := fun Q s => HA.out.below (Spo.down B20.out s B20.out.size KW.out)
  have CAx : Hid (CdsAt w20 x5 g5 0 (lcd hs) qb5 qc5 qg5 qo5) := CA.out
  have TAx : Hid (∀ k, k < (lcd hs).length * 11 → w20.frozen? ⟨g5, k, none⟩ = false) := TCA.out
  clear hKS RXTCA RXTCB RXTCR REC PEC RED PED REO PEO REP PEP RUC PUC RUD PUD RUO PUO CB CR ED UD EP UO CA TCA ZZ RI UC
  have LA : Hid ((lcd hs).length ≤ maxLen) := CAx.out.len
  have la := LA.out
  unfold maxLen at la
  generalize hll : (lcd hs).length = L at la ⊢
  have HLL : Hid ((lcd hs).length = L) := hll
  clear hll
  go_wp2_with fail
  go_loopw [29] (fun i wr => ∃ j : Nat, j ≤ L ∧ i = .int .i64 j ∧ Spo KS w20 wr) (fun i _ => L - (intOf i).toNat)
  case atStart => exact ⟨0, Nat.zero_le _, rfl, Spo.refl _ _⟩
  case round =>
    obtain ⟨j, hj, rfl, hspo⟩ := hrel
    rename World => wr
    have HS : Hid (Spo KS w20 wr) := hspo
    by_cases hlt : j < L
    · have hjl : j < (lcd hs).length := by rw [HLL.out]; exact hlt
      obtain rfl : x5 = some ⟨g5, 0, none⟩ := CAx.out.base (by omega)
      obtain ⟨l', hl', hp', hC'⟩ := CAx.out.turn hspo
      obtain ⟨d0, _, d2, _⟩ := hC'.c0 j (by omega)
      obtain ⟨_, _, _, d8⟩ := hC'.c1 j (by omega)
      rw [hp' j hjl] at d8
      simp only [Nat.zero_add] at d0 d2 d8
      have gl : g5 < w20.heap.size := CAx.out.lt (by omega)
      have f0 : wr.frozen? ⟨g5, j * 11, none⟩ = false := (hspo.frz _ _ gl).trans (TAx.out _ (by omega))
      have f2 : wr.frozen? ⟨g5, j * 11 + 2, none⟩ = false := (hspo.frz _ _ gl).trans (TAx.out _ (by omega))
      have S4 : Hid (Spo KS w20 ((wr.setCell ⟨g5, j * 11 + 2, none⟩ (.int .i64 99)).setCell ⟨g5, j * 11, none⟩ (.int .i64 99))) := (hspo.set (KA.out (by omega)) 99 d2).set (KA.out (by omega)) 99 (by rw [World.cell?_setCell_other _ _ _ _ (fun q => by have := congrArg Addr.off q; simp at this)]; exact d0)
      have j0 : (0 : Int) ≤ (j : Int) := Int.natCast_nonneg _
      have j1 : (j : Int) < (L : Int) := by omega
      clear hspo hC' hl' hp' gl d8
      go_wp2_with fail
      go_loopw [30] (fun k wr2 => ∃ m : Nat, m ≤ (cdAt (lcd hs) j).rt.pairs.length ∧ k = .int .i64 m ∧ Spo KS w20 wr2) (fun k _ => (cdAt (lcd hs) j).rt.pairs.length - (intOf k).toNat)
      case atStart => exact ⟨0, Nat.zero_le _, rfl, S4.out⟩
      case round =>
        clear d0 d2 f0 f2 S4
        obtain ⟨m, hm, rfl, hspo2⟩ := hrel
        rename World => wr2
        have HS2 : Hid (Spo KS w20 wr2) := hspo2
        obtain ⟨l2, hl2, hp2, hC2⟩ := CAx.out.turn hspo2
        obtain ⟨_, _, _, d8⟩ := hC2.c1 j (by omega)
        rw [hp2 j hjl] at d8
        simp only [Nat.zero_add] at d8
        have PX : Hid _ := (hC2.prs j (by omega)).1
        have HQ : Hid ((cdAt l2 j).rt.pairs.length = (cdAt (lcd hs) j).rt.pairs.length) := hp2 j hjl
        have lm : (cdAt (lcd hs) j).rt.pairs.length ≤ 281474976710656 := by have := (CAx.out.prs j hjl).2.2; omega
        clear hspo2 hC2 hl2 hp2
        by_cases hmt : m < (cdAt (lcd hs) j).rt.pairs.length
        · have hb : qb5 j = some ⟨qg5 j, qo5 j, none⟩ := PX.out.base (by rw [HQ.out]; omega)
          rw [hb] at d8
          obtain ⟨c1, _⟩ := PX.out.cells m (by rw [HQ.out]; exact hmt)
          have f1 : wr2.frozen? ⟨qg5 j, qo5 j + m * 2, none⟩ = false := PX.out.thaw (m * 2) (by rw [HQ.out]; omega)
          have S1 : Hid (∀ y : Int, Spo KS w20 (wr2.setCell ⟨qg5 j, qo5 j + m * 2, none⟩ (.int .i64 y))) := fun y => HS2.out.set (KAP.out j hjl (by omega)) y c1
          have m0 : (0 : Int) ≤ (m : Int) := Int.natCast_nonneg _
          have m1 : (m : Int) < ((cdAt (lcd hs) j).rt.pairs.length : Int) := by omega
          clear hb
          go_wp2_with fail
          refine ⟨⟨m + 1, by omega, by go_num, S1.out _⟩, by simp [intOf]; omega⟩
        · obtain rfl : m = (cdAt (lcd hs) j).rt.pairs.length := by omega
          go_wp2_with fail
          refine ⟨⟨j + 1, by omega, by go_num, HS2.out⟩, by simp [intOf]; omega⟩
    · obtain rfl : j = L := by omega
      clear hspo
      have SI : Hid (∀ Q, Spo KS w20 Q → ∃ hs' : List EvD, hs'.length = n ∧ EvsAt Q (some ⟨w1.heap.size, 0, none⟩) w1.heap.size 0 hs' pb3 pc3 pg3 po3 ∧ Calls Try.prog 17 #[.slice (some ⟨w1.heap.size, 0, none⟩) n M] Q fun e w' => e = .returned (.tuple #[]) ∧ Spo KS w20 w') := fun Q s => by
        obtain ⟨hs', hl', hp', hE'⟩ := II.out.turn s
        have q := spoil_any KS _ _ 0 M hs' _ _ _ _ Q hE' (fun _ => KI.out) (fun i hi z => KIP.out i (by omega) (by rw [hp' i (by omega)] at z; exact z))
        rw [hl', LN.out] at q
        exact ⟨hs', by rw [hl', LN.out], hE', q.mono (fun e w' ⟨e1, e2⟩ => ⟨e1, s.trans e2⟩)⟩
      have SC : Hid (∀ Q, Spo KS w20 Q → Calls Try.prog 17 #[.slice x7 (cutL hs _).length k7] Q fun e w' => e = .returned (.tuple #[]) ∧ Spo KS w20 w') := fun Q s => by
        obtain ⟨hs', hl', hp', hE'⟩ := EC.out.turn s
        have q := spoil_any KS _ _ 0 k7 hs' _ _ _ _ Q hE' (fun z => KC.out (by omega)) (fun i hi z => KCP.out i (by omega) (by rw [hp' i (by omega)] at z; exact z))
        rw [hl'] at q
        exact q.mono (fun e w' ⟨e1, e2⟩ => ⟨e1, s.trans e2⟩)
      have SO : Hid (∀ Q, Spo KS w20 Q → Calls Try.prog 17 #[.slice x9 (ofL' hs 0).length k9] Q fun e w' => e = .returned (.tuple #[]) ∧ Spo KS w20 w') := fun Q s => by
        obtain ⟨hs', hl', hp', hE'⟩ := EO.out.turn s
        have q := spoil_any KS _ _ 0 k9 hs' _ _ _ _ Q hE' (fun z => KO.out (by omega)) (fun i hi z => KOP.out i (by omega) (by rw [hp' i (by omega)] at z; exact z))
        rw [hl'] at q
        exact q.mono (fun e w' ⟨e1, e2⟩ => ⟨e1, s.trans e2⟩)
      have AR : Hid (∀ Q, Spo KS w20 Q → Calls Try.prog 16 #[.slice x6 (lcd hs).length k6, .slice x13 (lcd hs).length k13] Q fun e w' => e = .returned (.bool true) ∧ Spo KS w20 w') := fun Q s => (are_same _ _ _ 0 k6 _ 0 k13 (lcd hs) _ _ _ _ _ _ _ _ Q (SCB.out Q s) (SCR.out Q s)).mono (fun e w' ⟨e1, e2⟩ => ⟨e1, s.below e2⟩)
      rw [HLL.out] at AR
      go_wp2_with fail
      obtain ⟨_, _, _, qc1⟩ := SI.out _ HS.out
      refine qc1.mono ?_
      clear qc1
      rintro e z1 ⟨rfl, hz⟩
      have Y1 : Hid (Spo KS w20 z1) := hz
      clear hz
      go_wp2_with fail
      refine (SC.out _ Y1.out).mono ?_
      rintro e z2 ⟨rfl, hz⟩
      have Y2 : Hid (Spo KS w20 z2) := hz
      clear hz
      go_wp2_with fail
      refine (SO.out _ Y2.out).mono ?_
      rintro e z3 ⟨rfl, hz⟩
      have Y3 : Hid (Spo KS w20 z3) := hz
      clear hz
      go_wp2_with fail
      refine (AR.out _ Y3.out).mono ?_
      rintro e z4 ⟨rfl, hz⟩
      have Y4 : Hid (Spo KS w20 z4) := hz
      clear hz
      go_wp2_with fail
      refine (SAME.out x8 x15 g8 0 k8 g15 0 k15 _ pb8 pb15 pc8 pg8 po8 pc15 pg15 po15 _ (SED.out _ Y4.out) (SUD.out _ Y4.out)).mono ?_
      rintro e z5 ⟨rfl, hz⟩
      have Y5 : Hid (Spo KS w20 z5) := Y4.out.below hz
      clear hz
      go_wp2_with fail
      refine (SAME.out x10 x16 g10 0 k10 g16 0 k16 _ pb10 pb16 pc10 pg10 po10 pc16 pg16 po16 _ (SEP.out _ Y5.out) (SUO.out _ Y5.out)).mono ?_
      rintro e z6 ⟨rfl, hz⟩
      have Y6 : Hid (Spo KS w20 z6) := Y5.out.below hz
      clear hz
      go_wp2_with fail
      have Y7 : Hid _ := Y6.out
      obtain ⟨ht, hlt, hE, _⟩ := SI.out _ Y7.out
      have ET : Hid _ := hE
      have LT : Hid (ht.length = n) := hlt
      clear hE hlt
      have EA8 := copyEvents_any _ _ 0 M ht _ _ _ _ _ ET.out (by have := HBY.out; have := LT.out; have := LN.out; omega)
      rw [LT.out] at EA8
      refine EA8.mono ?_
      clear EA8
      rintro e z8 ⟨v8, rfl, hb8, x8, k8, g8, pb8, pc8, pg8, po8, rfl, hE8, _, _, _⟩
      have Y8 : Hid (Spo KS w20 z8) := Y7.out.below hb8
      have E8 : Hid _ := hE8
      have ET8 : Hid _ := ET.out.below hb8
      clear hb8 hE8
      go_wp2_with fail
      refine (rcalls_new x8 g8 0 k8 ht pb8 pc8 pg8 po8 _ E8.out).mono ?_
      rintro e z9 ⟨x9, k9, g9, qb9, qc9, qg9, qo9, rfl, hb9, hC9, _, _⟩
      have Y9 : Hid (Spo KS w20 z9) := Y8.out.below hb9
      have C9 : Hid _ := hC9
      have ET9 : Hid _ := ET8.out.below hb9
      clear hb9 hC9
      go_wp2_with fail
      have EA10 := calls_new _ _ 0 M ht _ _ _ _ _ ET9.out
      rw [LT.out] at EA10
      refine EA10.mono ?_
      clear EA10
      rintro e z10 ⟨x10, k10, g10, qb10, qc10, qg10, qo10, rfl, hb10, hC10, _, _, _⟩
      have Y10 : Hid (Spo KS w20 z10) := Y9.out.below hb10
      have C10 : Hid _ := hC10
      have C910 : Hid _ := C9.out.below hb10
      have q5 : (hErr ht == hErr ht) = true := by simp
      clear hb10 hC10
      go_wp2_with fail
      refine (are_same x10 x9 g10 0 k10 g9 0 k9 (lcd ht) qb10 qb9 qc10 qg10 qo10 qc9 qg9 qo9 _ C10.out C910.out).mono ?_
      rintro e z11 ⟨rfl, hb11⟩
      have Y11 : Hid (Spo KS w20 z11) := Y10.out.below hb11
      clear hb11
      go_wp2_with fail
      go_ret
      exact ⟨rfl, Spo.down B20.out Y11.out B20.out.size KW.out⟩
theorem eventApart_any (base : Option Addr) (b o c : Nat) (hs : List EvD) (pb : Nat → Option Addr) (pc pg po : Nat → Nat) (w : World) (h : EvsAt w base b o hs pb pc pg po) (hby : hs.length * 96 ≤ 140737488351232) :
    Calls Try.prog 3 #[.slice base hs.length c] w fun e w' => e = .returned (.bool true) ∧ Below w.heap.size w w' := by
  by_cases he : hErr hs = 0
  · exact eventApart_ok base b o c hs pb pc pg po w h hby he
  · exact eventApart_bad base b o c hs pb pc pg po w h hby he
end Go.Proofs.Ytgbfippcnmpgfaa
