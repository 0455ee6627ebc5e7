
/- Layer 5: spansOf. -/

import Derived.Test.YtcphajjonecmbaaDoorEMem

import Derived.Deep.AppendLies

import Derived.Deep.QuietTactic

import Derived.BigQuiet

namespace Go.Proofs.YtcphajjonecmbaaDoor

open Go.RowKit

theorem sp_info : (Tryd.prog.info? 142).map (fun i => (i.zero, i.size, i.bytes)) = some (some (.agg #[.int .i64 0, .int .i64 0]), 2, 16) := by kernel_rfl
theorem sps_under : Tryd.prog.underlying 137 = some (.slice 142) := by kernel_rfl

theorem hErr_form {hs : List EvD} (hb : hs.length ≤ 100000) (h : stN hs hs.length = none) : hErr hs = 3 := by
  unfold hErr; rw [if_neg (by omega), h]
theorem hErr_ok {hs : List EvD} (hb : hs.length ≤ 100000) {s : St} (h : stN hs hs.length = some s) : hErr hs = 0 ∧ spansL hs = s.spans := by
  unfold hErr spansL; rw [if_neg (by omega), h]; exact ⟨rfl, rfl⟩
theorem zeros_ints (w : World) (T : TypeId) (n : Nat) : Ints (w.alloc (.cells (Array.replicate n (.int .i64 0)) T)) w.heap.size n (fun _ => 0) := by
  intro j hj
  have hh := heap_alloc_at w (.cells (Array.replicate n (.int .i64 0)) T) w.heap.size rfl
  simp only [World.cell?, World.frozen?, hh]
  simp [hj]

theorem below_drewN {B : Nat} {w w' : World} (h : Below B w w') (n : Nat) : Below B w (w'.drewN n) := ⟨h.os, h.tape, h.output, h.size, h.block⟩
theorem owns_lt {w : World} {B sz : Nat} {e : TypeId} {v : Value} {n : Nat} {xs : List Value} (h : w.ownsRow B e sz v n xs) : ∀ b, v.ownBlock = some b → B ≤ b ∧ b < w.heap.size := by
  intro b hb
  obtain ⟨_, h⟩ := h
  rcases h with ⟨rfl, _⟩ | ⟨g, cap, cur, rfl, hg, hh, _⟩
  · cases hb
  · simp [Value.ownBlock] at hb
    subst hb
    exact ⟨hg, (Array.getElem?_eq_some_iff.1 hh).1⟩
theorem owns_down {w : World} {B B' sz : Nat} {e : TypeId} {v : Value} {n : Nat} {xs : List Value} (h : w.ownsRow B e sz v n xs) (hB : B' ≤ B) : w.ownsRow B' e sz v n xs := by
  obtain ⟨h0, h⟩ := h
  rcases h with h | ⟨g, cap, cur, hv, hg, r⟩
  · exact ⟨h0, Or.inl h⟩
  · exact ⟨h0, Or.inr ⟨g, cap, cur, hv, by omega, r⟩⟩
theorem owns_some {w : World} {B sz : Nat} {e : TypeId} {v : Value} {n : Nat} {xs : List Value} (h : w.ownsRow B e sz v n xs) (hn : 0 < n) : ∃ g cap, v = .slice (some ⟨g, 0, none⟩) n cap ∧ B ≤ g ∧ g < w.heap.size ∧ n ≤ cap ∧ cap ≤ maxLen ∧ (∀ j, j < n * sz → w.cell? ⟨g, j, none⟩ = xs[j]?) ∧ ∀ j, w.frozen? ⟨g, j, none⟩ = false := by
  obtain ⟨_, h⟩ := h
  rcases h with ⟨_, h0⟩ | ⟨g, cap, cur, rfl, hg, hh, h1, h2, h3, h4⟩
  · omega
  · refine ⟨g, cap, rfl, hg, (Array.getElem?_eq_some_iff.1 hh).1, h1, h2, fun j hj => ?_, fun j => ?_⟩
    · rw [← h4, List.getElem?_take, if_pos hj]; simp [World.cell?, hh]
    · simp [World.frozen?, hh]
theorem ints_upd {w : World} {g n : Nat} {f : Nat → Nat} {t v : Nat} (h : Ints w g n (fun x => if x = t then (v : Int) else ((f x : Nat) : Int))) : Ints w g n (fun x => ((upd f t v x : Nat) : Int)) := by
  intro j hj
  obtain ⟨a, b⟩ := h j hj
  refine ⟨?_, b⟩
  rw [a]
  simp only [upd]
  split <;> rfl

theorem ne_of_gt' {a b : Nat} (h : a < b) : a ≠ b := by omega
theorem ne_of_lt' {a b : Nat} (h : a + 1 ≤ b) : b ≠ a := by omega
theorem far_cell {w1 w3 : World} {o : Obj} {row : Option Nat} {p : Addr} {v : Value} (hg : (w1.alloc o).grownBy w3 row) (hp : p.block < w1.heap.size) (hr : ∀ b, row = some b → b ≠ p.block) (hc : w1.cell? p = some v) : w3.cell? p = some v :=
  (hg.cell_far p (by simp; omega) (fun q => hr _ q.symm rfl)).trans (((below_alloc w1 o).cell (p := p) hp).trans hc)
theorem far_frozen {w1 w3 : World} {o : Obj} {row : Option Nat} {p : Addr} {v : Bool} (hg : (w1.alloc o).grownBy w3 row) (hp : p.block < w1.heap.size) (hr : ∀ b, row = some b → b ≠ p.block) (hc : w1.frozen? p = v) : w3.frozen? p = v :=
  (hg.frozen_far p (by simp; omega) (fun q => hr _ q.symm rfl)).trans (((below_alloc w1 o).frozen (p := p) hp).trans hc)
theorem cell_new (w : World) (cs : Array Value) (T : TypeId) (k : Nat) : (w.alloc (.cells cs T)).cell? ⟨w.heap.size, k, none⟩ = cs[k]? := by
  simp only [World.cell?, heap_alloc_at w (.cells cs T) w.heap.size rfl]
  rfl
theorem Ints.far {w1 w3 : World} {o : Obj} {row : Option Nat} {g n : Nat} {f : Nat → Int} (h : Ints w1 g n f) (hg : (w1.alloc o).grownBy w3 row) (hp : g < w1.heap.size) (hr : ∀ b, row = some b → b ≠ g) : Ints w3 g n f :=
  fun j hj => ⟨far_cell (p := ⟨g, j, none⟩) hg hp hr (h j hj).1, far_frozen (p := ⟨g, j, none⟩) hg hp hr (h j hj).2⟩

theorem stepS_out {hs : List EvD} {s : St} {j : Nat} (h : (evAt hs j).th < 0 ∨ 64 ≤ (evAt hs j).th) : stepS hs s j = none := by
  unfold stepS; rw [if_neg (by omega)]
section

variable {hs : List EvD} {s : St} {j t : Nat} (ht : (evAt hs j).th = t) (h64 : t < 64)

include ht h64

theorem stepS_lone (hr : (evAt hs j).ret = true) (h0 : s.beg t = 0) : stepS hs s j = none := by
  unfold stepS; rw [if_pos (by omega), hr, if_pos rfl, if_neg]
  unfold isBack; rw [ht, Int.toNat_natCast, h0]; simp
theorem stepS_other (hr : (evAt hs j).ret = true) (h0 : opEq (evAt hs (spAt s.spans (s.beg t - 1)).1).op (evAt hs j).op = false) : stepS hs s j = none := by
  unfold stepS; rw [if_pos (by omega), hr, if_pos rfl, if_neg]
  unfold isBack; rw [ht, Int.toNat_natCast, h0]; simp
theorem stepS_back (hr : (evAt hs j).ret = true) (hp : 0 < s.beg t) (h0 : opEq (evAt hs (spAt s.spans (s.beg t - 1)).1).op (evAt hs j).op = true) : stepS hs s j = some ⟨s.spans.set (s.beg t - 1) ((spAt s.spans (s.beg t - 1)).1, (j : Int)), upd s.beg t 0⟩ := by
  unfold stepS; rw [if_pos (by omega), hr, if_pos rfl, if_pos]
  · unfold backS; rw [ht, Int.toNat_natCast]
  · unfold isBack; rw [ht, Int.toNat_natCast]; exact ⟨hp, h0⟩
theorem stepS_busy (hr : (evAt hs j).ret = false) (h0 : s.beg t ≠ 0) : stepS hs s j = none := by
  unfold stepS; rw [if_pos (by omega), hr, if_neg (by simp), if_neg]
  rw [ht, Int.toNat_natCast]; simp [h0]
theorem stepS_bad (hr : (evAt hs j).ret = false) (h0 : isInv (evAt hs j) = false) : stepS hs s j = none := by
  unfold stepS; rw [if_pos (by omega), hr, if_neg (by simp), if_neg]
  simp [h0]
theorem stepS_go (hr : (evAt hs j).ret = false) (hp : s.beg t = 0) (h0 : isInv (evAt hs j) = true) : stepS hs s j = some ⟨s.spans ++ [(j, -1)], upd s.beg t (s.spans.length + 1)⟩ := by
  unfold stepS; rw [if_pos (by omega), hr, if_neg (by simp), if_pos]
  · unfold goS; rw [ht, Int.toNat_natCast]
  · rw [ht, Int.toNat_natCast]; exact ⟨hp, h0⟩
end

set_option maxRecDepth 100000 in
set_option maxHeartbeats 1000000 in
theorem spansOf_any (base : Option Addr) (b o c : Nat) (hs : List EvD) (pb : Nat → Option Addr) (pc pg po : Nat → Nat) (w : World) (h : EvsAt w base b o hs pb pc pg po) :
    Calls Tryd.prog 66 #[.slice base hs.length c] w fun e w' => ∃ v, e = .returned (.tuple #[v, .int .i64 (hErr hs)]) ∧ Below w.heap.size w w' ∧ (hErr hs ≠ 0 → v = .slice none 0 0) ∧ (hErr hs = 0 → w'.ownsRow w.heap.size 142 2 v (spansL hs).length (spCells (spansL hs))) := by
  have HA : Hid _ := h
  clear h
  by_cases hbig : 100000 < hs.length
  · have hb : (100000 : Int) < (hs.length : Int) := by omega
    go_enter Tryd.func66, Tryd.ntmps66
    go_wp2
    go_ret2
    have e2 : hErr hs = 2 := by unfold hErr; rw [if_pos hbig]
    exact ⟨_, by rw [e2]; rfl, Below.refl _ _, fun _ => rfl, fun h => by rw [e2] at h; cases h⟩
  · have hb : (hs.length : Int) ≤ 100000 := by omega
    have hbn : hs.length ≤ 100000 := by omega
    clear hbig
    have hop := op_eql
    go_enter Tryd.func66, Tryd.ntmps66
    go_wp2_with fail
    go_loopw [4, 14] (fun v i wr => ∃ (j : Nat) (s : St), j ≤ hs.length ∧ i = .int .i64 j ∧ stN hs j = some s ∧ Below w.heap.size w wr ∧ w.heap.size < wr.heap.size ∧ Ints wr w.heap.size 64 (fun t => s.beg t) ∧ wr.ownsRow (w.heap.size + 1) 142 2 v s.spans.length (spCells s.spans)) (fun _ i _ => hs.length - (intOf i).toNat)
    case atStart =>
      exact ⟨0, ⟨[], fun _ => 0⟩, Nat.zero_le _, rfl, rfl, below_alloc _ _, by simp, zeros_ints w _ 64, World.ownsRow_nil _ _ _ _⟩
    case round =>
      obtain ⟨j, s, hj, rfl, hst, hbw, hsz, hints, hown⟩ := hrel
      by_cases hlt : j < hs.length
      · obtain rfl : base = some ⟨b, o, none⟩ := HA.out.base (by omega)
        have EV := HA.out.below hbw
        obtain ⟨d0, d1⟩ := EV.c0 j hlt
        obtain ⟨d2, d3, d4, d5⟩ := EV.c1 j hlt
        obtain ⟨d6, d7, d8, d9⟩ := EV.c2 j hlt
        have HI : Hid (Ints _ _ _ _) := hints
        have HS : Hid _ := hst
        have HO : Hid (World.ownsRow _ _ _ _ _ _ _) := hown
        have HB : Hid _ := hbw
        have hok := stN_ok hst
        have FAIL : Hid (stepS hs s j = none → hErr hs = 3) := fun hf => hErr_form hbn (stN_fails hst hf hlt)
        have HE : Hid _ := EV
        clear hints hst hown hbw EV
        by_cases ht0 : (evAt hs j).th < 0
        · have F : Hid _ := FAIL.out (stepS_out (by omega))
          go_wp2
          go_ret2
          refine ⟨_, by rw [F.out]; rfl, HB.out.alloc HB.out.size _, fun _ => rfl, fun h => ?_⟩
          rw [F.out] at h; cases h
        · by_cases ht1 : 64 ≤ (evAt hs j).th
          · have F : Hid _ := FAIL.out (stepS_out (by omega))
            have hnn : 0 ≤ (evAt hs j).th := by omega
            go_wp2
            go_ret2
            refine ⟨_, by rw [F.out]; rfl, HB.out.alloc HB.out.size _, fun _ => rfl, fun h => ?_⟩
            rw [F.out] at h; cases h
          · obtain ⟨t, ht⟩ : ∃ t : Nat, (evAt hs j).th = t := ⟨(evAt hs j).th.toNat, by omega⟩
            have ht64 : t < 64 := by omega
            have htI : (t : Int) < 64 := by omega
            have ht0I : (0 : Int) ≤ (t : Int) := by omega
            obtain ⟨k0, f0⟩ := HI.out t ht64
            simp only at k0
            rw [ht] at d0
            have HT : Hid _ := ht
            clear ht0 ht1 ht
            cases hr : (evAt hs j).ret
            · rw [hr] at d1
              by_cases hbg : s.beg t = 0
              · rw [hbg] at k0
                cases hi : isInv (evAt hs j)
                · have F : Hid _ := FAIL.out (stepS_bad HT.out ht64 hr hi)
                  go_wp2_with fail
                  go_quiet (fail)
                  go_wp2_with fail
                  refine (invoke_any ⟨(t : Int), false, (evAt hs j).op, (evAt hs j).rt⟩ _ _ _).mono ?_
                  rintro e w1 ⟨rfl, hb1⟩
                  rw [show isInv ⟨(t : Int), false, (evAt hs j).op, (evAt hs j).rt⟩ = false from hi]
                  go_wp2_with fail
                  go_ret2
                  refine ⟨_, by rw [F.out]; rfl, (below_drewN (HB.out.alloc HB.out.size _) _).trans (hb1.mono (by simp; omega)), fun _ => rfl, fun h => ?_⟩
                  rw [F.out] at h; cases h
                · have HN : Hid _ := stN_next HS.out (stepS_go HT.out ht64 hr hbg hi)
                  have hl5 := hok.len
                  obtain ⟨i0, hi0, hz0, hz1, hz2⟩ := info_parts sp_info
                  go_wp2_with fail
                  go_quiet (fail)
                  go_wp2_with fail
                  refine (invoke_any ⟨(t : Int), false, (evAt hs j).op, (evAt hs j).rt⟩ _ _ _).mono ?_
                  rintro e w1 ⟨rfl, hb1⟩
                  rw [show isInv ⟨(t : Int), false, (evAt hs j).op, (evAt hs j).rt⟩ = true from hi]
                  have HW : Hid (Below wr.heap.size wr w1) := (below_drewN (below_alloc wr _) _).trans (hb1.mono (by simp))
                  have hs1 : wr.heap.size + 1 ≤ w1.heap.size := by have := hb1.size; simpa using this
                  have x0 : Hid (w1.cell? ⟨wr.heap.size, 0, none⟩ = some (.int .i64 t)) := by
                    refine Eq.trans (hb1.cell (p := ⟨wr.heap.size, 0, none⟩) (by simp)) ?_
                    exact cell_new wr _ _ 0
                  have k1 : Hid (Ints w1 w.heap.size 64 (fun t => s.beg t)) := HI.out.below hsz HW.out
                  have o1 := owns_below HO.out HW.out
                  have ol := owns_lt HO.out
                  clear hb1
                  go_wp2_with (first | (at_builtin; (refine wpList_append_lies _ (by rfl) _ _ _ (by rfl) (w.heap.size + 1) 142 i0 _ 2 16 sps_under hi0 hz0 hz1 hz2 rfl (by omega) _ s.spans.length _ (by rfl) (o1.alloc _) ⟨w1.heap.size, 0, none⟩ 1 1 [.int .i64 j, .int .i64 (-1)] (by rfl) (by rfl) (World.news_of_block (cs := #[.int .i64 j, .int .i64 (-1)]) (t := 142) (fr := (0, 0)) (heap_alloc_at _ _ _ (by simp))) (by simp [Value.oneCell']) (by omega) (by unfold maxLen; omega) (by omega) (by simp; omega) (w1.heap.size + 1) (by simp) ?_); intro gg cap w3 hown3 hgrow hat hlt3; have m0 := far_cell (p := ⟨wr.heap.size, 0, none⟩) hgrow hs1 (fun b q => ne_of_gt' (ol b q).2) x0.out; have m1 := far_cell (p := ⟨w.heap.size, t, none⟩) hgrow (Nat.lt_of_lt_of_le hsz (Nat.le_of_succ_le hs1)) (fun b q => ne_of_lt' (ol b q).1) (k1.out t ht64).1; have m2 := far_frozen (p := ⟨w.heap.size, t, none⟩) hgrow (Nat.lt_of_lt_of_le hsz (Nat.le_of_succ_le hs1)) (fun b q => ne_of_lt' (ol b q).1) (k1.out t ht64).2; have HG : Hid _ := hgrow; clear hgrow))
                  have B1 : Below w.heap.size w w1 := HB.out.trans (HW.out.mono (Nat.le_of_lt hsz))
                  have B2 := Below.grown (B1.alloc B1.size _) HG.out (by simp; omega) (fun k hk => by have := ol k hk; omega)
                  have hz3 : w1.heap.size + 1 ≤ w3.heap.size := by have := HG.out.size; simpa using this
                  refine ⟨⟨j + 1, _, by omega, by go_num, HN.out, B2.setCell (by simp) _, by simp; omega, ?_, ?_⟩, by simp [intOf]; omega⟩
                  · exact ints_upd (Ints.set (k1.out.far HG.out (Nat.lt_of_lt_of_le hsz (Nat.le_of_succ_le hs1)) (fun b q => ne_of_lt' (ol b q).1)) t _ ht64)
                  · have := owns_apart hown3 w.heap.size t (.int .i64 ((s.spans.length : Int) + 1)) (by omega)
                    simpa [spCells_append, spCells] using this
              · have F : Hid _ := FAIL.out (stepS_busy HT.out ht64 hr hbg)
                have hne : (((s.beg t : Nat) : Int) == 0) = false := by rw [beq_eq_false_iff_ne]; omega
                go_wp2_with fail
                go_quiet (fail)
                go_wp2_with fail
                go_ret2
                refine ⟨_, by rw [F.out]; rfl, below_drewN (HB.out.alloc HB.out.size _) _, fun _ => rfl, fun h => ?_⟩
                rw [F.out] at h; cases h
            · rw [hr] at d1
              by_cases hbg : s.beg t = 0
              · have F : Hid _ := FAIL.out (stepS_lone HT.out ht64 hr hbg)
                rw [hbg] at k0
                go_wp2_with fail
                go_quiet (fail)
                go_wp2_with fail
                go_ret2
                refine ⟨_, by rw [F.out]; rfl, below_drewN (HB.out.alloc HB.out.size _) _, fun _ => rfl, fun h => ?_⟩
                rw [F.out] at h; cases h
              · obtain ⟨q, hq⟩ : ∃ q, s.beg t = q + 1 := ⟨s.beg t - 1, by omega⟩
                have hqi : ((s.beg t : Nat) : Int) = (q : Int) + 1 := by omega
                rw [hqi] at k0
                have hql : q < s.spans.length := by have := hok.beg t; omega
                obtain ⟨g, cp, rfl, hg1, hg2, hcap, hcap2, hcl, hfz⟩ := owns_some HO.out (by omega)
                obtain ⟨g0, g1⟩ := spCells_get s.spans q hql
                have y0 : wr.cell? ⟨g, q * 2, none⟩ = some (.int .i64 (spAt s.spans q).1) := by rw [hcl _ (by omega)]; exact g0
                have y1 : wr.cell? ⟨g, q * 2 + 1, none⟩ = some (.int .i64 (spAt s.spans q).2) := by rw [hcl _ (by omega)]; exact g1
                have y2 := hfz (q * 2 + 1)
                have hfl := hok.fr q hql
                have hln := hok.len
                obtain ⟨f, hf⟩ : ∃ f, (spAt s.spans q).1 = f := ⟨_, rfl⟩
                rw [hf] at y0 hfl
                obtain ⟨z0, z1, z2, z3⟩ := HE.out.c1 f (by omega)
                have hbl : b < wr.heap.size := HE.out.lt (by omega)
                have hfI : (f : Int) < (hs.length : Int) := by omega
                have hf0 : (0 : Int) ≤ (f : Int) := by omega
                have hqI : (q : Int) < (s.spans.length : Int) := by omega
                have hq0 : (0 : Int) ≤ (q : Int) := by omega
                have hqs : (0 : Int) < (q : Int) + 1 := by omega
                have hw1 : IntKind.i64.wrap ((q : Int) + 1 - 1) = (q : Int) := by rw [IntKind.wrap_i64] <;> omega
                have hw2 : IntKind.i64.wrap (q : Int) = (q : Int) := by rw [IntKind.wrap_i64] <;> omega
                have HF : Hid _ := hf
                have HQ : Hid _ := hq
                clear hf hq hqi hcl hfz g0 g1 hbg
                cases hoe : opEq (evAt hs f).op (evAt hs j).op
                · have F : Hid _ := FAIL.out (stepS_other HT.out ht64 hr (by rw [HQ.out, Nat.add_sub_cancel, HF.out]; exact hoe))
                  go_wp2_with fail
                  go_quiet (fail)
                  go_wp2_with fail
                  go_ret2
                  refine ⟨_, by rw [F.out]; rfl, below_drewN (HB.out.alloc HB.out.size _) _, fun _ => rfl, fun h => ?_⟩
                  rw [F.out] at h; cases h
                · have HN : Hid _ := stN_next HS.out (stepS_back HT.out ht64 hr (by rw [HQ.out]; omega) (by rw [HQ.out, Nat.add_sub_cancel, HF.out]; exact hoe))
                  go_wp2_with fail
                  go_quiet (fail)
                  go_wp2_with fail
                  have B1 : Below w.heap.size w (wr.alloc (.cells #[.int .i64 t, .bool true, .int .i64 (evAt hs j).op.kind, .int .i64 (evAt hs j).op.key, .int .i64 (evAt hs j).op.val, .int .i64 (evAt hs j).op.hi, .bool (evAt hs j).rt.ok, .int .i64 (evAt hs j).rt.key, .int .i64 (evAt hs j).rt.val, .slice (pb j) (evAt hs j).rt.pairs.length (pc j)] 84)) := HB.out.alloc HB.out.size _
                  refine ⟨⟨j + 1, _, by omega, by go_num, HN.out, ((below_drewN B1 _).setCell (by simp; omega) _).setCell (by simp) _, by simp; omega, ?_, ?_⟩, by simp [intOf]; omega⟩
                  · have k2 : Ints ((wr.alloc (.cells #[.int .i64 t, .bool true, .int .i64 (evAt hs j).op.kind, .int .i64 (evAt hs j).op.key, .int .i64 (evAt hs j).op.val, .int .i64 (evAt hs j).op.hi, .bool (evAt hs j).rt.ok, .int .i64 (evAt hs j).rt.key, .int .i64 (evAt hs j).rt.val, .slice (pb j) (evAt hs j).rt.pairs.length (pc j)] 84)).drewN nq) w.heap.size 64 (fun t => s.beg t) := HI.out.below hsz (below_drewN (below_alloc _ _) _)
                    exact ints_upd (Ints.set (k2.apart g _ _ (by omega)) t 0 ht64)
                  · have o2 := owns_apart (owns_put (owns_below HO.out (below_drewN (below_alloc wr (.cells #[.int .i64 t, .bool true, .int .i64 (evAt hs j).op.kind, .int .i64 (evAt hs j).op.key, .int .i64 (evAt hs j).op.val, .int .i64 (evAt hs j).op.hi, .bool (evAt hs j).rt.ok, .int .i64 (evAt hs j).rt.key, .int .i64 (evAt hs j).rt.val, .slice (pb j) (evAt hs j).rt.pairs.length (pc j)] 84)) nq)) (q * 2 + 1) (.int .i64 j)) w.heap.size t (.int .i64 0) (by omega)
                    simp only [HQ.out, Nat.add_sub_cancel, List.length_set]
                    rw [spCells_set _ _ _ hql]
                    exact o2
      · obtain rfl : j = hs.length := by omega
        obtain ⟨e1, e2⟩ := hErr_ok hbn hst
        have E1 : Hid _ := e1
        have E2 : Hid _ := e2
        have HO : Hid (World.ownsRow _ _ _ _ _ _ _) := hown
        clear e1 e2 hown hst
        go_wp2
        go_ret2
        refine ⟨_, by rw [E1.out]; rfl, hbw, fun h => absurd E1.out h, fun _ => ?_⟩
        rw [E2.out]
        exact owns_down HO.out (by omega)
end Go.Proofs.YtcphajjonecmbaaDoor
