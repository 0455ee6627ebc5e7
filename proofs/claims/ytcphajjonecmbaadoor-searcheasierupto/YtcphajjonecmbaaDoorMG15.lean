/- Layer 6: the program's Run. -/
import Derived.Test.YtcphajjonecmbaaDoorMG14

namespace Go.Proofs.YtcphajjonecmbaaDoor

open Go.RowKit

/-- A 'make' of n elements whose zero is known by the program's table. -/
theorem run_make_knownM {P : Program} (t e : TypeId) (z : Value) (sz bytes : Nat) (ht : P.underlying t = some (.slice e)) (hinfo : (P.info? e).map (fun i => (i.zero, i.size, i.bytes)) = some (some z, sz, bytes)) (n : Nat) (hn : bytes * n ≤ 281474976710656) (h63 : n ≤ 9223372036854775807) (w : World) :
    (Instr.makeSlice t (.int .i64 (n : Int)) (.int .i64 (n : Int))).run P w = .ok (.slice (some ⟨w.heap.size, 0, none⟩) n n) (w.alloc (.cells (madeCells z.cells (n * sz)) e)) := by
  obtain ⟨i, hi, he⟩ := Option.map_eq_some_iff.1 hinfo
  simp only [Prod.mk.injEq] at he
  obtain ⟨h1, h2, h3⟩ := he
  subst h2 h3
  have hb : (i.bytes : Int) * (n : Int) ≤ 281474976710656 := by
    have h : ((i.bytes * n : Nat) : Int) ≤ 281474976710656 := by omega
    rwa [Int.natCast_mul] at h
  have h := run_make (P := P) w t e i z ht hi h1 .i64 .i64 (n : Int) (n : Int) (by omega) (Int.le_refl _) hb (by omega)
  simpa using h
theorem row_parts {w : World} {B : Nat} {v : Value} {ps : PL} (h : w.ownsRow B 93 2 v ps.length (pairCells ps)) (hl : ps.length ≤ maxLen) : ∃ base cap g, v = .slice base ps.length cap ∧ PairsAt w base g 0 ps ∧ NilOk base ps.length cap ∧ ps.length ≤ cap ∧ cap ≤ maxLen := by
  obtain ⟨base, cap, g, e, _, h2, hp⟩ := pairs_of_owns h hl
  refine ⟨base, cap, g, e, hp, h2, ?_⟩
  obtain ⟨_, h⟩ := h
  rcases h with ⟨rfl, h0⟩ | ⟨g', cap', cur, rfl, _, _, h3, h4, _⟩
  · simp only [Value.slice.injEq] at e; obtain ⟨_, _, rfl⟩ := e; exact ⟨by omega, Nat.zero_le _⟩
  · cases e; exact ⟨h3, h4⟩
theorem owns_else {w : World} {B sz : Nat} {e : TypeId} {v : Value} {n : Nat} {xs : List Value} (h : w.ownsRow B e sz v n xs) (b j : Nat) (u : Value) (hb : v.ownBlock ≠ some b) : (w.setCell ⟨b, j, none⟩ u).ownsRow B e sz v n xs := by
  obtain ⟨h0, h⟩ := h
  rcases h with h | ⟨g, cap, cur, rfl, hg, hh, h1, h2, h3, h4⟩
  · exact ⟨h0, Or.inl h⟩
  · have hne : b ≠ g := fun e => hb (by rw [e]; rfl)
    exact ⟨h0, Or.inr ⟨g, cap, cur, rfl, hg, by simp [World.setCell, Array.getElem?_modify, hne, hh], h1, h2, h3, h4⟩⟩
theorem owns_grown {w w' : World} {B sz : Nat} {e : TypeId} {v : Value} {n : Nat} {xs : List Value} {x : Option Nat} (h : w.ownsRow B e sz v n xs) (hg : w.grownBy w' x) (hx : ∀ k, v.ownBlock = some k → x ≠ some k) : w'.ownsRow B e sz v n xs := by
  obtain ⟨h0, h⟩ := h
  rcases h with h | ⟨g, cap, cur, rfl, hgB, hh, h1, h2, h3, h4⟩
  · exact ⟨h0, Or.inl h⟩
  · have hl : g < w.heap.size := (Array.getElem?_eq_some_iff.1 hh).1
    exact ⟨h0, Or.inr ⟨g, cap, cur, rfl, hgB, by rw [hg.block g hl (fun e => hx g rfl e.symm)]; exact hh, h1, h2, h3, h4⟩⟩
theorem owns_downM {w : World} {B B' sz : Nat} {e : TypeId} {v : Value} {n : Nat} {xs : List Value} (h : w.ownsRow B e sz v n xs) (hB : B' ≤ B) : w.ownsRow B' e sz v n xs := by
  obtain ⟨h0, h⟩ := h
  rcases h with h | ⟨g, cap, cur, hv, hg, r⟩
  · exact ⟨h0, Or.inl h⟩
  · exact ⟨h0, Or.inr ⟨g, cap, cur, hv, by omega, r⟩⟩
theorem RetsM.set {w : World} {B : Nat} {x : Option Nat} {rs : List RetD} {us : List Value} (h : RetsM w B x rs us) {g j : Nat} {u : Value} (hg : g < B) : RetsM (w.setCell ⟨g, j, none⟩ u) B x rs us := by
  refine ⟨h.len, fun i hi => ?_⟩
  obtain ⟨a, g', c, e, hp, hq⟩ := h.pairs i hi
  refine ⟨a, g', c, e, ?_, hq⟩
  by_cases hn : (retAt rs i).pairs.length = 0
  · exact ⟨fun q => absurd hn q, fun q => absurd hn q, fun i hi => by omega, hp.len, fun i hi => by omega⟩
  · exact hp.apartM' (by have := (hq hn).1; omega)
theorem set4_take (l : List Value) (k : Nat) (a b c d : Value) (h : k + 4 ≤ l.length) : ((((l.set k a).set (k + 1) b).set (k + 2) c).set (k + 3) d).take (k + 4) = l.take k ++ [a, b, c, d] := by
  apply List.ext_getElem?
  intro i
  by_cases hi : i < k
  · rw [List.getElem?_take, if_pos (by omega), List.getElem?_append_left (by simp; omega), List.getElem?_take, if_pos hi, List.getElem?_set_ne (by omega), List.getElem?_set_ne (by omega), List.getElem?_set_ne (by omega), List.getElem?_set_ne (by omega)]
  · by_cases h4 : i < k + 4
    · rw [List.getElem?_take, if_pos h4, List.getElem?_append_right (by simp; omega), List.length_take, Nat.min_eq_left (by omega)]
      have hc : i = k ∨ i = k + 1 ∨ i = k + 2 ∨ i = k + 3 := by omega
      rcases hc with rfl | rfl | rfl | rfl
      · rw [List.getElem?_set_ne (by omega), List.getElem?_set_ne (by omega), List.getElem?_set_ne (by omega), List.getElem?_set_self (by omega)]; simp
      · rw [List.getElem?_set_ne (by omega), List.getElem?_set_ne (by omega), List.getElem?_set_self (by simp; omega)]; simp
      · rw [List.getElem?_set_ne (by omega), List.getElem?_set_self (by simp; omega)]; simp
      · rw [List.getElem?_set_self (by simp; omega)]; simp
    · rw [List.getElem?_take, if_neg h4, List.getElem?_eq_none (by simp; omega)]
theorem run_bytes1 (ps : PL) (ops : List OpD) (j : Nat) (hby : (ps.length + ops.length + 2) * 48 ≤ 140737488355328) : (runL ps (ops.take j)).length * 16 ≤ 140737488355328 ∧ ((runL ps (ops.take j)).length + 1) * 16 ≤ 140737488355328 ∧ (runL ps (ops.take j)).length ≤ maxLen := by
  have h1 := runL_length (ops.take j) ps
  have h2 : (ops.take j).length ≤ ops.length := List.length_take_le' _ _
  have h3 : (runL ps (ops.take j)).length + 2 ≤ ps.length + ops.length + 2 := Nat.add_le_add_right (Nat.le_trans h1 (Nat.add_le_add_left h2 _)) 2
  have h4 : ((runL ps (ops.take j)).length + 2) * 48 ≤ 140737488355328 := Nat.le_trans (Nat.mul_le_mul_right 48 h3) hby
  clear h1 h2 h3 hby
  revert h4
  generalize (runL ps (ops.take j)).length = a
  intro h4
  unfold maxLen
  exact ⟨by omega, by omega, by omega⟩

theorem below4' {w wr : World} {B N : Nat} (h : Below B w wr) (hN : B ≤ N) (k : Nat) (v0 v1 v2 v3 : Value) : Below B w ((((wr.setCell ⟨N, k, none⟩ v0).setCell ⟨N, k + 1, none⟩ v1).setCell ⟨N, k + 2, none⟩ v2).setCell ⟨N, k + 3, none⟩ v3) :=
  (((h.setCell hN _).setCell hN _).setCell hN _).setCell hN _

/-- A nil slice among these has no room; so has one in a row of answers. -/
def NilU (us : List Value) : Prop := ∀ u ∈ us, ∀ a m c, u = .slice a m c → a = none → c = 0
theorem NilU.snoc {us : List Value} {a : Option Addr} {n c : Nat} (h : NilU us) (hz : a = none → c = 0) : NilU (us ++ [.slice a n c]) := by
  intro u hu a' m c' e hn
  rcases List.mem_append.1 hu with q | q
  · exact h u q a' m c' e hn
  · rw [List.mem_singleton.1 q] at e
    cases e
    exact hz hn
def NilZ (w : World) (g n : Nat) : Prop := ∀ i, i < n → ∀ a m c, w.cell? ⟨g, i * 4 + 3, none⟩ = some (.slice a m c) → a = none → c = 0
/-- The lists of these answers lie at or above block B. -/
def LowZ (w : World) (B g n : Nat) : Prop := ∀ i, i < n → ∀ a m c, w.cell? ⟨g, i * 4 + 3, none⟩ = some (.slice a m c) → m ≠ 0 → ∃ k p, a = some ⟨k, p, none⟩ ∧ B ≤ k
set_option maxRecDepth 100000 in
set_option maxHeartbeats 2000000 in
theorem pRunB_any (base : Option Addr) (b o c : Nat) (ps : PL) (ob : Option Addr) (bo oo co : Nat) (ops : List OpD) (w : World) (h : PairsAt w base b o ps) (hnil : NilOk base ps.length c) (hop : OpsAt w ob bo oo ops) (hby : (ps.length + ops.length + 2) * 48 ≤ 140737488355328) :
    Calls Tryd.prog 47 #[.slice base ps.length c, .slice ob ops.length co] w fun e w' => ∃ v1 a2 c2 g2, e = .returned (.tuple #[v1, .slice a2 (runRd ps ops).length c2, .int .i64 (runErr ps ops)]) ∧ Below w.heap.size w w' ∧ OwnPM w' w.heap.size (runLd ps ops) v1 ∧ RetsAtM w' a2 g2 0 (runRd ps ops) ∧ NilZ w' g2 (runRd ps ops).length ∧ LowZ w' w.heap.size g2 (runRd ps ops).length ∧ ((runRd ps ops).length ≠ 0 → w.heap.size ≤ g2) := by
  have HOP : Hid _ := hop
  have HA : Hid _ := h
  have HBY : Hid ((ps.length + ops.length + 2) * 48 ≤ 140737488355328) := hby
  have REF : Hid (Calls _ _ _ _ _) := refusal_any base b o c ps ob bo oo co ops w h hop
  have hlen : ops.length ≤ 9223372036854775807 := by have := hop.len; unfold maxLen at this; omega
  have CLO : Hid (∀ W, PairsAt W base b o ps → Calls Tryd.prog 77 #[.slice base ps.length c] W fun e w' => ∃ v, e = .returned v ∧ w'.ownsRow W.heap.size 93 2 v ps.length (pairCells ps) ∧ Below W.heap.size W w') := fun W hW => clone_own base b o c ps W hW hnil (by omega)
  have MK : ∀ w : World, (Instr.makeSlice 34 (.int .i64 ops.length) (.int .i64 ops.length)).run Tryd.prog w = .ok (.slice (some ⟨w.heap.size, 0, none⟩) ops.length ops.length) (w.alloc (.cells (madeCells #[.bool false, .int .i64 0, .int .i64 0, .slice none 0 0] (ops.length * 4)) 45)) := fun w => run_make_knownM (P := Tryd.prog) 34 45 (.agg #[.bool false, .int .i64 0, .int .i64 0, .slice none 0 0]) 4 48 rts_under rt_info ops.length (by omega) hlen w
  clear h hnil hop hby
  by_cases he : runErr ps ops = 0
  · have hck : ckErr ps = 0 := by
      rcases ckErr_cases ps with q | q
      · exact q
      · unfold runErr at he; rw [if_neg (by rw [q]; omega)] at he; cases he
    have hkn : kN ops ops.length = true := by
      unfold runErr at he; rw [if_pos hck] at he; unfold kErr at he
      by_cases q : kN ops ops.length = true
      · exact q
      · rw [if_neg q] at he; cases he
    have HSR : Hid (∀ j, Srt (runL ps (ops.take j))) := fun j => runL_srt (ops.take j) (ckErr_zero.1 hck)
    have HK : Hid _ := hkn
    have EL : runLd ps ops = runL ps ops := by unfold runLd; rw [if_pos he]
    have ER : runRd ps ops = runR ps ops := by unfold runRd; rw [if_pos he]
    rw [he] at REF
    rw [he, EL, ER]
    clear he EL ER hck hkn
    go_enter Tryd.func47, Tryd.ntmps47
    go_wp2_with fail
    refine REF.out.mono ?_
    rintro e w1 ⟨rfl, hb1⟩
    have HB1 : Hid _ := hb1
    clear hb1
    go_wp2_with fail
    refine (CLO.out _ (HA.out.below HB1.out)).mono ?_
    rintro e w2 ⟨v2, rfl, ho2, hb2⟩
    have zz1 := HB1.out.size
    have zz2 := hb2.size
    have HB2 : Hid (Below w.heap.size w w2) := HB1.out.trans (hb2.mono zz1)
    have HO2 : Hid (World.ownsRow _ _ _ _ _ _ _) := ho2
    have hbk2 : ∀ k, v2.ownBlock = some k → k < w2.heap.size := fun k hk => (owns_ltM ho2 k hk).2
    have HBK2 : Hid _ := hbk2
    clear ho2 hb2 hbk2
    obtain ⟨W3, hW3⟩ : ∃ W3, W3 = w2.alloc (.cells (madeCells #[.bool false, .int .i64 0, .int .i64 0, .slice none 0 0] (ops.length * 4)) 45) := ⟨_, rfl⟩
    have B3 : Hid (Below w.heap.size w W3) := by show Below w.heap.size w W3; rw [hW3]; exact HB2.out.alloc (by omega) _
    have O3 : Hid (W3.ownsRow w.heap.size 93 2 v2 ps.length (pairCells ps)) := owns_downM (owns_belowM HO2.out (by rw [hW3]; exact below_allocM _ _)) zz1
    obtain ⟨gr, hgr⟩ : ∃ gr, gr = w2.heap.size := ⟨_, rfl⟩
    have zgr : gr < W3.heap.size := by rw [hW3, hgr]; simp
    have zgw : w.heap.size ≤ gr := by omega
    have R3 : Hid (W3.ownsRow w.heap.size 45 4 (.slice (some ⟨gr, 0, none⟩) ops.length ops.length) ops.length (madeCells #[.bool false, .int .i64 0, .int .i64 0, .slice none 0 0] (ops.length * 4)).toList) := by
      refine ⟨by simp [size_madeCells], Or.inr ⟨gr, ops.length, madeCells #[.bool false, .int .i64 0, .int .i64 0, .slice none 0 0] (ops.length * 4), rfl, zgw, by rw [hW3, hgr]; exact heap_alloc_at _ _ _ rfl, Nat.le_refl _, by unfold maxLen; omega, size_madeCells _ _, List.take_of_length_le (by simp [size_madeCells])⟩⟩
    have N3 : Hid (v2.ownBlock ≠ some gr) := fun e => by have := HBK2.out gr e; omega
    clear HO2 HB2 HBK2
    go_wp2_with fail
    rw [← hW3, ← hgr]
    clear hW3 hgr
    go_loopw [8, 25] (fun v i wr => ∃ (j : Nat) (us xs : List Value), j ≤ ops.length ∧ i = .int .i64 j ∧ Below w.heap.size w wr ∧ gr < wr.heap.size ∧ wr.ownsRow w.heap.size 93 2 v (runL ps (ops.take j)).length (pairCells (runL ps (ops.take j))) ∧ v.ownBlock ≠ some gr ∧ RetsM wr (gr + 1) v.ownBlock (runR ps (ops.take j)) us ∧ wr.ownsRow w.heap.size 45 4 (.slice (some ⟨gr, 0, none⟩) ops.length ops.length) ops.length xs ∧ xs.take (j * 4) = retsC (runR ps (ops.take j)) us ∧ NilU us) (fun _ i _ => ops.length - (intOf i).toNat)
    case atStart => exact ⟨0, [], _, Nat.zero_le _, rfl, B3.out, zgr, O3.out, N3.out, ⟨rfl, fun i hi => by simp [runR] at hi⟩, R3.out, by simp [runR, retsC], fun u hu => by cases hu⟩
    case round =>
      obtain ⟨j, us, xs, hj, rfl, hbw, hgw, hov, hne, hrm, hor, hxs, hnu⟩ := hrel
      have HNU : Hid (NilU us) := hnu
      obtain ⟨y1, y2, y3⟩ := run_bytes1 ps ops j HBY.out
      obtain ⟨bn, cn, gn, rfl, hpn, hnn, hcn, hcm⟩ := row_parts hov y3
      have HB : Hid (Below _ _ _) := hbw
      have HO : Hid (World.ownsRow _ _ _ _ _ _ _) := hov
      have HNE : Hid _ := hne
      have HRM : Hid (RetsM _ _ _ _ _) := hrm
      have HR : Hid (World.ownsRow _ _ _ _ _ _ _) := hor
      have HXS : Hid _ := hxs
      have HPN : Hid (PairsAt _ _ _ _ _) := hpn
      have HN2 : Hid (NilOk bn (runL ps (ops.take j)).length cn ∧ (runL ps (ops.take j)).length ≤ cn ∧ cn ≤ maxLen) := ⟨hnn, hcn, hcm⟩
      have HY : Hid ((runL ps (ops.take j)).length * 16 ≤ 140737488355328 ∧ ((runL ps (ops.take j)).length + 1) * 16 ≤ 140737488355328) := ⟨y1, y2⟩
      have s2 := hbw.size
      clear hbw hov hne hrm hor hxs hnu hpn hnn hcn hcm y1 y2 y3
      by_cases hlt : j < ops.length
      · obtain rfl : ob = some ⟨bo, oo, none⟩ := HOP.out.base (by omega)
        obtain ⟨c0, c1, c2, c3⟩ := (HOP.out.below HB.out).cells j hlt
        have j0 : (0 : Int) ≤ (j : Int) := Int.natCast_nonneg _
        have j1 : (j : Int) < (ops.length : Int) := by omega
        obtain ⟨L, hL⟩ : ∃ L, stepL (runL ps (ops.take j)) (opAt ops j) = L := ⟨_, rfl⟩
        obtain ⟨r, hr⟩ : ∃ r, stepR (runL ps (ops.take j)) (opAt ops j) = r := ⟨_, rfl⟩
        have NL : Hid (runL ps (ops.take (j + 1)) = L) := by show runL ps (ops.take (j + 1)) = L; rw [op_take _ hlt, runL_next]; exact hL
        have NR : Hid (runR ps (ops.take (j + 1)) = runR ps (ops.take j) ++ [r]) := by show runR ps (ops.take (j + 1)) = _; rw [op_take _ hlt, runR_next]; rw [hr]
        obtain ⟨W4, hW4⟩ : ∃ W4, W4 = wr.alloc (.cells #[.int .i64 (opAt ops j).kind, .int .i64 (opAt ops j).key, .int .i64 (opAt ops j).val, .int .i64 (opAt ops j).hi] 43) := ⟨_, rfl⟩
        have b4 : Below wr.heap.size wr W4 := by rw [hW4]; exact below_allocM _ _
        have z4 : wr.heap.size < W4.heap.size := by rw [hW4]; simp
        have OC : Hid (∀ k, W4.cell? ⟨wr.heap.size, k, none⟩ = (#[.int .i64 (opAt ops j).kind, .int .i64 (opAt ops j).key, .int .i64 (opAt ops j).val, .int .i64 (opAt ops j).hi] : Array Value)[k]?) := fun k => by rw [hW4]; exact cell_newM wr _ _ k
        have B4 : Hid (Below wr.heap.size wr W4) := b4
        have ANS : Hid (AnsP bn cn (runL ps (ops.take j)) (opAt ops j) W4) := ans_any bn gn 0 cn (runL ps (ops.take j)) (opAt ops j) W4 (HPN.out.below b4) (HSR.out j) HN2.out.1 HN2.out.2.1 HN2.out.2.2 HY.out.1 (kN_at HK.out hlt)
        unfold AnsP at ANS
        rw [hr] at ANS
        have CHG : Hid (∀ (W : World), W.ownsRow w.heap.size 93 2 (.slice bn (runL ps (ops.take j)).length cn) (runL ps (ops.take j)).length (pairCells (runL ps (ops.take j))) → w.heap.size ≤ W.heap.size → Calls Tryd.prog 86 #[.slice bn (runL ps (ops.take j)).length cn, .agg #[.int .i64 (opAt ops j).kind, .int .i64 (opAt ops j).key, .int .i64 (opAt ops j).val, .int .i64 (opAt ops j).hi]] W (InsP W w.heap.size (.slice bn (runL ps (ops.take j)).length cn) L)) := fun W hO hB => by
          rw [← hL]
          exact chg_any (opAt ops j) hO (HSR.out j) HY.out.2 hB
        clear hL hr b4
        go_wp2_with fail
        rw [← hW4]
        clear hW4
        refine ANS.out.mono ?_
        rintro e w5 ⟨a5, n5, k5, rfl, hb5, ho5⟩
        obtain ⟨rfl, _⟩ := ho5.pairs
        have Z5 : Hid (a5 = none → k5 = 0) := by obtain ⟨_, _, _, hv, _, _, hz⟩ := ho5; cases hv; exact hz
        have z5 := hb5.size
        have B5 : Hid (Below wr.heap.size wr w5) := B4.out.trans (hb5.mono (by omega))
        have P5 : Hid (OwnPM w5 W4.heap.size r.pairs (.slice a5 r.pairs.length k5)) := ho5
        have x0 : w5.cell? ⟨wr.heap.size, 0, none⟩ = some (.int .i64 (opAt ops j).kind) := (hb5.cell (p := ⟨wr.heap.size, 0, none⟩) z4).trans (OC.out 0)
        have x1 : w5.cell? ⟨wr.heap.size, 1, none⟩ = some (.int .i64 (opAt ops j).key) := (hb5.cell (p := ⟨wr.heap.size, 1, none⟩) z4).trans (OC.out 1)
        have x2 : w5.cell? ⟨wr.heap.size, 2, none⟩ = some (.int .i64 (opAt ops j).val) := (hb5.cell (p := ⟨wr.heap.size, 2, none⟩) z4).trans (OC.out 2)
        have x3 : w5.cell? ⟨wr.heap.size, 3, none⟩ = some (.int .i64 (opAt ops j).hi) := (hb5.cell (p := ⟨wr.heap.size, 3, none⟩) z4).trans (OC.out 3)
        have R5 : Hid (w5.ownsRow w.heap.size 45 4 (.slice (some ⟨gr, 0, none⟩) ops.length ops.length) ops.length xs) := owns_belowM HR.out B5.out
        have hxl : xs.length = ops.length * 4 := HR.out.1
        obtain ⟨g', cap', hv', _, _, _, _, hcs, hfz⟩ := owns_someM R5.out (by omega)
        have hgg : gr = g' := by injection hv' with e1 e2 e3; injection e1 with e4; exact congrArg Addr.block e4
        clear hv'
        subst hgg
        have ex : ∀ k, k < 4 → ∃ u, w5.cell? ⟨gr, j * 4 + k, none⟩ = some u := fun k hk => by
          rw [hcs _ (by omega)]
          exact ⟨_, List.getElem?_eq_getElem (by omega)⟩
        obtain ⟨u0, d0⟩ := ex 0 (by omega)
        obtain ⟨u1, d1⟩ := ex 1 (by omega)
        obtain ⟨u2, d2⟩ := ex 2 (by omega)
        obtain ⟨u3, d3⟩ := ex 3 (by omega)
        rw [Nat.add_zero] at d0
        have fz : ∀ k, w5.frozen? ⟨gr, k, none⟩ = false := hfz
        have hgr5 : gr < w5.heap.size := by omega
        have h5w : wr.heap.size < w5.heap.size := by omega
        have O6 : Hid (((((w5.setCell ⟨gr, j * 4, none⟩ (.bool r.ok)).setCell ⟨gr, j * 4 + 1, none⟩ (.int .i64 r.key)).setCell ⟨gr, j * 4 + 2, none⟩ (.int .i64 r.val)).setCell ⟨gr, j * 4 + 3, none⟩ (.slice a5 r.pairs.length k5)).ownsRow w.heap.size 93 2 (.slice bn (runL ps (ops.take j)).length cn) (runL ps (ops.take j)).length (pairCells (runL ps (ops.take j)))) := owns_else (owns_else (owns_else (owns_else (owns_belowM HO.out B5.out) _ _ _ HNE.out) _ _ _ HNE.out) _ _ _ HNE.out) _ _ _ HNE.out
        have R6 : Hid (((((w5.setCell ⟨gr, j * 4, none⟩ (.bool r.ok)).setCell ⟨gr, j * 4 + 1, none⟩ (.int .i64 r.key)).setCell ⟨gr, j * 4 + 2, none⟩ (.int .i64 r.val)).setCell ⟨gr, j * 4 + 3, none⟩ (.slice a5 r.pairs.length k5)).ownsRow w.heap.size 45 4 (.slice (some ⟨gr, 0, none⟩) ops.length ops.length) ops.length ((((xs.set (j * 4) (.bool r.ok)).set (j * 4 + 1) (.int .i64 r.key)).set (j * 4 + 2) (.int .i64 r.val)).set (j * 4 + 3) (.slice a5 r.pairs.length k5))) := owns_putM (owns_putM (owns_putM (owns_putM R5.out _ _) _ _) _ _) _ _
        have M6 : Hid (RetsM ((((w5.setCell ⟨gr, j * 4, none⟩ (.bool r.ok)).setCell ⟨gr, j * 4 + 1, none⟩ (.int .i64 r.key)).setCell ⟨gr, j * 4 + 2, none⟩ (.int .i64 r.val)).setCell ⟨gr, j * 4 + 3, none⟩ (.slice a5 r.pairs.length k5)) (gr + 1) (Value.slice bn (runL ps (ops.take j)).length cn).ownBlock (runR ps (ops.take j)) us) := ((((HRM.out.below B5.out).set (by omega)).set (by omega)).set (by omega)).set (by omega)
        have P6 : Hid (OwnPM ((((w5.setCell ⟨gr, j * 4, none⟩ (.bool r.ok)).setCell ⟨gr, j * 4 + 1, none⟩ (.int .i64 r.key)).setCell ⟨gr, j * 4 + 2, none⟩ (.int .i64 r.val)).setCell ⟨gr, j * 4 + 3, none⟩ (.slice a5 r.pairs.length k5)) W4.heap.size r.pairs (.slice a5 r.pairs.length k5)) := (((P5.out.set (by omega)).set (by omega)).set (by omega)).set (by omega)
        have B6 : Hid (Below w.heap.size w ((((w5.setCell ⟨gr, j * 4, none⟩ (.bool r.ok)).setCell ⟨gr, j * 4 + 1, none⟩ (.int .i64 r.key)).setCell ⟨gr, j * 4 + 2, none⟩ (.int .i64 r.val)).setCell ⟨gr, j * 4 + 3, none⟩ (.slice a5 r.pairs.length k5))) := below4' (HB.out.trans (B5.out.mono s2)) zgw _ _ _ _ _
        clear hcs hfz ex hb5 ho5 c0 c1 c2 c3
        go_wp2_with fail
        refine (CHG.out _ O6.out (by simp; omega)).mono ?_
        rintro e w7 ⟨v7, rfl, ho7, hg7, hk7⟩
        have H7 : Hid (World.ownsRow _ _ _ _ _ _ _) := ho7
        have G7 : Hid (World.grownBy _ _ _) := hg7
        have K7 : Hid _ := hk7
        have z7 := hg7.size
        simp only [World.size_setCell] at z7
        clear ho7 hg7 hk7
        go_wp2_with fail
        have hne7 : v7.ownBlock ≠ some gr := fun e => by
          rcases K7.out gr e with q | q
          · exact HNE.out q
          · simp at q; omega
        refine ⟨⟨j + 1, us ++ [.slice a5 r.pairs.length k5], _, by omega, by go_num, Below.grown B6.out G7.out (by simp; omega) (owns_ge HO.out), by omega, by rw [NL.out]; exact H7.out, hne7, by rw [NR.out]; exact M6.out.snoc G7.out K7.out P6.out (by omega) (fun k hk => by have := (owns_ltM HO.out k hk).2; omega), owns_grown R6.out G7.out (fun k hk e => by cases hk; exact HNE.out e), ?_, HNU.out.snoc Z5.out⟩, by simp [intOf]; omega⟩
        rw [NR.out, retsC_snoc _ _ _ _ HRM.out.len, ← HXS.out, show (j + 1) * 4 = j * 4 + 4 by omega, set4_take _ _ _ _ _ _ (by omega)]
        rfl
      · have hje : j = ops.length := by omega
        have LR : (runR ps ops).length = ops.length := runR_length _ _
        have EQ : Hid (ops.take j = ops) := by show ops.take j = ops; rw [hje, List.take_length]
        have ON2 : Hid (OwnPM wr w.heap.size (runL ps ops) (.slice bn (runL ps (ops.take j)).length cn)) := by
          have e : runL ps ops = runL ps (ops.take j) := by rw [EQ.out]
          show OwnPM _ _ _ _
          rw [e]; exact own_of_row HO.out (run_bytes1 ps ops j HBY.out).2.2
        have HR2 := HR.out
        have HM2 := HRM.out
        have hxl : xs.length = ops.length * 4 := HR.out.1
        have hx2 : xs = retsC (runR ps ops) us := by
          have := HXS.out
          rw [EQ.out, List.take_of_length_le (by omega)] at this
          exact this
        rw [EQ.out] at HM2
        rw [hx2] at HR2
        have HNZ : Hid (NilZ wr gr (runR ps ops).length) := by
          intro i hi a m c hcell hn
          have HQ := HR2
          rw [← LR] at HQ
          obtain ⟨_, hq⟩ := HQ
          rcases hq with ⟨hq, _⟩ | ⟨g', cap', cur, hq, -, hh, -, -, -, h4⟩
          · cases hq
          · cases hq
            have hc : wr.cell? ⟨gr, i * 4 + 3, none⟩ = (retsC (runR ps ops) us)[i * 4 + 3]? := by
              rw [← h4, List.getElem?_take, if_pos (by omega)]
              simp [World.cell?, hh]
            obtain ⟨-, -, -, d⟩ := retsC_get (runR ps ops) us i HM2.len hi
            rw [hc, d] at hcell
            exact HNU.out _ (List.mem_of_getElem? hcell) a m c rfl hn
        have HLZ : Hid (LowZ wr w.heap.size gr (runR ps ops).length) := by
          intro i hi a m c hcell hm
          have HQ := HR2
          rw [← LR] at HQ
          obtain ⟨_, hq⟩ := HQ
          rcases hq with ⟨hq, _⟩ | ⟨g', cap', cur, hq, -, hh, -, -, -, h4⟩
          · cases hq
          · cases hq
            have hc : wr.cell? ⟨gr, i * 4 + 3, none⟩ = (retsC (runR ps ops) us)[i * 4 + 3]? := by
              rw [← h4, List.getElem?_take, if_pos (by omega)]
              simp [World.cell?, hh]
            obtain ⟨-, -, -, d⟩ := retsC_get (runR ps ops) us i HM2.len hi
            rw [hc, d] at hcell
            obtain ⟨a', g', c', e, hp, hq⟩ := HM2.pairs i hi
            rw [e] at hcell
            simp only [Option.some.injEq, Value.slice.injEq] at hcell
            obtain ⟨rfl, rfl, rfl⟩ := hcell
            exact ⟨g', 0, hp.base hm, by have := (hq hm).1; omega⟩
        have HR3 : wr.ownsRow w.heap.size 45 4 (.slice (some ⟨gr, 0, none⟩) ops.length ops.length) (runR ps ops).length (retsC (runR ps ops) us) := by rw [LR]; exact HR2
        have HM3 : RetsM wr w.heap.size none (runR ps ops) us := ⟨HM2.len, fun i hi => by obtain ⟨a, g, c, e, hp, hq⟩ := HM2.pairs i hi; exact ⟨a, g, c, e, hp, fun q => ⟨by have := (hq q).1; omega, by simp⟩⟩⟩
        obtain ⟨ra, rc, rg, hv, hrt⟩ := rets_of_owns HR3 HM3 (by rw [LR]; exact HOP.out.len)
        have HRT : Hid (RetsAtM _ _ _ _ _) := hrt
        have HV : Hid (Value.slice (some ⟨gr, 0, none⟩) ops.length ops.length = .slice ra (runR ps ops).length rc) := hv
        clear HR2 HM2 HR3 HM3 hrt hv hje LR hx2 hxl
        go_wp2_with fail
        go_ret3
        have key : (runR ps ops).length ≠ 0 → gr = rg := fun hn => by
          have hb := HRT.out.base hn
          have hv := HV.out
          injection hv with hv _ _
          rw [hb] at hv
          injection hv with hv
          injection hv with hv _ _
        refine ⟨_, ra, rc, rg, by rw [← HV.out]; rfl, HB.out, ON2.out, HRT.out, fun i hi => ?_, fun i hi => ?_, fun hn => ?_⟩
        · rw [← key (by omega)]; exact HNZ.out i hi
        · rw [← key (by omega)]; exact HLZ.out i hi
        · rw [← key hn]; omega
  · have EL : runLd ps ops = [] := by unfold runLd; rw [if_neg he]
    have ER : runRd ps ops = [] := by unfold runRd; rw [if_neg he]
    rw [EL, ER]
    have q1 : (runErr ps ops != 0) = true := by simp [he]
    obtain ⟨E, hE⟩ : ∃ E, E = runErr ps ops := ⟨_, rfl⟩
    rw [← hE] at REF q1 ⊢
    clear he hE EL ER MK
    go_enter Tryd.func47, Tryd.ntmps47
    go_wp2_with fail
    refine REF.out.mono ?_
    rintro e w1 ⟨rfl, hb1⟩
    go_wp2_with fail
    go_ret3
    exact ⟨_, none, 0, 0, rfl, hb1, OwnPM.nil _ _, RetsAtM.nil _, (fun i hi => by simp at hi), (fun i hi => by simp at hi), fun q => absurd rfl q⟩
theorem pRunZ_any (base : Option Addr) (b o c : Nat) (ps : PL) (ob : Option Addr) (bo oo co : Nat) (ops : List OpD) (w : World) (h : PairsAt w base b o ps) (hnil : NilOk base ps.length c) (hop : OpsAt w ob bo oo ops) (hby : (ps.length + ops.length + 2) * 48 ≤ 140737488355328) :
    Calls Tryd.prog 47 #[.slice base ps.length c, .slice ob ops.length co] w fun e w' => ∃ v1 a2 c2 g2, e = .returned (.tuple #[v1, .slice a2 (runRd ps ops).length c2, .int .i64 (runErr ps ops)]) ∧ Below w.heap.size w w' ∧ OwnPM w' w.heap.size (runLd ps ops) v1 ∧ RetsAtM w' a2 g2 0 (runRd ps ops) ∧ NilZ w' g2 (runRd ps ops).length :=
  (pRunB_any base b o c ps ob bo oo co ops w h hnil hop hby).mono (by
    rintro e w' ⟨v1, a2, c2, g2, h1, h2, h3, h4, h5, -, -⟩
    exact ⟨v1, a2, c2, g2, h1, h2, h3, h4, h5⟩)
theorem pRun_any (base : Option Addr) (b o c : Nat) (ps : PL) (ob : Option Addr) (bo oo co : Nat) (ops : List OpD) (w : World) (h : PairsAt w base b o ps) (hnil : NilOk base ps.length c) (hop : OpsAt w ob bo oo ops) (hby : (ps.length + ops.length + 2) * 48 ≤ 140737488355328) :
    Calls Tryd.prog 47 #[.slice base ps.length c, .slice ob ops.length co] w fun e w' => ∃ v1 a2 c2 g2, e = .returned (.tuple #[v1, .slice a2 (runRd ps ops).length c2, .int .i64 (runErr ps ops)]) ∧ Below w.heap.size w w' ∧ OwnPM w' w.heap.size (runLd ps ops) v1 ∧ RetsAtM w' a2 g2 0 (runRd ps ops) :=
  (pRunZ_any base b o c ps ob bo oo co ops w h hnil hop hby).mono (by
    rintro e w' ⟨v1, a2, c2, g2, h1, h2, h3, h4, -⟩
    exact ⟨v1, a2, c2, g2, h1, h2, h3, h4⟩)
end Go.Proofs.YtcphajjonecmbaaDoor
