/- Layer 6: the reference's Of, Find and Part. Layer 6: Changes and Plain, the program's and the reference's. Layer 6: the program's Find. Layer 6: the program's Part. -/
import Derived.Test.YtjpfgfcggekklaaMR3
import Derived.Test.YtjpfgfcggekklaaMR4
import Derived.Test.YtjpfgfcggekklaaMQuiet
import Derived.Deep.RegionHeld3
import Derived.Test.YtjpfgfcggekklaaMG1
import Derived.Test.YtjpfgfcggekklaaMR1
import Derived.Test.YtjpfgfcggekklaaMG2
import Derived.Test.YtjpfgfcggekklaaMG4
namespace Go.Proofs.Ytjpfgfcggekklaa
open Go.RowKit

theorem owns_dn {w : World} {B B' sz : Nat} {e : TypeId} {v : Value} {n : Nat} {xs : List Value} (h : w.ownsRow B e sz v n xs) (hB : B' ≤ B) : w.ownsRow B' e sz v n xs := by
  obtain ⟨h0, h⟩ := h
  rcases h with h | ⟨g, cap, cur, hv, hg, r⟩
  · exact ⟨h0, Or.inl h⟩
  · exact ⟨h0, Or.inr ⟨g, cap, cur, hv, by omega, r⟩⟩
theorem pairs_drew {w : World} {base : Option Addr} {b o : Nat} {ps : PL} (h : PairsAt w base b o ps) : PairsAt w.drew base b o ps := ⟨h.base, h.lt, h.cells, h.len⟩
theorem below_drew1 {B : Nat} {w w' : World} (h : Below B w w') : Below B w w'.drew := ⟨h.os, h.tape, h.output, h.size, h.block⟩
set_option maxRecDepth 100000 in
set_option maxHeartbeats 1000000 in
theorem rOf_any (base : Option Addr) (b o c : Nat) (ps : PL) (w : World) (h : PairsAt w base b o ps) (hn : ps.length ≤ 1000000) :
    Calls Try.prog 21 #[.slice base ps.length c] w fun e w' => ∃ v, e = .returned v ∧ Below w.heap.size w w' ∧ w'.ownsRow w.heap.size 59 2 v (ofL ps).length (pairCells (ofL ps)) := by
  have HA : Hid _ := h
  clear h
  go_enter Try.func21, Try.ntmps21
  go_wp2_with fail
  go_loopw [3, 4] (fun v i wr => ∃ j : Nat, j ≤ ps.length ∧ i = .int .i64 j ∧ Below w.heap.size w wr ∧ wr.ownsRow w.heap.size 59 2 v (ofN ps j).length (pairCells (ofN ps j))) (fun _ i _ => ps.length - (intOf i).toNat)
  case atStart => exact ⟨0, Nat.zero_le _, rfl, Below.refl _ _, World.ownsRow_nil _ _ _ _⟩
  case round =>
    obtain ⟨j, hj, rfl, hbw, hown⟩ := hrel
    have hle := ofN_length ps j
    obtain ⟨a1, k1, g1, rfl, _, _, hp1⟩ := pairs_of_owns hown (by unfold maxLen; omega)
    have HW : Hid _ := hbw
    have HO : Hid (World.ownsRow _ _ _ _ _ _ _) := hown
    have HP : Hid _ := hp1
    clear hown hp1
    by_cases hlt : j < ps.length
    · obtain rfl : base = some ⟨b, o, none⟩ := HA.out.base (by omega)
      have zb : b < wr.heap.size := (HA.out.below hbw).lt (by omega)
      obtain ⟨c0, c1⟩ := (HA.out.below hbw).cells j hlt
      have j0 : (0 : Int) ≤ (j : Int) := Int.natCast_nonneg _
      have j1 : (j : Int) < (ps.length : Int) := by omega
      have y0 := BelowBy.cell zb c0
      have y1 := BelowBy.cell zb c1
      have HN : Hid (withL (ofN ps j) (keyAt ps j) (valAt ps j) false = ofN ps (j + 1)) := by
        show _ = _
        rw [withL_put _ _ _ (ofN_srt ps j)]
        rfl
      have zw := hbw.size
      have HC : Hid (∀ W : World, PairsAt W a1 g1 0 (ofN ps j) → Calls Try.prog 50 #[.slice a1 (ofN ps j).length k1, .int .i64 (keyAt ps j), .int .i64 (valAt ps j), .bool false] W fun e w' => ∃ v, e = .returned v ∧ Below W.heap.size W w' ∧ w'.ownsRow W.heap.size 59 2 v (ofN ps (j + 1)).length (pairCells (ofN ps (j + 1)))) := fun W hW => by
        rw [← HN.out]
        exact with_any a1 g1 0 k1 (ofN ps j) (keyAt ps j) (valAt ps j) false W hW (by omega)
      clear hbw y0 y1
      go_wp2_with fail
      go_region_held3 (fun w' => w'.cell? ⟨b, o + j * 2, none⟩ = some (.int .i64 (keyAt ps j)) ∧ w'.cell? ⟨b, o + j * 2 + 1, none⟩ = some (.int .i64 (valAt ps j)))
        (first | exact ⟨(hb2.cell (p := ⟨b, o + j * 2, none⟩) zb).trans c0, (hb2.cell (p := ⟨b, o + j * 2 + 1, none⟩) zb).trans c1⟩ | go_keep)
        (first | (go_at_call 50; refine (HC.out _ ?_).mono ?_; (focus (exact pairs_drew HP.out)); rintro e w2 ⟨v2, rfl, hb2, ho2⟩))
      have B2 : Hid (Below w.heap.size w w2) := (below_drew1 HW.out).trans (hb2.mono HW.out.size)
      have O2 : Hid (World.ownsRow _ _ _ _ _ _ _) := owns_dn ho2 (B' := w.heap.size) HW.out.size
      clear hb2 ho2
      go_wp2_with fail
      exact ⟨⟨j + 1, by omega, by go_num, B2.out, O2.out⟩, by simp [intOf]; omega⟩
    · obtain rfl : j = ps.length := by omega
      clear hbw
      go_wp2_with fail
      go_ret
      exact ⟨_, rfl, HW.out, HO.out⟩

def partL (ps : PL) (lo hi : Int) : PL := if ckErr ps ≠ 0 then [] else inL lo hi ps
set_option maxRecDepth 100000 in
set_option maxHeartbeats 1000000 in
theorem rPart_any (base : Option Addr) (b o c : Nat) (ps : PL) (lo hi : Int) (w : World) (h : PairsAt w base b o ps) (hby : ps.length * 16 ≤ 140737488355328) :
    Calls Try.prog 25 #[.slice base ps.length c, .int .i64 lo, .int .i64 hi] w fun e w' => ∃ v, e = .returned (.tuple #[v, .int .i64 (ckErr ps)]) ∧ Below w.heap.size w w' ∧ w'.ownsRow w.heap.size 59 2 v (partL ps lo hi).length (pairCells (partL ps lo hi)) := by
  have HA : Hid _ := h
  clear h
  by_cases he : ckErr ps = 0
  · have hn : (ckErr ps != 0) = false := by simp [he]
    have F : Hid (partL ps lo hi = inL lo hi ps) := by show _ = _; unfold partL; rw [if_neg (fun q => q he)]
    have HE : Hid _ := he
    clear he
    go_enter Try.func25, Try.ntmps25
    go_wp2_with fail
    refine (rcheck_any base b o c ps _ HA.out).mono ?_
    rintro e w1 ⟨rfl, hb⟩
    have B1 : Hid _ := hb
    clear hb
    go_wp2_with fail
    refine (inside_any base b o c ps lo hi _ (HA.out.below B1.out) hby).mono ?_
    rintro e w2 ⟨v, rfl, hb, ho⟩
    have B2 : Hid (Below w.heap.size w w2) := B1.out.trans (hb.mono B1.out.size)
    have O2 : Hid (World.ownsRow _ _ _ _ _ _ _) := owns_dn ho (B' := w.heap.size) B1.out.size
    clear hb ho
    go_wp2_with fail
    go_ret2
    rw [F.out, HE.out]
    exact ⟨v, rfl, B2.out, O2.out⟩
  · have hn : (ckErr ps != 0) = true := by simp [he]
    have F : Hid (partL ps lo hi = [] ∧ ckErr ps = 11) := by
      refine ⟨by unfold partL; rw [if_pos he], ?_⟩
      unfold ckErr at he ⊢
      split
      · rename_i q; rw [if_pos q] at he; exact absurd rfl he
      · rfl
    clear he
    go_enter Try.func25, Try.ntmps25
    go_wp2_with fail
    refine (rcheck_any base b o c ps _ HA.out).mono ?_
    rintro e w1 ⟨rfl, hb⟩
    have B1 : Hid _ := hb
    clear hb
    go_wp2_with fail
    go_ret2
    rw [F.out.1, F.out.2]
    exact ⟨_, rfl, B1.out, World.ownsRow_nil _ _ _ _⟩

theorem pos_next (key : Int) (ps : PL) {j : Nat} (hj : j < ps.length) : posL key (ps.take (j + 1)) = if keyAt ps j < key then posL key (ps.take j) + 1 else posL key (ps.take j) := by
  unfold posL
  rw [take_next ps hj, List.filter_append, List.length_append]
  by_cases h : keyAt ps j < key
  · rw [if_pos h, List.filter_cons_of_pos (by simp [h])]; rfl
  · rw [if_neg h, List.filter_cons_of_neg (by simp [h])]; rfl
def findN (ps : PL) (key : Int) : Int := if ckErr ps ≠ 0 then 0 else posL key ps
def findB (ps : PL) (key : Int) : Bool := if ckErr ps ≠ 0 then false else (getK key ps).isSome
set_option maxRecDepth 100000 in
set_option maxHeartbeats 1000000 in
theorem rFind_any (base : Option Addr) (b o c : Nat) (ps : PL) (key : Int) (w : World) (h : PairsAt w base b o ps) :
    Calls Try.prog 23 #[.slice base ps.length c, .int .i64 key] w fun e w' => e = .returned (.tuple #[.int .i64 (findN ps key), .bool (findB ps key), .int .i64 (ckErr ps)]) ∧ Below w.heap.size w w' := by
  have HA : Hid _ := h
  have lx := h.len
  unfold maxLen at lx
  clear h
  by_cases he : ckErr ps = 0
  · have hn : (ckErr ps != 0) = false := by simp [he]
    have F : Hid (findN ps key = posL key ps ∧ findB ps key = (getK key ps).isSome) := by unfold findN findB; rw [if_neg (fun q => q he), if_neg (fun q => q he)]; exact ⟨rfl, rfl⟩
    have HE : Hid _ := he
    clear he
    go_enter Try.func23, Try.ntmps23
    go_wp2_with fail
    refine (rcheck_any base b o c ps _ HA.out).mono ?_
    rintro e w1 ⟨rfl, hb⟩
    have B1 : Hid _ := hb
    clear hb
    go_wp2_with fail
    go_loopw [7, 8] (fun nv i wr => ∃ j : Nat, j ≤ ps.length ∧ i = .int .i64 j ∧ nv = .int .i64 (posL key (ps.take j)) ∧ Below w.heap.size w wr) (fun _ i _ => ps.length - (intOf i).toNat)
    case atStart => exact ⟨0, Nat.zero_le _, rfl, rfl, B1.out⟩
    case round =>
      obtain ⟨j, hj, rfl, rfl, hbw⟩ := hrel
      have HW : Hid _ := hbw
      have hp1 : posL key (ps.take j) ≤ j := Nat.le_trans (posL_le _ _) (List.length_take_le _ _)
      by_cases hlt : j < ps.length
      · obtain rfl : base = some ⟨b, o, none⟩ := HA.out.base (by omega)
        have zb : b < wr.heap.size := (HA.out.below hbw).lt (by omega)
        obtain ⟨c0, c1⟩ := (HA.out.below hbw).cells j hlt
        have j0 : (0 : Int) ≤ (j : Int) := Int.natCast_nonneg _
        have j1 : (j : Int) < (ps.length : Int) := by omega
        have PN : Hid _ := pos_next key ps hlt
        clear hbw
        by_cases hk : keyAt ps j < key
        · have HK : Hid _ := hk
          go_wp2_with fail
          exact ⟨⟨j + 1, by omega, by go_num, by rw [PN.out, if_pos HK.out]; go_num, HW.out⟩, by simp [intOf]; omega⟩
        · have HK : Hid (¬ keyAt ps j < key) := hk
          go_wp2_with fail
          exact ⟨⟨j + 1, by omega, by go_num, by rw [PN.out, if_neg HK.out], HW.out⟩, by simp [intOf]; omega⟩
      · obtain rfl : j = ps.length := by omega
        clear hbw
        go_wp2_with fail
        refine (look_any base b o c ps key _ (HA.out.below HW.out)).mono ?_
        rintro e w2 ⟨rfl, rfl⟩
        go_wp2_with fail
        go_ret3
        rw [F.out.1, F.out.2, HE.out]
        exact ⟨rfl, HW.out⟩
  · have hn : (ckErr ps != 0) = true := by simp [he]
    have F : Hid (findN ps key = 0 ∧ findB ps key = false ∧ ckErr ps = 11) := by
      refine ⟨by unfold findN; rw [if_pos he], by unfold findB; rw [if_pos he], ?_⟩
      unfold ckErr at he ⊢
      split
      · rename_i q; rw [if_pos q] at he; exact absurd rfl he
      · rfl
    clear he
    go_enter Try.func23, Try.ntmps23
    go_wp2_with fail
    refine (rcheck_any base b o c ps _ HA.out).mono ?_
    rintro e w1 ⟨rfl, hb⟩
    have B1 : Hid _ := hb
    clear hb
    go_wp2_with fail
    go_ret3
    rw [F.out.1, F.out.2.1, F.out.2.2]
    exact ⟨rfl, B1.out⟩
end Go.Proofs.Ytjpfgfcggekklaa
namespace Go.Proofs.Ytjpfgfcggekklaa
open Go.RowKit

def chB (k : Int) : Bool := decide (2 ≤ k ∧ k ≤ 4)
/-- What Plain leaves. -/
def plainD (o : OpD) : OpD := ⟨o.kind, if 1 ≤ o.kind ∧ o.kind ≤ 9 ∧ o.kind ≠ 7 ∧ o.kind ≠ 8 then o.key else 0, if o.kind = 2 ∨ o.kind = 3 then o.val else 0, if o.kind = 9 then o.hi else 0⟩
def opV (o : OpD) : Value := .agg #[.int .i64 o.kind, .int .i64 o.key, .int .i64 o.val, .int .i64 o.hi]

set_option maxRecDepth 100000 in
set_option maxHeartbeats 1000000 in
theorem rChanges_any (k : Int) (w : World) : Calls Try.prog 18 #[.int .i64 k] w fun e w' => e = .returned (.bool (chB k)) ∧ w = w' := by
  by_cases h1 : 2 ≤ k
  · by_cases h2 : k ≤ 4
    · have F : Hid (chB k = true) := by show chB k = true; simp [chB, h1, h2]
      go_enter Try.func18, Try.ntmps18
      go_wp2_with fail
      go_ret
      rw [F.out]
      exact ⟨rfl, rfl⟩
    · have F : Hid (chB k = false) := by show chB k = false; simp [chB]; omega
      go_enter Try.func18, Try.ntmps18
      go_wp2_with fail
      go_ret
      rw [F.out]
      exact ⟨rfl, rfl⟩
  · have F : Hid (chB k = false) := by show chB k = false; simp [chB]; omega
    go_enter Try.func18, Try.ntmps18
    go_wp2_with fail
    go_ret
    rw [F.out]
    exact ⟨rfl, rfl⟩
set_option maxRecDepth 100000 in
set_option maxHeartbeats 1000000 in
theorem pChanges_any (k : Int) (w : World) : Calls Try.prog 17 #[.int .i64 k] w fun e w' => e = .returned (.bool (chB k)) ∧ w = w' := by
  by_cases h : chB k = true
  · have hd : k = 2 ∨ k = 3 ∨ k = 4 := by simp [chB] at h; omega
    have F : Hid (chB k = true) := h
    clear h
    rcases hd with rfl | rfl | rfl
    all_goals (
      go_enter Try.func17, Try.ntmps17
      go_wp2_with fail
      go_ret
      rw [F.out]
      exact ⟨rfl, rfl⟩)
  · have F : Hid (chB k = false) := by show chB k = false; simpa using h
    have h2 : (k == 2) = false := by simp [chB] at h; simp; omega
    have h3 : (k == 3) = false := by simp [chB] at h; simp; omega
    have h4 : (k == 4) = false := by simp [chB] at h; simp; omega
    clear h
    go_enter Try.func17, Try.ntmps17
    go_wp2_with fail
    go_ret
    rw [F.out]
    exact ⟨rfl, rfl⟩
theorem plain_out (k key val hi : Int) (h : ¬ (1 ≤ k ∧ k ≤ 9)) : plainD ⟨k, key, val, hi⟩ = ⟨k, 0, 0, 0⟩ := by
  unfold plainD
  simp only
  rw [if_neg (by omega), if_neg (by omega), if_neg (by omega)]
set_option maxRecDepth 100000 in
set_option maxHeartbeats 1000000 in
theorem pPlain_any (o : OpD) (w : World) : Calls Try.prog 15 #[opV o] w fun e w' => e = .returned (opV (plainD o)) ∧ Below w.heap.size w w' := by
  obtain ⟨k, key, val, hi⟩ := o
  unfold opV
  simp only
  by_cases h : 1 ≤ k ∧ k ≤ 9
  · have hd : k = 1 ∨ k = 2 ∨ k = 3 ∨ k = 4 ∨ k = 5 ∨ k = 6 ∨ k = 7 ∨ k = 8 ∨ k = 9 := by omega
    clear h
    rcases hd with rfl | rfl | rfl | rfl | rfl | rfl | rfl | rfl | rfl
    · go_enter Try.func15, Try.ntmps15
      go_wp2_with fail
      refine bodyPost_ret (v := .agg #[.int .i64 1, .int .i64 key, .int .i64 0, .int .i64 0]) (by simp [results, Try.results15, go_sem]) rfl ⟨by simp [plainD], (below_alloc _ _).alloc (by simp) _⟩
    · go_enter Try.func15, Try.ntmps15
      go_wp2_with fail
      refine bodyPost_ret (v := .agg #[.int .i64 2, .int .i64 key, .int .i64 val, .int .i64 0]) (by simp [results, Try.results15, go_sem]) rfl ⟨by simp [plainD], (below_alloc _ _).alloc (by simp) _⟩
    · go_enter Try.func15, Try.ntmps15
      go_wp2_with fail
      refine bodyPost_ret (v := .agg #[.int .i64 3, .int .i64 key, .int .i64 val, .int .i64 0]) (by simp [results, Try.results15, go_sem]) rfl ⟨by simp [plainD], (below_alloc _ _).alloc (by simp) _⟩
    · go_enter Try.func15, Try.ntmps15
      go_wp2_with fail
      refine bodyPost_ret (v := .agg #[.int .i64 4, .int .i64 key, .int .i64 0, .int .i64 0]) (by simp [results, Try.results15, go_sem]) rfl ⟨by simp [plainD], (below_alloc _ _).alloc (by simp) _⟩
    · go_enter Try.func15, Try.ntmps15
      go_wp2_with fail
      refine bodyPost_ret (v := .agg #[.int .i64 5, .int .i64 key, .int .i64 0, .int .i64 0]) (by simp [results, Try.results15, go_sem]) rfl ⟨by simp [plainD], (below_alloc _ _).alloc (by simp) _⟩
    · go_enter Try.func15, Try.ntmps15
      go_wp2_with fail
      refine bodyPost_ret (v := .agg #[.int .i64 6, .int .i64 key, .int .i64 0, .int .i64 0]) (by simp [results, Try.results15, go_sem]) rfl ⟨by simp [plainD], (below_alloc _ _).alloc (by simp) _⟩
    · go_enter Try.func15, Try.ntmps15
      go_wp2_with fail
      refine bodyPost_ret (v := .agg #[.int .i64 7, .int .i64 0, .int .i64 0, .int .i64 0]) (by simp [results, Try.results15, go_sem]) rfl ⟨by simp [plainD], (below_alloc _ _).alloc (by simp) _⟩
    · go_enter Try.func15, Try.ntmps15
      go_wp2_with fail
      refine bodyPost_ret (v := .agg #[.int .i64 8, .int .i64 0, .int .i64 0, .int .i64 0]) (by simp [results, Try.results15, go_sem]) rfl ⟨by simp [plainD], (below_alloc _ _).alloc (by simp) _⟩
    · go_enter Try.func15, Try.ntmps15
      go_wp2_with fail
      refine bodyPost_ret (v := .agg #[.int .i64 9, .int .i64 key, .int .i64 0, .int .i64 hi]) (by simp [results, Try.results15, go_sem]) rfl ⟨by simp [plainD], (below_alloc _ _).alloc (by simp) _⟩
  · have k1 : (k == 1) = false := by simp; omega
    have k2 : (k == 2) = false := by simp; omega
    have k3 : (k == 3) = false := by simp; omega
    have k4 : (k == 4) = false := by simp; omega
    have k5 : (k == 5) = false := by simp; omega
    have k6 : (k == 6) = false := by simp; omega
    have k9 : (k == 9) = false := by simp; omega
    have E : Hid _ := plain_out k key val hi h
    clear h
    go_enter Try.func15, Try.ntmps15
    go_wp2_with fail
    refine bodyPost_ret (v := .agg #[.int .i64 k, .int .i64 0, .int .i64 0, .int .i64 0]) (by simp [results, Try.results15, go_sem]) rfl ⟨by rw [E.out], (below_alloc _ _).alloc (by simp) _⟩
set_option maxRecDepth 100000 in
set_option maxHeartbeats 1000000 in
theorem rPlain_any (o : OpD) (w : World) : Calls Try.prog 16 #[opV o] w fun e w' => e = .returned (opV (plainD o)) ∧ Below w.heap.size w w' := by
  obtain ⟨k, key, val, hi⟩ := o
  unfold opV
  simp only
  by_cases h : 1 ≤ k ∧ k ≤ 9
  · have hd : k = 1 ∨ k = 2 ∨ k = 3 ∨ k = 4 ∨ k = 5 ∨ k = 6 ∨ k = 7 ∨ k = 8 ∨ k = 9 := by omega
    clear h
    rcases hd with rfl | rfl | rfl | rfl | rfl | rfl | rfl | rfl | rfl
    · go_enter Try.func16, Try.ntmps16
      go_wp2_with fail
      refine (rkind_any _ _).mono ?_
      rintro e w1 ⟨rfl, rfl⟩
      go_wp2_with fail
      refine bodyPost_ret (v := .agg #[.int .i64 1, .int .i64 key, .int .i64 0, .int .i64 0]) (by simp [results, Try.results16, go_sem]) rfl ⟨by simp [plainD], ((below_alloc _ _).alloc (by simp) _).alloc (by simp; omega) _⟩
    · go_enter Try.func16, Try.ntmps16
      go_wp2_with fail
      refine (rkind_any _ _).mono ?_
      rintro e w1 ⟨rfl, rfl⟩
      go_wp2_with fail
      refine bodyPost_ret (v := .agg #[.int .i64 2, .int .i64 key, .int .i64 val, .int .i64 0]) (by simp [results, Try.results16, go_sem]) rfl ⟨by simp [plainD], ((below_alloc _ _).alloc (by simp) _).alloc (by simp; omega) _⟩
    · go_enter Try.func16, Try.ntmps16
      go_wp2_with fail
      refine (rkind_any _ _).mono ?_
      rintro e w1 ⟨rfl, rfl⟩
      go_wp2_with fail
      refine bodyPost_ret (v := .agg #[.int .i64 3, .int .i64 key, .int .i64 val, .int .i64 0]) (by simp [results, Try.results16, go_sem]) rfl ⟨by simp [plainD], ((below_alloc _ _).alloc (by simp) _).alloc (by simp; omega) _⟩
    · go_enter Try.func16, Try.ntmps16
      go_wp2_with fail
      refine (rkind_any _ _).mono ?_
      rintro e w1 ⟨rfl, rfl⟩
      go_wp2_with fail
      refine bodyPost_ret (v := .agg #[.int .i64 4, .int .i64 key, .int .i64 0, .int .i64 0]) (by simp [results, Try.results16, go_sem]) rfl ⟨by simp [plainD], ((below_alloc _ _).alloc (by simp) _).alloc (by simp; omega) _⟩
    · go_enter Try.func16, Try.ntmps16
      go_wp2_with fail
      refine (rkind_any _ _).mono ?_
      rintro e w1 ⟨rfl, rfl⟩
      go_wp2_with fail
      refine bodyPost_ret (v := .agg #[.int .i64 5, .int .i64 key, .int .i64 0, .int .i64 0]) (by simp [results, Try.results16, go_sem]) rfl ⟨by simp [plainD], ((below_alloc _ _).alloc (by simp) _).alloc (by simp; omega) _⟩
    · go_enter Try.func16, Try.ntmps16
      go_wp2_with fail
      refine (rkind_any _ _).mono ?_
      rintro e w1 ⟨rfl, rfl⟩
      go_wp2_with fail
      refine bodyPost_ret (v := .agg #[.int .i64 6, .int .i64 key, .int .i64 0, .int .i64 0]) (by simp [results, Try.results16, go_sem]) rfl ⟨by simp [plainD], ((below_alloc _ _).alloc (by simp) _).alloc (by simp; omega) _⟩
    · go_enter Try.func16, Try.ntmps16
      go_wp2_with fail
      refine (rkind_any _ _).mono ?_
      rintro e w1 ⟨rfl, rfl⟩
      go_wp2_with fail
      refine bodyPost_ret (v := .agg #[.int .i64 7, .int .i64 0, .int .i64 0, .int .i64 0]) (by simp [results, Try.results16, go_sem]) rfl ⟨by simp [plainD], ((below_alloc _ _).alloc (by simp) _).alloc (by simp; omega) _⟩
    · go_enter Try.func16, Try.ntmps16
      go_wp2_with fail
      refine (rkind_any _ _).mono ?_
      rintro e w1 ⟨rfl, rfl⟩
      go_wp2_with fail
      refine bodyPost_ret (v := .agg #[.int .i64 8, .int .i64 0, .int .i64 0, .int .i64 0]) (by simp [results, Try.results16, go_sem]) rfl ⟨by simp [plainD], ((below_alloc _ _).alloc (by simp) _).alloc (by simp; omega) _⟩
    · go_enter Try.func16, Try.ntmps16
      go_wp2_with fail
      refine (rkind_any _ _).mono ?_
      rintro e w1 ⟨rfl, rfl⟩
      go_wp2_with fail
      refine bodyPost_ret (v := .agg #[.int .i64 9, .int .i64 key, .int .i64 0, .int .i64 hi]) (by simp [results, Try.results16, go_sem]) rfl ⟨by simp [plainD], ((below_alloc _ _).alloc (by simp) _).alloc (by simp; omega) _⟩
  · have k2 : (k == 2) = false := by simp; omega
    have k3 : (k == 3) = false := by simp; omega
    have k9 : (k == 9) = false := by simp; omega
    have E : Hid _ := plain_out k key val hi h
    have K : Hid (kdErr k = 5) := by show kdErr k = 5; unfold kdErr; rw [if_pos (by omega)]
    clear h
    go_enter Try.func16, Try.ntmps16
    go_wp2_with fail
    refine (rkind_any _ _).mono ?_
    rintro e w1 ⟨rfl, rfl⟩
    rw [K.out]
    go_wp2_with fail
    refine bodyPost_ret (v := .agg #[.int .i64 k, .int .i64 0, .int .i64 0, .int .i64 0]) (by simp [results, Try.results16, go_sem]) rfl ⟨by rw [E.out], ((below_alloc _ _).alloc (by simp) _).alloc (by simp; omega) _⟩
end Go.Proofs.Ytjpfgfcggekklaa
namespace Go.Proofs.Ytjpfgfcggekklaa
open Go.RowKit

set_option maxRecDepth 100000 in
set_option maxHeartbeats 1000000 in
theorem pFind_any (base : Option Addr) (b o c : Nat) (ps : PL) (key : Int) (w : World) (h : PairsAt w base b o ps) :
    Calls Try.prog 22 #[.slice base ps.length c, .int .i64 key] w fun e w' => e = .returned (.tuple #[.int .i64 (findN ps key), .bool (findB ps key), .int .i64 (ckErr ps)]) ∧ Below w.heap.size w w' := by
  have HA : Hid _ := h
  clear h
  by_cases he : ckErr ps = 0
  · have hn : (ckErr ps != 0) = false := by simp [he]
    have F : Hid (findN ps key = posL key ps ∧ findB ps key = (getK key ps).isSome) := by unfold findN findB; rw [if_neg (fun q => q he), if_neg (fun q => q he)]; exact ⟨rfl, rfl⟩
    have HE : Hid _ := he
    clear he
    go_enter Try.func22, Try.ntmps22
    go_wp2_with fail
    refine (pcheck_any base b o c ps _ HA.out).mono ?_
    rintro e w1 ⟨rfl, hb⟩
    have B1 : Hid _ := hb
    clear hb
    go_wp2_with fail
    refine (place_any base b o c ps key _ (HA.out.below B1.out) (ckErr_zero.1 HE.out)).mono ?_
    rintro e w2 ⟨rfl, hb⟩
    have B2 : Hid (Below w.heap.size w w2) := B1.out.trans (hb.mono B1.out.size)
    clear hb
    go_wp2_with fail
    go_ret3
    rw [F.out.1, F.out.2, HE.out]
    exact ⟨rfl, B2.out⟩
  · have hn : (ckErr ps != 0) = true := by simp [he]
    have F : Hid (findN ps key = 0 ∧ findB ps key = false) := ⟨by unfold findN; rw [if_pos he], by unfold findB; rw [if_pos he]⟩
    clear he
    go_enter Try.func22, Try.ntmps22
    go_wp2_with fail
    refine (pcheck_any base b o c ps _ HA.out).mono ?_
    rintro e w1 ⟨rfl, hb⟩
    have B1 : Hid _ := hb
    clear hb
    go_wp2_with fail
    go_ret3
    rw [F.out.1, F.out.2]
    exact ⟨rfl, B1.out⟩
end Go.Proofs.Ytjpfgfcggekklaa
namespace Go.Proofs.Ytjpfgfcggekklaa
open Go.RowKit

set_option maxRecDepth 100000 in
set_option maxHeartbeats 1000000 in
theorem pPart_any (base : Option Addr) (b o c : Nat) (ps : PL) (lo hi : Int) (w : World) (h : PairsAt w base b o ps) (hnil : base = none → ps.length = 0 ∧ c = 0) (hcap : ps.length ≤ c) (hcm : c ≤ maxLen) (hn : ps.length ≤ 1000000) :
    Calls Try.prog 24 #[.slice base ps.length c, .int .i64 lo, .int .i64 hi] w fun e w' => ∃ v, e = .returned (.tuple #[v, .int .i64 (ckErr ps)]) ∧ Below w.heap.size w w' ∧ OwnP w' w.heap.size (partL ps lo hi) v := by
  have HA : Hid _ := h
  have HNI : Hid _ := hnil
  clear h hnil
  by_cases he : ckErr ps = 0
  · have hne : (ckErr ps != 0) = false := by simp [he]
    have F : Hid (partL ps lo hi = inL lo hi ps) := by show _ = _; unfold partL; rw [if_neg (fun q => q he)]
    have HE : Hid _ := he
    have hil : (inL lo hi ps).length ≤ 1000000 := Nat.le_trans (List.length_filter_le _ _) hn
    clear he
    go_enter Try.func24, Try.ntmps24
    go_wp2_with fail
    refine (pcheck_any base b o c ps _ HA.out).mono ?_
    rintro e w1 ⟨rfl, hb⟩
    have B1 : Hid _ := hb
    clear hb
    go_wp2_with fail
    refine (between_any base b o c ps lo hi _ (HA.out.below B1.out) (ckErr_zero.1 HE.out) HNI.out hcap hcm).mono ?_
    rintro e w2 ⟨a2, o2, c2, rfl, hb, hp2, hk2⟩
    have B2 : Hid (Below w.heap.size w w2) := B1.out.trans (hb.mono B1.out.size)
    have C2 : Hid (Calls _ _ _ _ _) := clone_any a2 b o2 c2 (inL lo hi ps) w2 hp2 hk2 (by omega)
    clear hb hp2 hk2
    go_wp2_with fail
    refine C2.out.mono ?_
    rintro e w3 ⟨v, rfl, ho, hb⟩
    have B3 : Hid (Below w.heap.size w w3) := B2.out.trans (hb.mono B2.out.size)
    have O3 : Hid (OwnP _ _ _ _) := ho.down B2.out.size
    clear hb ho
    go_wp2_with fail
    go_ret2
    rw [F.out, HE.out]
    exact ⟨v, rfl, B3.out, O3.out⟩
  · have hne : (ckErr ps != 0) = true := by simp [he]
    have F : Hid (partL ps lo hi = []) := by show _ = _; unfold partL; rw [if_pos he]
    clear he
    go_enter Try.func24, Try.ntmps24
    go_wp2_with fail
    refine (pcheck_any base b o c ps _ HA.out).mono ?_
    rintro e w1 ⟨rfl, hb⟩
    have B1 : Hid _ := hb
    clear hb
    go_wp2_with fail
    go_ret2
    rw [F.out]
    exact ⟨_, rfl, B1.out, ⟨none, 0, 0, rfl, fun h => absurd rfl h, ⟨fun h => absurd rfl h, fun h => absurd rfl h, fun i hi => by simp at hi, by simp⟩, fun _ => rfl⟩⟩
end Go.Proofs.Ytjpfgfcggekklaa
