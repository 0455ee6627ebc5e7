/- Layer 6: the reference's Of, Find and Part. -/
import Derived.Test.YtjpfgfcggekklaaMR3
import Derived.Test.YtjpfgfcggekklaaMR4
import Derived.Test.YtjpfgfcggekklaaMQuiet
import Derived.Deep.RegionHeld3
namespace Go.Proofs.Ytjpfgfcggekklaa
open Go.RowKit

theorem owns_dn {w : World} {B B' sz : Nat} {e : TypeId} {v : Value} {n : Nat} {xs : List Value} (h : w.ownsRow B e sz v n xs) (hB : B' ≤ B) : w.ownsRow B' e sz v n xs := by
  obtain ⟨h0, h⟩ := h
  rcases h with h | ⟨g, cap, cur, hv, hg, r⟩
  · exact ⟨h0, Or.inl h⟩
  · exact ⟨h0, Or.inr ⟨g, cap, cur, hv, by omega, r⟩⟩
theorem pairs_drew {w : World} {base : Option Addr} {b o : Nat} {ps : PL} (h : PairsAt w base b o ps) : PairsAt w.drew base b o ps := ⟨h.base, h.lt, h.cells, h.len⟩
theorem below_drew1 {B : Nat} {w w' : World} (h : Below B w w') : Below B w w'.drew := ⟨h.os, h.tape, h.output, h.size, h.block⟩
set_option maxRecDepth 100000 in
set_option maxHeartbeats 1000000 in
theorem rOf_any (base : Option Addr) (b o c : Nat) (ps : PL) (w : World) (h : PairsAt w base b o ps) (hn : ps.length ≤ 1000000) :
    Calls Try.prog 21 #[.slice base ps.length c] w fun e w' => ∃ v, e = .returned v ∧ Below w.heap.size w w' ∧ w'.ownsRow w.heap.size 59 2 v (ofL ps).length (pairCells (ofL ps)) := by
  have HA : Hid _ := h
  clear h
  go_enter Try.func21, Try.ntmps21
  go_wp2_with fail
  go_loopw [3, 4] (fun v i wr => ∃ j : Nat, j ≤ ps.length ∧ i = .int .i64 j ∧ Below w.heap.size w wr ∧ wr.ownsRow w.heap.size 59 2 v (ofN ps j).length (pairCells (ofN ps j))) (fun _ i _ => ps.length - (intOf i).toNat)
  case atStart => exact ⟨0, Nat.zero_le _, rfl, Below.refl _ _, World.ownsRow_nil _ _ _ _⟩
  case round =>
    obtain ⟨j, hj, rfl, hbw, hown⟩ := hrel
    have hle := ofN_length ps j
    obtain ⟨a1, k1, g1, rfl, _, _, hp1⟩ := pairs_of_owns hown (by unfold maxLen; omega)
    have HW : Hid _ := hbw
    have HO : Hid (World.ownsRow _ _ _ _ _ _ _) := hown
    have HP : Hid _ := hp1
    clear hown hp1
    by_cases hlt : j < ps.length
    · obtain rfl : base = some ⟨b, o, none⟩ := HA.out.base (by omega)
      have zb : b < wr.heap.size := (HA.out.below hbw).lt (by omega)
      obtain ⟨c0, c1⟩ := (HA.out.below hbw).cells j hlt
      have j0 : (0 : Int) ≤ (j : Int) := Int.natCast_nonneg _
      have j1 : (j : Int) < (ps.length : Int) := by omega
      have y0 := BelowBy.cell zb c0
      have y1 := BelowBy.cell zb c1
      have HN : Hid (withL (ofN ps j) (keyAt ps j) (valAt ps j) false = ofN ps (j + 1)) := by
        show _ = _
        rw [withL_put _ _ _ (ofN_srt ps j)]
        rfl
      have zw := hbw.size
      have HC : Hid (∀ W : World, PairsAt W a1 g1 0 (ofN ps j) → Calls Try.prog 50 #[.slice a1 (ofN ps j).length k1, .int .i64 (keyAt ps j), .int .i64 (valAt ps j), .bool false] W fun e w' => ∃ v, e = .returned v ∧ Below W.heap.size W w' ∧ w'.ownsRow W.heap.size 59 2 v (ofN ps (j + 1)).length (pairCells (ofN ps (j + 1)))) := fun W hW => by
        rw [← HN.out]
        exact with_any a1 g1 0 k1 (ofN ps j) (keyAt ps j) (valAt ps j) false W hW (by omega)
      clear hbw y0 y1
      go_wp2_with fail
      go_region_held3 (fun w' => w'.cell? ⟨b, o + j * 2, none⟩ = some (.int .i64 (keyAt ps j)) ∧ w'.cell? ⟨b, o + j * 2 + 1, none⟩ = some (.int .i64 (valAt ps j)))
        (first | exact ⟨(hb2.cell (p := ⟨b, o + j * 2, none⟩) zb).trans c0, (hb2.cell (p := ⟨b, o + j * 2 + 1, none⟩) zb).trans c1⟩ | go_keep)
        (first | (go_at_call 50; refine (HC.out _ ?_).mono ?_; (focus (exact pairs_drew HP.out)); rintro e w2 ⟨v2, rfl, hb2, ho2⟩))
      have B2 : Hid (Below w.heap.size w w2) := (below_drew1 HW.out).trans (hb2.mono HW.out.size)
      have O2 : Hid (World.ownsRow _ _ _ _ _ _ _) := owns_dn ho2 (B' := w.heap.size) HW.out.size
      clear hb2 ho2
      go_wp2_with fail
      exact ⟨⟨j + 1, by omega, by go_num, B2.out, O2.out⟩, by simp [intOf]; omega⟩
    · obtain rfl : j = ps.length := by omega
      clear hbw
      go_wp2_with fail
      go_ret
      exact ⟨_, rfl, HW.out, HO.out⟩

def partL (ps : PL) (lo hi : Int) : PL := if ckErr ps ≠ 0 then [] else inL lo hi ps
set_option maxRecDepth 100000 in
set_option maxHeartbeats 1000000 in
theorem rPart_any (base : Option Addr) (b o c : Nat) (ps : PL) (lo hi : Int) (w : World) (h : PairsAt w base b o ps) (hby : ps.length * 16 ≤ 140737488355328) :
    Calls Try.prog 25 #[.slice base ps.length c, .int .i64 lo, .int .i64 hi] w fun e w' => ∃ v, e = .returned (.tuple #[v, .int .i64 (ckErr ps)]) ∧ Below w.heap.size w w' ∧ w'.ownsRow w.heap.size 59 2 v (partL ps lo hi).length (pairCells (partL ps lo hi)) := by
  have HA : Hid _ := h
  clear h
  by_cases he : ckErr ps = 0
  · have hn : (ckErr ps != 0) = false := by simp [he]
    have F : Hid (partL ps lo hi = inL lo hi ps) := by show _ = _; unfold partL; rw [if_neg (fun q => q he)]
    have HE : Hid _ := he
    clear he
    go_enter Try.func25, Try.ntmps25
    go_wp2_with fail
    refine (rcheck_any base b o c ps _ HA.out).mono ?_
    rintro e w1 ⟨rfl, hb⟩
    have B1 : Hid _ := hb
    clear hb
    go_wp2_with fail
    refine (inside_any base b o c ps lo hi _ (HA.out.below B1.out) hby).mono ?_
    rintro e w2 ⟨v, rfl, hb, ho⟩
    have B2 : Hid (Below w.heap.size w w2) := B1.out.trans (hb.mono B1.out.size)
    have O2 : Hid (World.ownsRow _ _ _ _ _ _ _) := owns_dn ho (B' := w.heap.size) B1.out.size
    clear hb ho
    go_wp2_with fail
    go_ret2
    rw [F.out, HE.out]
    exact ⟨v, rfl, B2.out, O2.out⟩
  · have hn : (ckErr ps != 0) = true := by simp [he]
    have F : Hid (partL ps lo hi = [] ∧ ckErr ps = 11) := by
      refine ⟨by unfold partL; rw [if_pos he], ?_⟩
      unfold ckErr at he ⊢
      split
      · rename_i q; rw [if_pos q] at he; exact absurd rfl he
      · rfl
    clear he
    go_enter Try.func25, Try.ntmps25
    go_wp2_with fail
    refine (rcheck_any base b o c ps _ HA.out).mono ?_
    rintro e w1 ⟨rfl, hb⟩
    have B1 : Hid _ := hb
    clear hb
    go_wp2_with fail
    go_ret2
    rw [F.out.1, F.out.2]
    exact ⟨_, rfl, B1.out, World.ownsRow_nil _ _ _ _⟩

theorem pos_next (key : Int) (ps : PL) {j : Nat} (hj : j < ps.length) : posL key (ps.take (j + 1)) = if keyAt ps j < key then posL key (ps.take j) + 1 else posL key (ps.take j) := by
  unfold posL
  rw [take_next ps hj, List.filter_append, List.length_append]
  by_cases h : keyAt ps j < key
  · rw [if_pos h, List.filter_cons_of_pos (by simp [h])]; rfl
  · rw [if_neg h, List.filter_cons_of_neg (by simp [h])]; rfl
def findN (ps : PL) (key : Int) : Int := if ckErr ps ≠ 0 then 0 else posL key ps
def findB (ps : PL) (key : Int) : Bool := if ckErr ps ≠ 0 then false else (getK key ps).isSome
set_option maxRecDepth 100000 in
set_option maxHeartbeats 1000000 in
theorem rFind_any (base : Option Addr) (b o c : Nat) (ps : PL) (key : Int) (w : World) (h : PairsAt w base b o ps) :
    Calls Try.prog 23 #[.slice base ps.length c, .int .i64 key] w fun e w' => e = .returned (.tuple #[.int .i64 (findN ps key), .bool (findB ps key), .int .i64 (ckErr ps)]) ∧ Below w.heap.size w w' := by
  have HA : Hid _ := h
  have lx := h.len
  unfold maxLen at lx
  clear h
  by_cases he : ckErr ps = 0
  · have hn : (ckErr ps != 0) = false := by simp [he]
    have F : Hid (findN ps key = posL key ps ∧ findB ps key = (getK key ps).isSome) := by unfold findN findB; rw [if_neg (fun q => q he), if_neg (fun q => q he)]; exact ⟨rfl, rfl⟩
    have HE : Hid _ := he
    clear he
    go_enter Try.func23, Try.ntmps23
    go_wp2_with fail
    refine (rcheck_any base b o c ps _ HA.out).mono ?_
    rintro e w1 ⟨rfl, hb⟩
    have B1 : Hid _ := hb
    clear hb
    go_wp2_with fail
    go_loopw [7, 8] (fun nv i wr => ∃ j : Nat, j ≤ ps.length ∧ i = .int .i64 j ∧ nv = .int .i64 (posL key (ps.take j)) ∧ Below w.heap.size w wr) (fun _ i _ => ps.length - (intOf i).toNat)
    case atStart => exact ⟨0, Nat.zero_le _, rfl, rfl, B1.out⟩
    case round =>
      obtain ⟨j, hj, rfl, rfl, hbw⟩ := hrel
      have HW : Hid _ := hbw
      have hp1 : posL key (ps.take j) ≤ j := Nat.le_trans (posL_le _ _) (List.length_take_le _ _)
      by_cases hlt : j < ps.length
      · obtain rfl : base = some ⟨b, o, none⟩ := HA.out.base (by omega)
        have zb : b < wr.heap.size := (HA.out.below hbw).lt (by omega)
        obtain ⟨c0, c1⟩ := (HA.out.below hbw).cells j hlt
        have j0 : (0 : Int) ≤ (j : Int) := Int.natCast_nonneg _
        have j1 : (j : Int) < (ps.length : Int) := by omega
        have PN : Hid _ := pos_next key ps hlt
        clear hbw
        by_cases hk : keyAt ps j < key
        · have HK : Hid _ := hk
          go_wp2_with fail
          exact ⟨⟨j + 1, by omega, by go_num, by rw [PN.out, if_pos HK.out]; go_num, HW.out⟩, by simp [intOf]; omega⟩
        · have HK : Hid (¬ keyAt ps j < key) := hk
          go_wp2_with fail
          exact ⟨⟨j + 1, by omega, by go_num, by rw [PN.out, if_neg HK.out], HW.out⟩, by simp [intOf]; omega⟩
      · obtain rfl : j = ps.length := by omega
        clear hbw
        go_wp2_with fail
        refine (look_any base b o c ps key _ (HA.out.below HW.out)).mono ?_
        rintro e w2 ⟨rfl, rfl⟩
        go_wp2_with fail
        go_ret3
        rw [F.out.1, F.out.2, HE.out]
        exact ⟨rfl, HW.out⟩
  · have hn : (ckErr ps != 0) = true := by simp [he]
    have F : Hid (findN ps key = 0 ∧ findB ps key = false ∧ ckErr ps = 11) := by
      refine ⟨by unfold findN; rw [if_pos he], by unfold findB; rw [if_pos he], ?_⟩
      unfold ckErr at he ⊢
      split
      · rename_i q; rw [if_pos q] at he; exact absurd rfl he
      · rfl
    clear he
    go_enter Try.func23, Try.ntmps23
    go_wp2_with fail
    refine (rcheck_any base b o c ps _ HA.out).mono ?_
    rintro e w1 ⟨rfl, hb⟩
    have B1 : Hid _ := hb
    clear hb
    go_wp2_with fail
    go_ret3
    rw [F.out.1, F.out.2.1, F.out.2.2]
    exact ⟨rfl, B1.out⟩
end Go.Proofs.Ytjpfgfcggekklaa
