/- Layer 6: Changes and Plain, the program's and the reference's. Layer 6: the program's Find. Layer 6: the program's Part. -/
import Derived.Test.YtjpfgfcggekklaaMG1
import Derived.Test.YtjpfgfcggekklaaMR1
import Derived.Test.YtjpfgfcggekklaaMR5
import Derived.Test.YtjpfgfcggekklaaMG2
import Derived.Test.YtjpfgfcggekklaaMG4
namespace Go.Proofs.Ytjpfgfcggekklaa
open Go.RowKit

def chB (k : Int) : Bool := decide (2 ≤ k ∧ k ≤ 4)
/-- What Plain leaves. -/
def plainD (o : OpD) : OpD := ⟨o.kind, if 1 ≤ o.kind ∧ o.kind ≤ 9 ∧ o.kind ≠ 7 ∧ o.kind ≠ 8 then o.key else 0, if o.kind = 2 ∨ o.kind = 3 then o.val else 0, if o.kind = 9 then o.hi else 0⟩
def opV (o : OpD) : Value := .agg #[.int .i64 o.kind, .int .i64 o.key, .int .i64 o.val, .int .i64 o.hi]

set_option maxRecDepth 100000 in
set_option maxHeartbeats 1000000 in
theorem rChanges_any (k : Int) (w : World) : Calls Try.prog 18 #[.int .i64 k] w fun e w' => e = .returned (.bool (chB k)) ∧ w = w' := by
  by_cases h1 : 2 ≤ k
  · by_cases h2 : k ≤ 4
    · have F : Hid (chB k = true) := by show chB k = true; simp [chB, h1, h2]
      go_enter Try.func18, Try.ntmps18
      go_wp2_with fail
      go_ret
      rw [F.out]
      exact ⟨rfl, rfl⟩
    · have F : Hid (chB k = false) := by show chB k = false; simp [chB]; omega
      go_enter Try.func18, Try.ntmps18
      go_wp2_with fail
      go_ret
      rw [F.out]
      exact ⟨rfl, rfl⟩
  · have F : Hid (chB k = false) := by show chB k = false; simp [chB]; omega
    go_enter Try.func18, Try.ntmps18
    go_wp2_with fail
    go_ret
    rw [F.out]
    exact ⟨rfl, rfl⟩
set_option maxRecDepth 100000 in
set_option maxHeartbeats 1000000 in
theorem pChanges_any (k : Int) (w : World) : Calls Try.prog 17 #[.int .i64 k] w fun e w' => e = .returned (.bool (chB k)) ∧ w = w' := by
  by_cases h : chB k = true
  · have hd : k = 2 ∨ k = 3 ∨ k = 4 := by simp [chB] at h; omega
    have F : Hid (chB k = true) := h
    clear h
    rcases hd with rfl | rfl | rfl
    all_goals (
      go_enter Try.func17, Try.ntmps17
      go_wp2_with fail
      go_ret
      rw [F.out]
      exact ⟨rfl, rfl⟩)
  · have F : Hid (chB k = false) := by show chB k = false; simpa using h
    have h2 : (k == 2) = false := by simp [chB] at h; simp; omega
    have h3 : (k == 3) = false := by simp [chB] at h; simp; omega
    have h4 : (k == 4) = false := by simp [chB] at h; simp; omega
    clear h
    go_enter Try.func17, Try.ntmps17
    go_wp2_with fail
    go_ret
    rw [F.out]
    exact ⟨rfl, rfl⟩
theorem plain_out (k key val hi : Int) (h : ¬ (1 ≤ k ∧ k ≤ 9)) : plainD ⟨k, key, val, hi⟩ = ⟨k, 0, 0, 0⟩ := by
  unfold plainD
  simp only
  rw [if_neg (by omega), if_neg (by omega), if_neg (by omega)]
set_option maxRecDepth 100000 in
set_option maxHeartbeats 1000000 in
theorem pPlain_any (o : OpD) (w : World) : Calls Try.prog 15 #[opV o] w fun e w' => e = .returned (opV (plainD o)) ∧ Below w.heap.size w w' := by
  obtain ⟨k, key, val, hi⟩ := o
  unfold opV
  simp only
  by_cases h : 1 ≤ k ∧ k ≤ 9
  · have hd : k = 1 ∨ k = 2 ∨ k = 3 ∨ k = 4 ∨ k = 5 ∨ k = 6 ∨ k = 7 ∨ k = 8 ∨ k = 9 := by omega
    clear h
    rcases hd with rfl | rfl | rfl | rfl | rfl | rfl | rfl | rfl | rfl
    · go_enter Try.func15, Try.ntmps15
      go_wp2_with fail
      refine bodyPost_ret (v := .agg #[.int .i64 1, .int .i64 key, .int .i64 0, .int .i64 0]) (by simp [results, Try.results15, go_sem]) rfl ⟨by simp [plainD], (below_alloc _ _).alloc (by simp) _⟩
    · go_enter Try.func15, Try.ntmps15
      go_wp2_with fail
      refine bodyPost_ret (v := .agg #[.int .i64 2, .int .i64 key, .int .i64 val, .int .i64 0]) (by simp [results, Try.results15, go_sem]) rfl ⟨by simp [plainD], (below_alloc _ _).alloc (by simp) _⟩
    · go_enter Try.func15, Try.ntmps15
      go_wp2_with fail
      refine bodyPost_ret (v := .agg #[.int .i64 3, .int .i64 key, .int .i64 val, .int .i64 0]) (by simp [results, Try.results15, go_sem]) rfl ⟨by simp [plainD], (below_alloc _ _).alloc (by simp) _⟩
    · go_enter Try.func15, Try.ntmps15
      go_wp2_with fail
      refine bodyPost_ret (v := .agg #[.int .i64 4, .int .i64 key, .int .i64 0, .int .i64 0]) (by simp [results, Try.results15, go_sem]) rfl ⟨by simp [plainD], (below_alloc _ _).alloc (by simp) _⟩
    · go_enter Try.func15, Try.ntmps15
      go_wp2_with fail
      refine bodyPost_ret (v := .agg #[.int .i64 5, .int .i64 key, .int .i64 0, .int .i64 0]) (by simp [results, Try.results15, go_sem]) rfl ⟨by simp [plainD], (below_alloc _ _).alloc (by simp) _⟩
    · go_enter Try.func15, Try.ntmps15
      go_wp2_with fail
      refine bodyPost_ret (v := .agg #[.int .i64 6, .int .i64 key, .int .i64 0, .int .i64 0]) (by simp [results, Try.results15, go_sem]) rfl ⟨by simp [plainD], (below_alloc _ _).alloc (by simp) _⟩
    · go_enter Try.func15, Try.ntmps15
      go_wp2_with fail
      refine bodyPost_ret (v := .agg #[.int .i64 7, .int .i64 0, .int .i64 0, .int .i64 0]) (by simp [results, Try.results15, go_sem]) rfl ⟨by simp [plainD], (below_alloc _ _).alloc (by simp) _⟩
    · go_enter Try.func15, Try.ntmps15
      go_wp2_with fail
      refine bodyPost_ret (v := .agg #[.int .i64 8, .int .i64 0, .int .i64 0, .int .i64 0]) (by simp [results, Try.results15, go_sem]) rfl ⟨by simp [plainD], (below_alloc _ _).alloc (by simp) _⟩
    · go_enter Try.func15, Try.ntmps15
      go_wp2_with fail
      refine bodyPost_ret (v := .agg #[.int .i64 9, .int .i64 key, .int .i64 0, .int .i64 hi]) (by simp [results, Try.results15, go_sem]) rfl ⟨by simp [plainD], (below_alloc _ _).alloc (by simp) _⟩
  · have k1 : (k == 1) = false := by simp; omega
    have k2 : (k == 2) = false := by simp; omega
    have k3 : (k == 3) = false := by simp; omega
    have k4 : (k == 4) = false := by simp; omega
    have k5 : (k == 5) = false := by simp; omega
    have k6 : (k == 6) = false := by simp; omega
    have k9 : (k == 9) = false := by simp; omega
    have E : Hid _ := plain_out k key val hi h
    clear h
    go_enter Try.func15, Try.ntmps15
    go_wp2_with fail
    refine bodyPost_ret (v := .agg #[.int .i64 k, .int .i64 0, .int .i64 0, .int .i64 0]) (by simp [results, Try.results15, go_sem]) rfl ⟨by rw [E.out], (below_alloc _ _).alloc (by simp) _⟩
set_option maxRecDepth 100000 in
set_option maxHeartbeats 1000000 in
theorem rPlain_any (o : OpD) (w : World) : Calls Try.prog 16 #[opV o] w fun e w' => e = .returned (opV (plainD o)) ∧ Below w.heap.size w w' := by
  obtain ⟨k, key, val, hi⟩ := o
  unfold opV
  simp only
  by_cases h : 1 ≤ k ∧ k ≤ 9
  · have hd : k = 1 ∨ k = 2 ∨ k = 3 ∨ k = 4 ∨ k = 5 ∨ k = 6 ∨ k = 7 ∨ k = 8 ∨ k = 9 := by omega
    clear h
    rcases hd with rfl | rfl | rfl | rfl | rfl | rfl | rfl | rfl | rfl
    · go_enter Try.func16, Try.ntmps16
      go_wp2_with fail
      refine (rkind_any _ _).mono ?_
      rintro e w1 ⟨rfl, rfl⟩
      go_wp2_with fail
      refine bodyPost_ret (v := .agg #[.int .i64 1, .int .i64 key, .int .i64 0, .int .i64 0]) (by simp [results, Try.results16, go_sem]) rfl ⟨by simp [plainD], ((below_alloc _ _).alloc (by simp) _).alloc (by simp; omega) _⟩
    · go_enter Try.func16, Try.ntmps16
      go_wp2_with fail
      refine (rkind_any _ _).mono ?_
      rintro e w1 ⟨rfl, rfl⟩
      go_wp2_with fail
      refine bodyPost_ret (v := .agg #[.int .i64 2, .int .i64 key, .int .i64 val, .int .i64 0]) (by simp [results, Try.results16, go_sem]) rfl ⟨by simp [plainD], ((below_alloc _ _).alloc (by simp) _).alloc (by simp; omega) _⟩
    · go_enter Try.func16, Try.ntmps16
      go_wp2_with fail
      refine (rkind_any _ _).mono ?_
      rintro e w1 ⟨rfl, rfl⟩
      go_wp2_with fail
      refine bodyPost_ret (v := .agg #[.int .i64 3, .int .i64 key, .int .i64 val, .int .i64 0]) (by simp [results, Try.results16, go_sem]) rfl ⟨by simp [plainD], ((below_alloc _ _).alloc (by simp) _).alloc (by simp; omega) _⟩
    · go_enter Try.func16, Try.ntmps16
      go_wp2_with fail
      refine (rkind_any _ _).mono ?_
      rintro e w1 ⟨rfl, rfl⟩
      go_wp2_with fail
      refine bodyPost_ret (v := .agg #[.int .i64 4, .int .i64 key, .int .i64 0, .int .i64 0]) (by simp [results, Try.results16, go_sem]) rfl ⟨by simp [plainD], ((below_alloc _ _).alloc (by simp) _).alloc (by simp; omega) _⟩
    · go_enter Try.func16, Try.ntmps16
      go_wp2_with fail
      refine (rkind_any _ _).mono ?_
      rintro e w1 ⟨rfl, rfl⟩
      go_wp2_with fail
      refine bodyPost_ret (v := .agg #[.int .i64 5, .int .i64 key, .int .i64 0, .int .i64 0]) (by simp [results, Try.results16, go_sem]) rfl ⟨by simp [plainD], ((below_alloc _ _).alloc (by simp) _).alloc (by simp; omega) _⟩
    · go_enter Try.func16, Try.ntmps16
      go_wp2_with fail
      refine (rkind_any _ _).mono ?_
      rintro e w1 ⟨rfl, rfl⟩
      go_wp2_with fail
      refine bodyPost_ret (v := .agg #[.int .i64 6, .int .i64 key, .int .i64 0, .int .i64 0]) (by simp [results, Try.results16, go_sem]) rfl ⟨by simp [plainD], ((below_alloc _ _).alloc (by simp) _).alloc (by simp; omega) _⟩
    · go_enter Try.func16, Try.ntmps16
      go_wp2_with fail
      refine (rkind_any _ _).mono ?_
      rintro e w1 ⟨rfl, rfl⟩
      go_wp2_with fail
      refine bodyPost_ret (v := .agg #[.int .i64 7, .int .i64 0, .int .i64 0, .int .i64 0]) (by simp [results, Try.results16, go_sem]) rfl ⟨by simp [plainD], ((below_alloc _ _).alloc (by simp) _).alloc (by simp; omega) _⟩
    · go_enter Try.func16, Try.ntmps16
      go_wp2_with fail
      refine (rkind_any _ _).mono ?_
      rintro e w1 ⟨rfl, rfl⟩
      go_wp2_with fail
      refine bodyPost_ret (v := .agg #[.int .i64 8, .int .i64 0, .int .i64 0, .int .i64 0]) (by simp [results, Try.results16, go_sem]) rfl ⟨by simp [plainD], ((below_alloc _ _).alloc (by simp) _).alloc (by simp; omega) _⟩
    · go_enter Try.func16, Try.ntmps16
      go_wp2_with fail
      refine (rkind_any _ _).mono ?_
      rintro e w1 ⟨rfl, rfl⟩
      go_wp2_with fail
      refine bodyPost_ret (v := .agg #[.int .i64 9, .int .i64 key, .int .i64 0, .int .i64 hi]) (by simp [results, Try.results16, go_sem]) rfl ⟨by simp [plainD], ((below_alloc _ _).alloc (by simp) _).alloc (by simp; omega) _⟩
  · have k2 : (k == 2) = false := by simp; omega
    have k3 : (k == 3) = false := by simp; omega
    have k9 : (k == 9) = false := by simp; omega
    have E : Hid _ := plain_out k key val hi h
    have K : Hid (kdErr k = 5) := by show kdErr k = 5; unfold kdErr; rw [if_pos (by omega)]
    clear h
    go_enter Try.func16, Try.ntmps16
    go_wp2_with fail
    refine (rkind_any _ _).mono ?_
    rintro e w1 ⟨rfl, rfl⟩
    rw [K.out]
    go_wp2_with fail
    refine bodyPost_ret (v := .agg #[.int .i64 k, .int .i64 0, .int .i64 0, .int .i64 0]) (by simp [results, Try.results16, go_sem]) rfl ⟨by rw [E.out], ((below_alloc _ _).alloc (by simp) _).alloc (by simp; omega) _⟩
end Go.Proofs.Ytjpfgfcggekklaa
namespace Go.Proofs.Ytjpfgfcggekklaa
open Go.RowKit

set_option maxRecDepth 100000 in
set_option maxHeartbeats 1000000 in
theorem pFind_any (base : Option Addr) (b o c : Nat) (ps : PL) (key : Int) (w : World) (h : PairsAt w base b o ps) :
    Calls Try.prog 22 #[.slice base ps.length c, .int .i64 key] w fun e w' => e = .returned (.tuple #[.int .i64 (findN ps key), .bool (findB ps key), .int .i64 (ckErr ps)]) ∧ Below w.heap.size w w' := by
  have HA : Hid _ := h
  clear h
  by_cases he : ckErr ps = 0
  · have hn : (ckErr ps != 0) = false := by simp [he]
    have F : Hid (findN ps key = posL key ps ∧ findB ps key = (getK key ps).isSome) := by unfold findN findB; rw [if_neg (fun q => q he), if_neg (fun q => q he)]; exact ⟨rfl, rfl⟩
    have HE : Hid _ := he
    clear he
    go_enter Try.func22, Try.ntmps22
    go_wp2_with fail
    refine (pcheck_any base b o c ps _ HA.out).mono ?_
    rintro e w1 ⟨rfl, hb⟩
    have B1 : Hid _ := hb
    clear hb
    go_wp2_with fail
    refine (place_any base b o c ps key _ (HA.out.below B1.out) (ckErr_zero.1 HE.out)).mono ?_
    rintro e w2 ⟨rfl, hb⟩
    have B2 : Hid (Below w.heap.size w w2) := B1.out.trans (hb.mono B1.out.size)
    clear hb
    go_wp2_with fail
    go_ret3
    rw [F.out.1, F.out.2, HE.out]
    exact ⟨rfl, B2.out⟩
  · have hn : (ckErr ps != 0) = true := by simp [he]
    have F : Hid (findN ps key = 0 ∧ findB ps key = false) := ⟨by unfold findN; rw [if_pos he], by unfold findB; rw [if_pos he]⟩
    clear he
    go_enter Try.func22, Try.ntmps22
    go_wp2_with fail
    refine (pcheck_any base b o c ps _ HA.out).mono ?_
    rintro e w1 ⟨rfl, hb⟩
    have B1 : Hid _ := hb
    clear hb
    go_wp2_with fail
    go_ret3
    rw [F.out.1, F.out.2]
    exact ⟨rfl, B1.out⟩
end Go.Proofs.Ytjpfgfcggekklaa
namespace Go.Proofs.Ytjpfgfcggekklaa
open Go.RowKit

set_option maxRecDepth 100000 in
set_option maxHeartbeats 1000000 in
theorem pPart_any (base : Option Addr) (b o c : Nat) (ps : PL) (lo hi : Int) (w : World) (h : PairsAt w base b o ps) (hnil : base = none → ps.length = 0 ∧ c = 0) (hcap : ps.length ≤ c) (hcm : c ≤ maxLen) (hn : ps.length ≤ 1000000) :
    Calls Try.prog 24 #[.slice base ps.length c, .int .i64 lo, .int .i64 hi] w fun e w' => ∃ v, e = .returned (.tuple #[v, .int .i64 (ckErr ps)]) ∧ Below w.heap.size w w' ∧ OwnP w' w.heap.size (partL ps lo hi) v := by
  have HA : Hid _ := h
  have HNI : Hid _ := hnil
  clear h hnil
  by_cases he : ckErr ps = 0
  · have hne : (ckErr ps != 0) = false := by simp [he]
    have F : Hid (partL ps lo hi = inL lo hi ps) := by show _ = _; unfold partL; rw [if_neg (fun q => q he)]
    have HE : Hid _ := he
    have hil : (inL lo hi ps).length ≤ 1000000 := Nat.le_trans (List.length_filter_le _ _) hn
    clear he
    go_enter Try.func24, Try.ntmps24
    go_wp2_with fail
    refine (pcheck_any base b o c ps _ HA.out).mono ?_
    rintro e w1 ⟨rfl, hb⟩
    have B1 : Hid _ := hb
    clear hb
    go_wp2_with fail
    refine (between_any base b o c ps lo hi _ (HA.out.below B1.out) (ckErr_zero.1 HE.out) HNI.out hcap hcm).mono ?_
    rintro e w2 ⟨a2, o2, c2, rfl, hb, hp2, hk2⟩
    have B2 : Hid (Below w.heap.size w w2) := B1.out.trans (hb.mono B1.out.size)
    have C2 : Hid (Calls _ _ _ _ _) := clone_any a2 b o2 c2 (inL lo hi ps) w2 hp2 hk2 (by omega)
    clear hb hp2 hk2
    go_wp2_with fail
    refine C2.out.mono ?_
    rintro e w3 ⟨v, rfl, ho, hb⟩
    have B3 : Hid (Below w.heap.size w w3) := B2.out.trans (hb.mono B2.out.size)
    have O3 : Hid (OwnP _ _ _ _) := ho.down B2.out.size
    clear hb ho
    go_wp2_with fail
    go_ret2
    rw [F.out, HE.out]
    exact ⟨v, rfl, B3.out, O3.out⟩
  · have hne : (ckErr ps != 0) = true := by simp [he]
    have F : Hid (partL ps lo hi = []) := by show _ = _; unfold partL; rw [if_pos he]
    clear he
    go_enter Try.func24, Try.ntmps24
    go_wp2_with fail
    refine (pcheck_any base b o c ps _ HA.out).mono ?_
    rintro e w1 ⟨rfl, hb⟩
    have B1 : Hid _ := hb
    clear hb
    go_wp2_with fail
    go_ret2
    rw [F.out]
    exact ⟨_, rfl, B1.out, ⟨none, 0, 0, rfl, fun h => absurd rfl h, ⟨fun h => absurd rfl h, fun h => absurd rfl h, fun i hi => by simp at hi, by simp⟩, fun _ => rfl⟩⟩
end Go.Proofs.Ytjpfgfcggekklaa
