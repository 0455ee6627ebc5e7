/- Through the layers: larchtop's copyPairs, samePairs, sameRet and sameRets. Through the layers: larchtop's fewPairs and rows. Through the layers, pure: what LarchMap asks of a sorted list. No walk. Layer 6: the reference's Run. A drawn region that only reads and calls what leaves all old blocks as they were: one walk, in the text's order. Layer 6: the reference's SameRets of equal lists. Layer 6: the law's copied and few; what Do says. Layer 6: the reference's Of, Find and Part. Layer 6: Changes and Plain, the program's and the reference's. Layer 6: the program's Find. Layer 6: the program's Part. -/
import Derived.Test.YtljidfaeljpnpaaMG15
import Derived.Deep.QuietTactic
import Derived.BigQuiet
import Derived.Test.YtljidfaeljpnpaaMG4
import Derived.Deep.RegionHeld3


namespace Go.Proofs.Ytljidfaeljpnpaa

open Go.RowKit
theorem run_bytes (ps : PL) (ops : List OpD) (j : Nat) (hby : (ps.length + ops.length + 2) * 48 ≤ 140737488355328) : ((runL ps (ops.take j)).length + 2) * 16 ≤ 140737488355328 := by
  have h1 := runL_length (ops.take j) ps
  have h2 : (ops.take j).length ≤ ops.length := List.length_take_le' _ _
  exact Nat.le_trans (Nat.mul_le_mul (Nat.add_le_add_right (Nat.le_trans h1 (Nat.add_le_add_left h2 _)) 2) (by decide : 16 ≤ 48)) hby

end Go.Proofs.Ytljidfaeljpnpaa



namespace Go.Proofs.Ytljidfaeljpnpaa

open Go.RowKit

structure BelowByM (w : World) where
  W : World
  h : Below w.heap.size w W
instance (w : World) : Inhabited (BelowByM w) := ⟨⟨w, Below.refl _ _⟩⟩
theorem wp_region_belowM {P : Program} {id : Nat} {Q : Exit → Act → World → Prop} {a : Act} {w : World} {l : List Oper} (hm : P.follows .mixedOrders = true) (hB : Region.lexB .any l.toArray = true)
    (h : wpQuiet P l.toArray (fun w' => ∃ p : BelowByM w, w' = p.W) (fun a' => ∀ w', (∃ p : BelowByM w, w' = p.W) → Q .normal a' w') l a) : (Code.region id l.toArray true).wp P Q a w :=
  wp_region_quiet (C := fun w' => ∃ p : BelowByM w, w' = p.W) hm hB ⟨⟨{ w with drawn := w.drawn + 1 }, ⟨rfl, rfl, rfl, Nat.le_refl _, fun _ _ => rfl⟩⟩, rfl⟩ (by simpa using h)
theorem below_callM {P : Program} {f : FuncId} {args : Array Value} {w : World} {p : BelowByM w} {v : Value}
    (h : Calls P f args p.W fun e w' => e = .returned v ∧ Below p.W.heap.size p.W w') : Calls P f args p.W fun e w' => e = .returned v ∧ ∃ p' : BelowByM w, w' = p'.W :=
  h.mono fun _ w' ⟨he, hb⟩ => ⟨he, ⟨w', p.h.trans (hb.mono p.h.size)⟩, rfl⟩
theorem BelowByM.cell {w : World} {b o : Nat} {v : Value} (hb : b < w.heap.size) (h : w.cell? ⟨b, o, none⟩ = some v) (p : BelowByM w) : p.W.cell? ⟨b, o, none⟩ = some v := (p.h.cell (p := ⟨b, o, none⟩) hb).trans h
theorem BelowByM.up {w0 w : World} (h0 : Below w0.heap.size w0 w) (p : BelowByM w) : Below w0.heap.size w0 p.W := h0.trans (p.h.mono h0.size)
end Go.Proofs.Ytljidfaeljpnpaa

namespace Go.Proofs.Ytljidfaeljpnpaa

open Go.RowKit

theorem retEq_refl (r : RetD) : retEqM r r = true := by simp [retEqM, plEqM]
end Go.Proofs.Ytljidfaeljpnpaa



namespace Go.Proofs.Ytljidfaeljpnpaa

open Go.RowKit
/-- The cells of operations. -/
def opC (o : OpD) : List Value := [.int .i64 o.kind, .int .i64 o.key, .int .i64 o.val, .int .i64 o.hi]
def opsC : List OpD → List Value
  | [] => []
  | o :: t => opC o ++ opsC t
theorem opsC_length : ∀ l : List OpD, (opsC l).length = l.length * 4
  | [] => rfl
  | o :: t => by simp [opsC, opC, opsC_length t]; omega
theorem opsC_get : ∀ (l : List OpD) (i : Nat), i < l.length → (opsC l)[i * 4]? = some (.int .i64 (opAt l i).kind) ∧ (opsC l)[i * 4 + 1]? = some (.int .i64 (opAt l i).key) ∧ (opsC l)[i * 4 + 2]? = some (.int .i64 (opAt l i).val) ∧ (opsC l)[i * 4 + 3]? = some (.int .i64 (opAt l i).hi)
  | [], i, h => by simp at h
  | o :: t, 0, _ => by simp [opsC, opC, opAt]
  | o :: t, i + 1, h => by
    obtain ⟨a, b, c, d⟩ := opsC_get t i (by simpa using h)
    have e : (i + 1) * 4 = i * 4 + 1 + 1 + 1 + 1 := by omega
    rw [e]
    refine ⟨?_, ?_, ?_, ?_⟩
    · simpa [opsC, opC, opAt] using a
    · simpa [opsC, opC, opAt] using b
    · simpa [opsC, opC, opAt] using c
    · simpa [opsC, opC, opAt] using d
theorem opsC_one (l : List OpD) : ∀ u ∈ opsC l, u.oneCell' = true := by
  induction l with
  | nil => simp [opsC]
  | cons p t ih => intro u hu; simp [opsC, opC] at hu; rcases hu with rfl | rfl | rfl | rfl | hu; rfl; rfl; rfl; rfl; exact ih u hu
theorem ops_news {w : World} {base : Option Addr} {b o : Nat} {l : List OpD} (h : OpsAt w base b o l) : ∀ ad, base = some ad → ∀ j u, (opsC l)[j]? = some u → w.cell? (ad.add j) = some u := by
  intro ad had j u hu
  have hl : j < l.length * 4 := by
    obtain ⟨q, _⟩ := List.getElem?_eq_some_iff.1 hu
    rwa [opsC_length] at q
  have hb := h.base (by omega)
  rw [had] at hb
  cases hb
  rw [addr_add'M]
  obtain ⟨a, b', c, d⟩ := h.cells (j / 4) (by omega)
  obtain ⟨a', b'', c', d'⟩ := opsC_get l (j / 4) (by omega)
  have hm : j % 4 = 0 ∨ j % 4 = 1 ∨ j % 4 = 2 ∨ j % 4 = 3 := by omega
  rcases hm with e | e | e | e
  · rw [show j / 4 * 4 = j by omega] at a a'; rw [hu] at a'; rw [a, ← a']
  · rw [show o + j / 4 * 4 + 1 = o + j by omega] at b'; rw [show j / 4 * 4 + 1 = j by omega, hu] at b''; rw [b', ← b'']
  · rw [show o + j / 4 * 4 + 2 = o + j by omega] at c; rw [show j / 4 * 4 + 2 = j by omega, hu] at c'; rw [c, ← c']
  · rw [show o + j / 4 * 4 + 3 = o + j by omega] at d; rw [show j / 4 * 4 + 3 = j by omega, hu] at d'; rw [d, ← d']
theorem ops_of_owns {w : World} {B : Nat} {e : TypeId} {v : Value} {l : List OpD} (h : w.ownsRow B e 4 v l.length (opsC l)) (hn : l.length ≤ maxLen) :
    ∃ base cap g, v = .slice base l.length cap ∧ OpsAt w base g 0 l ∧ NilOk base l.length cap ∧ (l.length ≠ 0 → B ≤ g) := by
  obtain ⟨_, h⟩ := h
  rcases h with ⟨rfl, h0⟩ | ⟨g, cap, cur, rfl, hg, hh, h1, h2, h3, h4⟩
  · exact ⟨none, 0, 0, by rw [h0], ⟨fun h => absurd h0 h, fun h => absurd h0 h, fun i hi => by omega, hn⟩, fun _ => ⟨h0, rfl⟩, fun q => absurd h0 q⟩
  · refine ⟨_, _, g, rfl, ⟨fun _ => rfl, fun _ => (Array.getElem?_eq_some_iff.1 hh).1, fun i hi => ?_, hn⟩, (fun h => by cases h), fun _ => hg⟩
    have hc : ∀ j, j < l.length * 4 → w.cell? ⟨g, 0 + j, none⟩ = (opsC l)[j]? := by
      intro j hj
      rw [← h4, List.getElem?_take, if_pos hj, Nat.zero_add]
      simp [World.cell?, hh]
    obtain ⟨a, b, c, d⟩ := opsC_get l i hi
    exact ⟨(hc _ (by omega)).trans a, (hc (i * 4 + 1) (by omega)).trans b, (hc (i * 4 + 2) (by omega)).trans c, (hc (i * 4 + 3) (by omega)).trans d⟩
theorem OpsAt.take {w : World} {base : Option Addr} {b o : Nat} {l : List OpD} (h : OpsAt w base b o l) (k : Nat) : OpsAt w base b o (l.take k) := by
  have hl : (l.take k).length ≤ l.length := List.length_take_le' _ _
  refine ⟨fun q => h.base (by omega), fun q => h.lt (by omega), fun i hi => ?_, by have := h.len; omega⟩
  have e : opAt (l.take k) i = opAt l i := by
    have hk : i < k := by rw [List.length_take] at hi; omega
    simp [opAt, List.getD_eq_getElem?_getD, hk]
  rw [e]
  exact h.cells i (by omega)
theorem PairsAt.take {w : World} {base : Option Addr} {b o : Nat} {l : PL} (h : PairsAt w base b o l) (k : Nat) : PairsAt w base b o (l.take k) := by
  have hl : (l.take k).length ≤ l.length := List.length_take_le' _ _
  refine ⟨fun q => h.base (by omega), fun q => h.lt (by omega), fun i hi => ?_, by have := h.len; omega⟩
  have e : keyAt (l.take k) i = keyAt l i ∧ valAt (l.take k) i = valAt l i := by
    have hk : i < k := by rw [List.length_take] at hi; omega
    simp [keyAt, valAt, List.getD_eq_getElem?_getD, hk]
  rw [e.1, e.2]
  exact h.cells i (by omega)
theorem op_infoM : (Try.prog.info? 39).map (fun i => (i.zero, i.size, i.bytes)) = some (some (.agg #[.int .i64 0, .int .i64 0, .int .i64 0, .int .i64 0]), 4, 32) := by kernel_rfl
theorem ops_underM : Try.prog.underlying 49 = some (.slice 39) := by kernel_rfl

/-- What Do says, with its answer read back. -/
def DoQ (f : FuncId) (base : Option Addr) (c : Nat) (ps : PL) (o : OpD) (E : Int) (L : PL) (r : RetD) (w : World) : Prop :=
  Calls Try.prog f #[.slice base ps.length c, .agg #[.int .i64 o.kind, .int .i64 o.key, .int .i64 o.val, .int .i64 o.hi]] w fun e w' => ∃ a1 c1 g1 a2 c2 g2, e = .returned (.tuple #[.slice a1 L.length c1, .agg #[.bool r.ok, .int .i64 r.key, .int .i64 r.val, .slice a2 r.pairs.length c2], .int .i64 E]) ∧ Below w.heap.size w w' ∧ PairsAt w' a1 g1 0 L ∧ PairsAt w' a2 g2 0 r.pairs ∧ (L.length ≠ 0 → w.heap.size ≤ g1) ∧ (r.pairs.length ≠ 0 → w.heap.size ≤ g2)
theorem doQ_of {f : FuncId} {base : Option Addr} {c : Nat} {ps : PL} {o : OpD} {w : World} (h : DoP f base c ps o w) {E : Int} {L : PL} {r : RetD} (hE : doErr ps o = E) (hL : doL ps o = L) (hr : doR ps o = r) : DoQ f base c ps o E L r w := by
  subst hE hL hr
  unfold DoP at h
  unfold DoQ
  refine h.mono ?_
  rintro e w' ⟨v1, a2, n2, c2, rfl, hb, h1, h2⟩
  obtain ⟨a1, g1, c1, rfl, hg1, hp1, _⟩ := h1
  obtain ⟨a2', g2, c2', e2, hg2, hp2, _⟩ := h2
  simp only [Value.slice.injEq] at e2
  obtain ⟨rfl, rfl, rfl⟩ := e2
  exact ⟨a1, c1, g1, a2, c2, g2, rfl, hb, hp1, hp2, hg1, hg2⟩
end Go.Proofs.Ytljidfaeljpnpaa








namespace Go.Proofs.Ytljidfaeljpnpaa

open Go.RowKit

theorem owns_dn {w : World} {B B' sz : Nat} {e : TypeId} {v : Value} {n : Nat} {xs : List Value} (h : w.ownsRow B e sz v n xs) (hB : B' ≤ B) : w.ownsRow B' e sz v n xs := by
  obtain ⟨h0, h⟩ := h
  rcases h with h | ⟨g, cap, cur, hv, hg, r⟩
  · exact ⟨h0, Or.inl h⟩
  · exact ⟨h0, Or.inr ⟨g, cap, cur, hv, by omega, r⟩⟩
theorem pairs_drew {w : World} {base : Option Addr} {b o : Nat} {ps : PL} (h : PairsAt w base b o ps) : PairsAt w.drew base b o ps := ⟨h.base, h.lt, h.cells, h.len⟩
theorem below_drew1 {B : Nat} {w w' : World} (h : Below B w w') : Below B w w'.drew := ⟨h.os, h.tape, h.output, h.size, h.block⟩
def partL (ps : PL) (lo hi : Int) : PL := if ckErr ps ≠ 0 then [] else inL lo hi ps
theorem pos_next (key : Int) (ps : PL) {j : Nat} (hj : j < ps.length) : posL key (ps.take (j + 1)) = if keyAt ps j < key then posL key (ps.take j) + 1 else posL key (ps.take j) := by
  unfold posL
  rw [take_next ps hj, List.filter_append, List.length_append]
  by_cases h : keyAt ps j < key
  · rw [if_pos h, List.filter_cons_of_pos (by simp [h])]; rfl
  · rw [if_neg h, List.filter_cons_of_neg (by simp [h])]; rfl
def findN (ps : PL) (key : Int) : Int := if ckErr ps ≠ 0 then 0 else posL key ps
def findB (ps : PL) (key : Int) : Bool := if ckErr ps ≠ 0 then false else (getK key ps).isSome
end Go.Proofs.Ytljidfaeljpnpaa

namespace Go.Proofs.Ytljidfaeljpnpaa

open Go.RowKit

def chB (k : Int) : Bool := decide (2 ≤ k ∧ k ≤ 4)
/-- What Plain leaves. -/
def plainD (o : OpD) : OpD := ⟨o.kind, if 1 ≤ o.kind ∧ o.kind ≤ 9 ∧ o.kind ≠ 7 ∧ o.kind ≠ 8 then o.key else 0, if o.kind = 2 ∨ o.kind = 3 then o.val else 0, if o.kind = 9 then o.hi else 0⟩
def opV (o : OpD) : Value := .agg #[.int .i64 o.kind, .int .i64 o.key, .int .i64 o.val, .int .i64 o.hi]

theorem plain_out (k key val hi : Int) (h : ¬ (1 ≤ k ∧ k ≤ 9)) : plainD ⟨k, key, val, hi⟩ = ⟨k, 0, 0, 0⟩ := by
  unfold plainD
  simp only
  rw [if_neg (by omega), if_neg (by omega), if_neg (by omega)]
end Go.Proofs.Ytljidfaeljpnpaa

namespace Go.Proofs.Ytljidfaeljpnpaa

open Go.RowKit
end Go.Proofs.Ytljidfaeljpnpaa

namespace Go.Proofs.Ytljidfaeljpnpaa

open Go.RowKit
end Go.Proofs.Ytljidfaeljpnpaa



namespace Go.Proofs.Ytljidfaeljpnpaa

open Go.RowKit

set_option maxRecDepth 100000 in
set_option maxHeartbeats 1000000 in
theorem tSame_any (ba bb : Option Addr) (ga oa ca gb ob cb : Nat) (a b : PL) (w : World) (ha : PairsAt w ba ga oa a) (hb : PairsAt w bb gb ob b) :
    Calls Try.prog 43 #[.slice ba a.length ca, .slice bb b.length cb] w fun e w' => e = .returned (.bool (plEqM a b)) ∧ Below w.heap.size w w' := by
  have la := ha.len
  have lb := hb.len
  unfold maxLen at la lb
  have HA : Hid _ := ha
  have HB : Hid _ := hb
  clear ha hb
  have hpn := pair_neqM
  by_cases hl : a.length = b.length
  · have hd : ((a.length : Int) != (b.length : Int)) = false := by simp [hl]
    have HL : Hid _ := hl
    clear hl
    go_enter Try.func43, Try.ntmps43
    go_wp2_with fail
    go_loopw [13] (fun i wr => ∃ j : Nat, j ≤ a.length ∧ i = .int .i64 j ∧ (∀ k, k < j → keyAt a k = keyAt b k ∧ valAt a k = valAt b k) ∧ Below w.heap.size w wr) (fun i _ => a.length - (intOf i).toNat)
    case atStart => exact ⟨0, Nat.zero_le _, rfl, fun k hk => by omega, Below.refl _ _⟩
    case round =>
      obtain ⟨j, hj, rfl, hall, hbw⟩ := hrel
      have HAL : Hid _ := hall
      clear hall
      by_cases hlt : j < a.length
      · have hlb : j < b.length := by have := HL.out; omega
        obtain rfl : ba = some ⟨ga, oa, none⟩ := HA.out.base (by omega)
        obtain rfl : bb = some ⟨gb, ob, none⟩ := HB.out.base (by omega)
        obtain ⟨c0, c1⟩ := (HA.out.below hbw).cells j hlt
        obtain ⟨c2, c3⟩ := (HB.out.below hbw).cells j hlb
        have j0 : (0 : Int) ≤ (j : Int) := Int.natCast_nonneg _
        have j1 : (j : Int) < (a.length : Int) := by omega
        have j2 : (j : Int) < (b.length : Int) := by omega
        by_cases hq : keyAt a j = keyAt b j ∧ valAt a j = valAt b j
        · have hx : (decide (keyAt a j = keyAt b j) && decide (valAt a j = valAt b j)) = true := by simp [hq.1, hq.2]
          have HQ : Hid _ := hq
          clear hq
          go_wp2_with fail
          go_quiet (fail)
          go_wp2_with fail
          refine ⟨⟨j + 1, by omega, by go_num, fun k hk => ?_, below_drewN hbw _⟩, by simp [intOf]; omega⟩
          by_cases e : k = j
          · subst e; exact HQ.out
          · exact HAL.out k (by omega)
        · have hx : (decide (keyAt a j = keyAt b j) && decide (valAt a j = valAt b j)) = false := by simp; intro h1 h2; exact hq ⟨h1, h2⟩
          have F : Hid (plEqM a b = false) := by
            show plEqM a b = false
            unfold plEqM
            simp only [decide_eq_false_iff_not]
            intro h
            exact hq (by rw [h]; exact ⟨rfl, rfl⟩)
          clear hq
          go_wp2_with fail
          go_quiet (fail)
          go_wp2_with fail
          go_ret
          exact ⟨by rw [F.out]; rfl, below_drewN hbw _⟩
      · have F : Hid (plEqM a b = true) := by
          show plEqM a b = true
          unfold plEqM
          simp only [decide_eq_true_eq]
          exact pl_ext HL.out (fun i hi => HAL.out i (by omega))
        go_wp2_with fail
        go_ret
        exact ⟨by rw [F.out]; rfl, hbw⟩
  · have hd : ((a.length : Int) != (b.length : Int)) = true := by simp; omega
    have F : Hid (plEqM a b = false) := by
      show plEqM a b = false
      unfold plEqM
      simp only [decide_eq_false_iff_not]
      intro h
      exact hl (by rw [h])
    clear hl
    go_enter Try.func43, Try.ntmps43
    go_wp2_with fail
    go_ret
    exact ⟨by rw [F.out]; rfl, Below.refl _ _⟩

set_option maxRecDepth 100000 in
set_option maxHeartbeats 1000000 in
theorem tSameRet_any (ba bb : Option Addr) (ga oa ca gb ob cb : Nat) (a b : RetD) (w : World) (ha : PairsAt w ba ga oa a.pairs) (hb : PairsAt w bb gb ob b.pairs) :
    Calls Try.prog 51 #[.agg #[.bool a.ok, .int .i64 a.key, .int .i64 a.val, .slice ba a.pairs.length ca], .agg #[.bool b.ok, .int .i64 b.key, .int .i64 b.val, .slice bb b.pairs.length cb]] w fun e w' => e = .returned (.bool (retEqM a b)) ∧ Below w.heap.size w w' := by
  have HA : Hid _ := ha
  have HB : Hid _ := hb
  clear ha hb
  obtain ⟨ok, key, val, ps⟩ := a
  obtain ⟨ok', key', val', ps'⟩ := b
  unfold retEqM
  simp only at HA HB ⊢
  by_cases h1 : (ok == ok') = true
  · by_cases h2 : key = key'
    · by_cases h3 : val = val'
      · subst h2 h3
        go_enter Try.func51, Try.ntmps51
        go_wp2_with fail
        refine (tSame_any _ _ ga oa _ gb ob _ ps ps' _ (HA.out.below ((below_allocM _ _).alloc (by simp) _)) (HB.out.below ((below_allocM _ _).alloc (by simp) _))).mono ?_
        rintro e w1 ⟨rfl, hb⟩
        go_wp2_with fail
        go_ret
        exact ⟨by simp [h1], ((below_allocM _ _).alloc (by simp) _).trans (hb.mono (by simp; omega))⟩
      · have h4 : (val == val') = false := by rw [beq_eq_false_iff_ne]; exact h3
        subst h2
        go_enter Try.func51, Try.ntmps51
        go_wp2_with fail
        go_ret
        exact ⟨by simp [h3], (below_allocM _ _).alloc (by simp) _⟩
    · have h4 : (key == key') = false := by rw [beq_eq_false_iff_ne]; exact h2
      go_enter Try.func51, Try.ntmps51
      go_wp2_with fail
      go_ret
      exact ⟨by simp [h2], (below_allocM _ _).alloc (by simp) _⟩
  · have h4 : (ok == ok') = false := by simpa using h1
    clear h1
    go_enter Try.func51, Try.ntmps51
    go_wp2_with fail
    go_ret
    exact ⟨by simp [h4], (below_allocM _ _).alloc (by simp) _⟩

set_option maxRecDepth 100000 in
set_option maxHeartbeats 1000000 in
theorem tCopy_any (bp : Option Addr) (gp op cp : Nat) (ps : PL) (w : World) (h : PairsAt w bp gp op ps) (hnil : NilOk bp ps.length cp) (hbig : ps.length * 16 ≤ 140737488355328) :
    Calls Try.prog 50 #[.slice bp ps.length cp] w fun e w' => ∃ base cap g, e = .returned (.slice base ps.length cap) ∧ Below w.heap.size w w' ∧ PairsAt w' base g 0 ps ∧ NilOk base ps.length cap ∧ ps.length ≤ cap ∧ cap ≤ maxLen ∧ (ps.length ≠ 0 → w.heap.size ≤ g) := by
  have hlen := h.len
  obtain ⟨i0, hi0, hz0, hz1, hz2⟩ := info_parts pr_infoM
  have HA : Hid _ := h
  have HNIL : Hid (bp = none → ps.length = 0 ∧ cp = 0) := hnil
  clear hnil h
  have ho : (w.alloc (.cells #[] 46)).ownsRow w.heap.size 46 2 (.slice (some ⟨w.heap.size, 0, none⟩) 0 0) 0 [] := ⟨rfl, Or.inr ⟨w.heap.size, 0, #[], rfl, Nat.le_refl _, heap_alloc_at _ _ _ rfl, Nat.le_refl _, by unfold maxLen; omega, rfl, rfl⟩⟩
  have HO : Hid (World.ownsRow _ _ _ _ _ _ _) := ho
  have hnews : ∀ a, bp = some a → ∀ j u, (pairCells ps)[j]? = some u → (w.alloc (.cells #[] 46)).cell? (a.add j) = some u := pairs_newsM (HA.out.below (below_allocM _ _))
  have HW : Hid _ := hnews
  clear ho hnews
  go_enter Try.func50, Try.ntmps50
  go_wp2_with (first | (at_builtin; (refine wpList_append_allM (by rfl) _ _ _ (by rfl) w.heap.size 46 i0 _ 2 16 prs_underM hi0 hz0 hz1 hz2 rfl (by omega) _ 0 [] (by rfl) HO.out bp ps.length cp (pairCells ps) (by rfl) HNIL.out (pairCells_length _) HW.out (pairCells_oneM _) (by omega) (by omega) (by simp) ?_); intro v' w1 hown1 hgrow hnl))
  go_ret
  rw [Nat.zero_add, List.nil_append] at hown1
  obtain ⟨base', cap', g', e', hge, _, hp'⟩ := pairs_of_owns hown1 hlen
  obtain ⟨base, cap, g, rfl, hp, h1, h2, h3⟩ := row_parts hown1 hlen
  simp only [Value.slice.injEq] at e'
  obtain ⟨rfl, _, rfl⟩ := e'
  exact ⟨base, cap, g', rfl, Below.grown (below_allocM _ _) hgrow (by simp) (by intro k hk; simp [Value.ownBlock] at hk; omega), hp', h1, h2, h3, hge⟩

set_option maxRecDepth 100000 in
set_option maxHeartbeats 1000000 in
theorem tSameRets_any (ba bb : Option Addr) (ga oa ca gb ob cb : Nat) (rs : List RetD) (w : World) (ha : RetsAtM w ba ga oa rs) (hb : RetsAtM w bb gb ob rs) :
    Calls Try.prog 44 #[.slice ba rs.length ca, .slice bb rs.length cb] w fun e w' => e = .returned (.bool true) ∧ Below w.heap.size w w' := by
  have la := ha.len
  unfold maxLen at la
  have HA : Hid _ := ha
  have HB : Hid _ := hb
  clear ha hb
  have hd : ((rs.length : Int) != (rs.length : Int)) = false := by simp
  go_enter Try.func44, Try.ntmps44
  go_wp2_with fail
  go_loopw [13] (fun i wr => ∃ j : Nat, j ≤ rs.length ∧ i = .int .i64 j ∧ Below w.heap.size w wr) (fun i _ => rs.length - (intOf i).toNat)
  case atStart => exact ⟨0, Nat.zero_le _, rfl, Below.refl _ _⟩
  case round =>
    obtain ⟨j, hj, rfl, hbw⟩ := hrel
    have HW : Hid _ := hbw
    by_cases hlt : j < rs.length
    · obtain rfl : ba = some ⟨ga, oa, none⟩ := HA.out.base (by omega)
      obtain rfl : bb = some ⟨gb, ob, none⟩ := HB.out.base (by omega)
      have EX := HA.out.below hbw
      have EY := HB.out.below hbw
      have zx : ga < wr.heap.size := EX.lt (by omega)
      have zy : gb < wr.heap.size := EY.lt (by omega)
      obtain ⟨a1, g1, p1, c1, d0, d1, d2, d3, hp1⟩ := EX.cells j hlt
      obtain ⟨a2, g2, p2, c2, e0, e1, e2, e3, hp2⟩ := EY.cells j hlt
      have y0 := BelowByM.cell zx d0
      have y1 := BelowByM.cell zx d1
      have y2 := BelowByM.cell zx d2
      have y3 := BelowByM.cell zx d3
      have z0 := BelowByM.cell zy e0
      have z1 := BelowByM.cell zy e1
      have z2 := BelowByM.cell zy e2
      have z3 := BelowByM.cell zy e3
      have SE : Hid (∀ p : BelowByM wr, Calls Try.prog 51 #[.agg #[.bool (retAt rs j).ok, .int .i64 (retAt rs j).key, .int .i64 (retAt rs j).val, .slice a1 (retAt rs j).pairs.length c1], .agg #[.bool (retAt rs j).ok, .int .i64 (retAt rs j).key, .int .i64 (retAt rs j).val, .slice a2 (retAt rs j).pairs.length c2]] p.W fun e w' => e = .returned (.bool true) ∧ Below p.W.heap.size p.W w') := fun p => by
        have := tSameRet_any a1 a2 g1 p1 c1 g2 p2 c2 (retAt rs j) (retAt rs j) p.W (hp1.below p.h) (hp2.below p.h)
        rw [retEq_refl] at this
        exact this
      have j0 : (0 : Int) ≤ (j : Int) := Int.natCast_nonneg _
      have j1 : (j : Int) < (rs.length : Int) := by omega
      clear EX EY hbw d0 d1 d2 d3 e0 e1 e2 e3 hp1 hp2
      go_wp2_with fail
      refine wp_region_belowM (by kernel_rfl) (by kernel_rfl) ?_
      repeat (go_big_quiet_step ((go_at_call 51; exact below_callM (SE.out _))))
      refine wpQuiet_nil ?_
      rintro _ ⟨p, rfl⟩
      have PB : Hid (Below wr.heap.size wr p.W) := p.h
      clear y0 y1 y2 y3 z0 z1 z2 z3
      go_wp2_with fail
      exact ⟨⟨j + 1, by omega, by go_num, HW.out.trans (PB.out.mono HW.out.size)⟩, by simp [intOf]; omega⟩
    · clear hbw
      go_wp2_with fail
      go_ret
      exact ⟨rfl, HW.out⟩

end Go.Proofs.Ytljidfaeljpnpaa

namespace Go.Proofs.Ytljidfaeljpnpaa

open Go.RowKit

set_option maxRecDepth 100000 in
set_option maxHeartbeats 1000000 in
theorem fewPairs_any (bp : Option Addr) (gp op cp N : Nat) (ps : PL) (w : World) (h : PairsAt w bp gp op ps) (hnil : NilOk bp ps.length cp) (hcap : ps.length ≤ cp) (hN : N ≤ 1000000) :
    Calls Try.prog 47 #[.slice bp ps.length cp, .int .i64 N] w fun e w' => ∃ base cap g, e = .returned (.slice base (ps.take N).length cap) ∧ Below w.heap.size w w' ∧ PairsAt w' base g 0 (ps.take N) ∧ NilOk base (ps.take N).length cap ∧ (ps.take N).length ≤ cap ∧ cap ≤ maxLen ∧ ((ps.take N).length ≠ 0 → w.heap.size ≤ g) := by
  obtain ⟨T, hT⟩ : ∃ T, ps.take N = T := ⟨_, rfl⟩
  have hlT : T.length = min N ps.length := by rw [← hT]; exact List.length_take
  have CP : Hid (Calls Try.prog 50 #[.slice bp T.length cp] w fun e w' => ∃ base cap g, e = .returned (.slice base T.length cap) ∧ Below w.heap.size w w' ∧ PairsAt w' base g 0 T ∧ NilOk base T.length cap ∧ T.length ≤ cap ∧ cap ≤ maxLen ∧ (T.length ≠ 0 → w.heap.size ≤ g)) := by
    have := tCopy_any bp gp op cp (ps.take N) w (h.take N) (fun q => ⟨by rw [hT]; have := (hnil q).1; omega, (hnil q).2⟩) (by rw [hT]; omega)
    rw [hT] at this
    exact this
  rw [hT]
  clear h hnil hT
  by_cases hc : N < ps.length
  · have c1 : (N : Int) < (ps.length : Int) := by omega
    have c2 : (0 : Int) ≤ (N : Int) := by omega
    have c3 : (N : Int) ≤ (cp : Int) := by omega
    have e3 : T.length = N := by omega
    rw [e3] at CP ⊢
    have E3 : Hid _ := e3
    clear hlT e3 hc
    go_enter Try.func47, Try.ntmps47
    go_wp2_with fail
    refine CP.out.mono ?_
    rintro e w1 ⟨base, cap, g, rfl, r1, r2, r3, r4, r5, r6⟩
    go_wp2_with fail
    go_ret
    exact ⟨base, cap, g, rfl, r1, r2, r3, r4, r5, r6⟩
  · have c1 : ¬ (N : Int) < (ps.length : Int) := by omega
    have e3 : T.length = ps.length := by omega
    rw [e3] at CP ⊢
    clear hlT e3 hc
    go_enter Try.func47, Try.ntmps47
    go_wp2_with fail
    refine CP.out.mono ?_
    rintro e w1 ⟨base, cap, g, rfl, r1, r2, r3, r4, r5, r6⟩
    go_wp2_with fail
    go_ret
    exact ⟨base, cap, g, rfl, r1, r2, r3, r4, r5, r6⟩

theorem run_rows : runErr [] [⟨2, 3, 4, 0⟩, ⟨8, 0, 0, 0⟩] = 0 ∧ runLd [] [⟨2, 3, 4, 0⟩, ⟨8, 0, 0, 0⟩] = [(3, 4)] ∧ runRd [] [⟨2, 3, 4, 0⟩, ⟨8, 0, 0, 0⟩] = [RetD.zero, ⟨true, 3, 4, []⟩] := by
  refine ⟨by rfl, by rfl, by rfl⟩
theorem pairs_lit {w : World} {g : Nat} (hg : g < w.heap.size) {k v : Int} (h0 : w.cell? ⟨g, 0, none⟩ = some (.int .i64 k)) (h1 : w.cell? ⟨g, 1, none⟩ = some (.int .i64 v)) : PairsAt w (some ⟨g, 0, none⟩) g 0 [(k, v)] := by
  refine ⟨fun _ => rfl, fun _ => hg, fun i hi => ?_, by unfold maxLen; simp⟩
  obtain rfl : i = 0 := by simpa using hi
  simpa [keyAt, valAt] using ⟨h0, h1⟩
theorem ops_lit (w : World) : OpsAt (w.alloc (.cells #[.int .i64 2, .int .i64 3, .int .i64 4, .int .i64 0, .int .i64 8, .int .i64 0, .int .i64 0, .int .i64 0] 39)) (some ⟨w.heap.size, 0, none⟩) w.heap.size 0 [⟨2, 3, 4, 0⟩, ⟨8, 0, 0, 0⟩] := by
  refine ⟨fun _ => rfl, fun _ => by simp, fun i hi => ?_, by unfold maxLen; simp⟩
  have hi2 : i < 2 := by simpa using hi
  have D : i = 0 ∨ i = 1 := by omega
  rcases D with rfl | rfl
  · exact ⟨cell_newM w _ _ 0, cell_newM w _ _ 1, cell_newM w _ _ 2, cell_newM w _ _ 3⟩
  · exact ⟨cell_newM w _ _ 4, cell_newM w _ _ 5, cell_newM w _ _ 6, cell_newM w _ _ 7⟩
theorem rets_lit (w : World) : RetsAtM (w.alloc (.cells #[.bool false, .int .i64 0, .int .i64 0, .slice none 0 0, .bool true, .int .i64 3, .int .i64 4, .slice none 0 0] 42)) (some ⟨w.heap.size, 0, none⟩) w.heap.size 0 [RetD.zero, ⟨true, 3, 4, []⟩] := by
  refine ⟨fun _ => rfl, fun _ => by simp, fun i hi => ?_, by unfold maxLen; simp⟩
  have hi2 : i < 2 := by simpa using hi
  have D : i = 0 ∨ i = 1 := by omega
  rcases D with rfl | rfl
  · exact ⟨none, 0, 0, 0, cell_newM w _ _ 0, cell_newM w _ _ 1, cell_newM w _ _ 2, cell_newM w _ _ 3, pairs_noneM _⟩
  · exact ⟨none, 0, 0, 0, cell_newM w _ _ 4, cell_newM w _ _ 5, cell_newM w _ _ 6, cell_newM w _ _ 7, pairs_noneM _⟩
set_option maxRecDepth 100000 in
set_option maxHeartbeats 1000000 in
theorem rows_any (w : World) : Calls Try.prog 19 #[] w fun e w' => e = .returned (.bool true) ∧ Below w.heap.size w w' := by
  have RUN : Hid (∀ W, OpsAt W (some ⟨w.heap.size, 0, none⟩) w.heap.size 0 [⟨2, 3, 4, 0⟩, ⟨8, 0, 0, 0⟩] → Calls Try.prog 42 #[.slice none 0 0, .slice (some ⟨w.heap.size, 0, none⟩) 2 2] W fun e w' => ∃ v1 a2 c2 g2, e = .returned (.tuple #[v1, .slice a2 2 c2, .int .i64 0]) ∧ Below W.heap.size W w' ∧ OwnPM w' W.heap.size [(3, 4)] v1 ∧ RetsAtM w' a2 g2 0 [RetD.zero, ⟨true, 3, 4, []⟩]) := fun W h => by
    have := pRun_any none 0 0 0 [] (some ⟨w.heap.size, 0, none⟩) w.heap.size 0 2 [⟨2, 3, 4, 0⟩, ⟨8, 0, 0, 0⟩] W (pairs_noneM W) (fun _ => ⟨rfl, rfl⟩) h (by simp)
    rw [run_rows.1, run_rows.2.1, run_rows.2.2] at this
    exact this
  go_enter Try.func19, Try.ntmps19
  go_wp2_with fail
  refine (RUN.out _ (ops_lit w)).mono ?_
  rintro e w1 ⟨v1, a2, c2, g2, rfl, hb1, ⟨a1, g1, c1, rfl, _, hp1, _⟩, hr1⟩
  have B1 : Hid (Below w.heap.size w w1) := (below_allocM _ _).trans (hb1.mono (by simp))
  have P1 : Hid (PairsAt _ _ _ _ _) := hp1
  have R1 : Hid (RetsAtM _ _ _ _ _) := hr1
  clear hb1 hp1 hr1
  go_wp2_with fail
  refine (tSame_any a1 (some ⟨w1.heap.size, 0, none⟩) g1 0 c1 w1.heap.size 0 1 [(3, 4)] [(3, 4)] _ (P1.out.below (below_allocM _ _)) (pairs_lit (by simp) (cell_newM w1 _ _ 0) (cell_newM w1 _ _ 1))).mono ?_
  rintro e w2 ⟨rfl, hb2⟩
  have B2 : Hid (Below w1.heap.size w1 w2) := (below_allocM _ _).trans (hb2.mono (by simp))
  clear hb2
  go_wp2_with fail
  refine (tSameRets_any a2 (some ⟨w2.heap.size, 0, none⟩) g2 0 c2 w2.heap.size 0 2 [RetD.zero, ⟨true, 3, 4, []⟩] _ ((R1.out.below B2.out).below (below_allocM _ _)) (rets_lit w2)).mono ?_
  rintro e w3 ⟨rfl, hb3⟩
  go_wp2_with fail
  go_ret
  refine ⟨by simp, ?_⟩
  have h12 := B1.out.trans (B2.out.mono B1.out.size)
  exact (h12.alloc h12.size _).trans (hb3.mono (by have := h12.size; simp; omega))
end Go.Proofs.Ytljidfaeljpnpaa

namespace Go.Proofs.Ytljidfaeljpnpaa

open Go.RowKit

/-- The operations of a right kind among the first j, sixty at most. -/
def fitN (Os : List OpD) : Nat → List OpD
  | 0 => []
  | j + 1 => if kdErr (opAt Os j).kind = 0 ∧ (fitN Os j).length < 60 then fitN Os j ++ [opAt Os j] else fitN Os j
theorem fitN_le (Os : List OpD) : ∀ j, (fitN Os j).length ≤ 60
  | 0 => by simp [fitN]
  | j + 1 => by
    have := fitN_le Os j
    simp only [fitN]
    split
    · rename_i q; simp; omega
    · exact this
theorem fitN_kind (Os : List OpD) : ∀ j, ∀ o ∈ fitN Os j, kdErr o.kind = 0
  | 0, o, h => by simp [fitN] at h
  | j + 1, o, h => by
    simp only [fitN] at h
    split at h
    · rename_i q
      rcases List.mem_append.1 h with r | r
      · exact fitN_kind Os j o r
      · simp at r; rw [r]; exact q.1
    · exact fitN_kind Os j o h
theorem kN_all {ops : List OpD} : ∀ n, (∀ i, i < n → kdErr (opAt ops i).kind = 0) → kN ops n = true
  | 0, _ => rfl
  | n + 1, h => by
    show (kN ops n && decide _) = true
    rw [kN_all n (fun i hi => h i (by omega)), h n (by omega)]
    rfl
theorem kErr_fit (Os : List OpD) (j : Nat) : kErr (fitN Os j) = 0 := by
  unfold kErr
  rw [kN_all]
  · rfl
  · intro i hi
    refine fitN_kind Os j _ ?_
    simp only [opAt, List.getD_eq_getElem?_getD, List.getElem?_eq_getElem hi]
    exact List.getElem_mem hi
theorem opsC_snoc : ∀ (l : List OpD) (o : OpD), opsC (l ++ [o]) = opsC l ++ opC o
  | [], o => by simp [opsC]
  | p :: t, o => by simp [opsC, opsC_snoc t o]

theorem pair_at {L : PL} {i : Nat} (h : i < L.length) : L[i]? = some (keyAt L i, valAt L i) := pair_eta L i h
theorem srt_keys {L : PL} (hs : Srt L) {i j : Nat} (hij : i < j) (hj : j < L.length) : keyAt L i < keyAt L j := by
  have := List.pairwise_iff_getElem.1 hs i j (by omega) hj hij
  simpa [keyAt, List.getD_eq_getElem?_getD, List.getElem?_eq_getElem hj, List.getElem?_eq_getElem (show i < L.length by omega)] using this
theorem pos_at {L : PL} (hs : Srt L) {i : Nat} (h : i < L.length) : posL (keyAt L i) L = i := by
  obtain ⟨_, hq⟩ := below_take (keyAt L i) hs
  have hle := posL_le (keyAt L i) L
  have h1 : ¬ i < posL (keyAt L i) L := fun q => by have := (hq i h).1 q; omega
  by_cases e : posL (keyAt L i) L = i
  · exact e
  · have hl : posL (keyAt L i) L < i := by omega
    have := srt_keys hs hl h
    have := (hq _ (by omega)).2 this
    omega
theorem get_at {L : PL} (hs : Srt L) {i : Nat} (h : i < L.length) : getK (keyAt L i) L = some (valAt L i) := by
  rw [getK_pos _ hs, pos_at hs h, if_pos ⟨h, rfl⟩]
/-- Get of a key that is there. -/
theorem do_get {L : PL} (hs : Srt L) {i : Nat} (h : i < L.length) : doErr L ⟨1, keyAt L i, 0, 0⟩ = 0 ∧ doR L ⟨1, keyAt L i, 0, 0⟩ = ⟨true, 0, valAt L i, []⟩ := by
  have e : doErr L ⟨1, keyAt L i, 0, 0⟩ = 0 := by unfold doErr; rw [if_pos (ckErr_zero.2 hs)]; rfl
  refine ⟨e, ?_⟩
  unfold doR
  rw [if_pos e]
  simp [stepR, get_at hs h]
theorem find_at {L : PL} (hs : Srt L) {i : Nat} (h : i < L.length) : findN L (keyAt L i) = i ∧ findB L (keyAt L i) = true := by
  have e := ckErr_zero.2 hs
  unfold findN findB
  rw [if_neg (fun q => q e), if_neg (fun q => q e), pos_at hs h, get_at hs h]
  exact ⟨rfl, rfl⟩
theorem in_next (lo hi : Int) {L : PL} {j : Nat} (h : j < L.length) : inL lo hi (L.take (j + 1)) = if lo ≤ keyAt L j ∧ keyAt L j ≤ hi then inL lo hi (L.take j) ++ [(keyAt L j, valAt L j)] else inL lo hi (L.take j) := by
  unfold inL
  rw [take_next L h, List.filter_append]
  split
  · rename_i q; rw [List.filter_cons_of_pos (by simpa using q)]; rfl
  · rename_i q; rw [List.filter_cons_of_neg (by simpa using q)]; simp
theorem in_at (lo hi : Int) {L : PL} {j : Nat} (h : j < L.length) (hr : lo ≤ keyAt L j ∧ keyAt L j ≤ hi) : (inL lo hi (L.take j)).length < (inL lo hi L).length ∧ keyAt (inL lo hi L) (inL lo hi (L.take j)).length = keyAt L j ∧ valAt (inL lo hi L) (inL lo hi (L.take j)).length = valAt L j := by
  have e : inL lo hi L = inL lo hi (L.take j) ++ (keyAt L j, valAt L j) :: inL lo hi (L.drop (j + 1)) := by
    have h1 : L = L.take (j + 1) ++ L.drop (j + 1) := (List.take_append_drop _ _).symm
    have h2 : inL lo hi L = inL lo hi (L.take (j + 1)) ++ inL lo hi (L.drop (j + 1)) := by
      unfold inL
      rw [← List.filter_append, List.take_append_drop]
    rw [h2, in_next lo hi h, if_pos hr, List.append_assoc]
    rfl
  rw [e]
  refine ⟨by simp, ?_, ?_⟩
  · simp [keyAt, List.getD_eq_getElem?_getD]
  · simp [valAt, List.getD_eq_getElem?_getD]
/-- What the successor of lo is. -/
structure AfterOk (L : PL) (lo : Int) (A : RetD) : Prop where
  some : ∀ i, i < L.length → lo < keyAt L i → A.ok = true ∧ A.key ≤ keyAt L i
  own : A.ok = true → lo < A.key
structure BeforeOk (L : PL) (lo : Int) (A : RetD) : Prop where
  some : ∀ i, i < L.length → keyAt L i < lo → A.ok = true ∧ keyAt L i ≤ A.key
  own : A.ok = true → A.key < lo
theorem mem_at {L : PL} {i : Nat} (h : i < L.length) : (keyAt L i, valAt L i) ∈ L := List.mem_of_getElem? (pair_eta L i h)
theorem after_ok {L : PL} (hs : Srt L) (lo : Int) : doErr L ⟨5, lo, 0, 0⟩ = 0 ∧ AfterOk L lo (doR L ⟨5, lo, 0, 0⟩) := by
  have e : doErr L ⟨5, lo, 0, 0⟩ = 0 := by unfold doErr; rw [if_pos (ckErr_zero.2 hs)]; rfl
  refine ⟨e, ?_⟩
  have hr : doR L ⟨5, lo, 0, 0⟩ = tellR ((L.filter fun p => decide (lo < p.1)).head?) := by
    unfold doR
    rw [if_pos e]
    simp [stepR, nbN_next L lo _ (Nat.le_refl _)]
  rw [hr]
  have hf : Srt (L.filter fun p => decide (lo < p.1)) := hs.sublist List.filter_sublist
  cases hq : L.filter fun p => decide (lo < p.1) with
  | nil =>
    refine ⟨fun i hi hk => ?_, fun q => by simp [tellR, RetD.zero] at q⟩
    have : (keyAt L i, valAt L i) ∈ L.filter fun p => decide (lo < p.1) := List.mem_filter.2 ⟨mem_at hi, by simpa using hk⟩
    rw [hq] at this
    cases this
  | cons p t =>
    rw [hq] at hf
    have hp : p ∈ L.filter fun p => decide (lo < p.1) := by rw [hq]; exact List.mem_cons_self ..
    have hp2 : lo < p.1 := by simpa using (List.mem_filter.1 hp).2
    refine ⟨fun i hi hk => ⟨rfl, ?_⟩, fun _ => hp2⟩
    have : (keyAt L i, valAt L i) ∈ L.filter fun p => decide (lo < p.1) := List.mem_filter.2 ⟨mem_at hi, by simpa using hk⟩
    rw [hq] at this
    show p.1 ≤ keyAt L i
    rcases List.mem_cons.1 this with r | r
    · rw [← r]; exact Int.le_refl _
    · have := List.rel_of_pairwise_cons hf r
      simp only at this
      omega
theorem before_ok {L : PL} (hs : Srt L) (lo : Int) : doErr L ⟨6, lo, 0, 0⟩ = 0 ∧ BeforeOk L lo (doR L ⟨6, lo, 0, 0⟩) := by
  have e : doErr L ⟨6, lo, 0, 0⟩ = 0 := by unfold doErr; rw [if_pos (ckErr_zero.2 hs)]; rfl
  refine ⟨e, ?_⟩
  have hr : doR L ⟨6, lo, 0, 0⟩ = tellR ((L.filter fun p => decide (p.1 < lo)).getLast?) := by
    unfold doR
    rw [if_pos e]
    simp [stepR, nbN_back L lo _ (Nat.le_refl _)]
  rw [hr]
  have hf : Srt (L.filter fun p => decide (p.1 < lo)) := hs.sublist List.filter_sublist
  rcases List.eq_nil_or_concat (L.filter fun p => decide (p.1 < lo)) with hq | ⟨t, p, hq⟩
  · rw [hq]
    refine ⟨fun i hi hk => ?_, fun q => by simp [tellR, RetD.zero] at q⟩
    have : (keyAt L i, valAt L i) ∈ L.filter fun p => decide (p.1 < lo) := List.mem_filter.2 ⟨mem_at hi, by simpa using hk⟩
    rw [hq] at this
    cases this
  · rw [List.concat_eq_append] at hq
    rw [hq] at hf ⊢
    rw [List.getLast?_concat]
    have hp : p ∈ L.filter fun p => decide (p.1 < lo) := by rw [hq]; simp
    have hp2 : p.1 < lo := by simpa using (List.mem_filter.1 hp).2
    refine ⟨fun i hi hk => ⟨rfl, ?_⟩, fun _ => hp2⟩
    have : (keyAt L i, valAt L i) ∈ L.filter fun p => decide (p.1 < lo) := List.mem_filter.2 ⟨mem_at hi, by simpa using hk⟩
    rw [hq] at this
    show keyAt L i ≤ p.1
    rcases List.mem_append.1 this with r | r
    · have := (List.pairwise_append.1 hf).2.2 _ r p (by simp)
      simp only at this
      omega
    · simp at r; rw [← r]; exact Int.le_refl _
end Go.Proofs.Ytljidfaeljpnpaa
