/- Layer 6: the reference's Fits. -/
import Derived.Test.YtjpfgfcggekklaaMD1
namespace Go.Proofs.Ytjpfgfcggekklaa
open Go.RowKit

/-- Is that answer right? -/
def fitB (ps : PL) (o : OpD) (r : RetD) : Bool := if doErr ps o = 0 then retEq r (doR ps o) else false
theorem OwnP.pairs {w : World} {B : Nat} {ps : PL} {a : Option Addr} {n c : Nat} (h : OwnP w B ps (.slice a n c)) : n = ps.length ∧ ∃ g, PairsAt w a g 0 ps := by
  obtain ⟨a', g, cap, e, _, hp, _⟩ := h
  simp only [Value.slice.injEq] at e
  obtain ⟨rfl, rfl, rfl⟩ := e
  exact ⟨rfl, g, hp⟩

set_option maxRecDepth 100000 in
set_option maxHeartbeats 4000000 in
theorem rFits_any (base : Option Addr) (b o c : Nat) (ps : PL) (op : OpD) (r : RetD) (ra : Option Addr) (rg ro rc : Nat) (w : World) (h : PairsAt w base b o ps) (hnil : base = none → ps.length = 0 ∧ c = 0) (hby : (ps.length + 2) * 16 ≤ 140737488355328) (hr : PairsAt w ra rg ro r.pairs) :
    Calls Try.prog 38 #[.slice base ps.length c, .agg #[.int .i64 op.kind, .int .i64 op.key, .int .i64 op.val, .int .i64 op.hi], .agg #[.bool r.ok, .int .i64 r.key, .int .i64 r.val, .slice ra r.pairs.length rc]] w fun e w' => e = .returned (.tuple #[.bool (fitB ps op r), .int .i64 (doErr ps op)]) ∧ Below w.heap.size w w' := by
  have HA : Hid _ := h
  have HNIL : Hid _ := hnil
  have HRP : Hid _ := hr
  clear h hnil hr
  have DP : Hid (∀ W, PairsAt W base b o ps → DoP 32 base c ps op W) := fun W hW => rDo_any base b o c ps op W hW HNIL.out hby
  obtain ⟨W2, hW2⟩ : ∃ W2, W2 = (w.alloc (.cells #[.int .i64 op.kind, .int .i64 op.key, .int .i64 op.val, .int .i64 op.hi] 25)).alloc (.cells #[.bool r.ok, .int .i64 r.key, .int .i64 r.val, .slice ra r.pairs.length rc] 27) := ⟨_, rfl⟩
  have b2 : Below w.heap.size w W2 := by rw [hW2]; exact (below_alloc _ _).alloc (by simp) _
  have z2 : W2.heap.size = w.heap.size + 2 := by rw [hW2]; simp
  have z1 : (w.alloc (.cells #[.int .i64 op.kind, .int .i64 op.key, .int .i64 op.val, .int .i64 op.hi] 25)).heap.size = w.heap.size + 1 := by simp
  have rcell : ∀ k, W2.cell? ⟨w.heap.size + 1, k, none⟩ = (#[.bool r.ok, .int .i64 r.key, .int .i64 r.val, .slice ra r.pairs.length rc] : Array Value)[k]? := fun k => by rw [hW2, ← z1]; exact cell_new _ _ _ k
  have HB2 : Hid _ := b2
  have HRC : Hid _ := rcell
  have z2a : w.heap.size + 1 < W2.heap.size := by omega
  have z2b : W2.heap.size ≤ w.heap.size + 2 := by omega
  clear b2 rcell z2 z1
  by_cases he : doErr ps op = 0
  · have q1 : (doErr ps op != 0) = false := by simp [he]
    have EF : fitB ps op r = retEq r (doR ps op) := by unfold fitB; rw [if_pos he]
    rw [EF, he]
    have HE : Hid _ := he
    clear EF he
    go_enter Try.func38, Try.ntmps38
    go_wp2_with fail
    rw [← hW2]
    have D := DP.out W2 (HA.out.below HB2.out)
    unfold DoP at D
    refine D.mono ?_
    clear D
    rintro e w3 ⟨v1, a2, n2, c2, rfl, hb3, ho1, ho2⟩
    obtain ⟨rfl, g2, hp2⟩ := ho2.pairs
    have z3 := hb3.size
    have HB3 : Hid _ := hb3
    have HP2 : Hid _ := hp2
    have r0 : w3.cell? ⟨w.heap.size + 1, 0, none⟩ = some (.bool r.ok) := (hb3.cell (p := ⟨w.heap.size + 1, 0, none⟩) z2a).trans (HRC.out 0)
    have r1 : w3.cell? ⟨w.heap.size + 1, 1, none⟩ = some (.int .i64 r.key) := (hb3.cell (p := ⟨w.heap.size + 1, 1, none⟩) z2a).trans (HRC.out 1)
    have r2 : w3.cell? ⟨w.heap.size + 1, 2, none⟩ = some (.int .i64 r.val) := (hb3.cell (p := ⟨w.heap.size + 1, 2, none⟩) z2a).trans (HRC.out 2)
    have r3 : w3.cell? ⟨w.heap.size + 1, 3, none⟩ = some (.slice ra r.pairs.length rc) := (hb3.cell (p := ⟨w.heap.size + 1, 3, none⟩) z2a).trans (HRC.out 3)
    have zr : w.heap.size + 1 < w3.heap.size := by omega
    clear hW2 hb3 ho1 ho2 hp2
    go_wp2_with fail
    refine (sameRet_any ra a2 rg ro rc g2 0 c2 r (doR ps op) _ (((HRP.out.below HB2.out).below HB3.out).below (below_alloc _ _)) (HP2.out.below (below_alloc _ _))).mono ?_
    rintro e w4 ⟨rfl, hb4⟩
    have B4 : Hid (Below w.heap.size w w4) := (HB2.out.trans (HB3.out.mono (by omega))).trans (((below_alloc _ _).mono (by omega)).trans (hb4.mono (by simp; omega)))
    clear hb4
    go_wp2_with fail
    go_ret2
    exact ⟨rfl, B4.out⟩
  · have q1 : (doErr ps op != 0) = true := by simp [he]
    have EF : fitB ps op r = false := by unfold fitB; rw [if_neg he]
    rw [EF]
    clear EF he
    go_enter Try.func38, Try.ntmps38
    go_wp2_with fail
    rw [← hW2]
    have D := DP.out W2 (HA.out.below HB2.out)
    unfold DoP at D
    refine D.mono ?_
    clear D
    rintro e w3 ⟨v1, a2, n2, c2, rfl, hb3, ho1, ho2⟩
    have HB3 : Hid _ := hb3
    have z3 := hb3.size
    clear hW2 hb3 ho1 ho2
    go_wp2_with fail
    go_ret2
    exact ⟨rfl, (HB2.out.trans (HB3.out.mono (by omega))).trans ((below_alloc _ _).mono (by omega))⟩
end Go.Proofs.Ytjpfgfcggekklaa
