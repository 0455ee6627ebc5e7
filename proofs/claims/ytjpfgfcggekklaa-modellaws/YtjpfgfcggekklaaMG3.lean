/- Layer 6: the program's pairAt and between; a clone that is an own row. -/
import Derived.Test.YtjpfgfcggekklaaMG2
import Derived.Test.YtjpfgfcggekklaaMD1
namespace Go.Proofs.Ytjpfgfcggekklaa
open Go.RowKit

/-- The pair at a place, if there is such a place. -/
def pAt (ps : PL) (i : Int) : Option (Int × Int) := if 0 ≤ i ∧ i < (ps.length : Int) then some (keyAt ps i.toNat, valAt ps i.toNat) else none
theorem store4 {wr : World} {N : Nat} {x0 x1 x2 x3 : Value} (b0 : wr.cell? ⟨N, 0, none⟩ = some x0) (b1 : wr.cell? ⟨N, 1, none⟩ = some x1) (b2 : wr.cell? ⟨N, 2, none⟩ = some x2) (b3 : wr.cell? ⟨N, 3, none⟩ = some x3) (v0 v1 v2 v3 : Value) :
    let W := (((wr.setCell ⟨N, 0, none⟩ v0).setCell ⟨N, 1, none⟩ v1).setCell ⟨N, 2, none⟩ v2).setCell ⟨N, 3, none⟩ v3
    W.cell? ⟨N, 0, none⟩ = some v0 ∧ W.cell? ⟨N, 1, none⟩ = some v1 ∧ W.cell? ⟨N, 2, none⟩ = some v2 ∧ W.cell? ⟨N, 3, none⟩ = some v3 := by
  intro W
  have hn : ∀ {i j : Nat}, i ≠ j → (⟨N, i, none⟩ : Addr) ≠ ⟨N, j, none⟩ := fun e q => e (congrArg Addr.off q)
  refine ⟨?_, ?_, ?_, ?_⟩
  · show World.cell? (World.setCell _ _ _) _ = _
    rw [World.cell?_setCell_other _ _ _ _ (hn (by omega)), World.cell?_setCell_other _ _ _ _ (hn (by omega)), World.cell?_setCell_other _ _ _ _ (hn (by omega)), World.cell?_setCell_same _ _ _ b0]
  · show World.cell? (World.setCell _ _ _) _ = _
    rw [World.cell?_setCell_other _ _ _ _ (hn (by omega)), World.cell?_setCell_other _ _ _ _ (hn (by omega))]
    exact World.cell?_setCell_same _ _ _ (by rw [World.cell?_setCell_other _ _ _ _ (hn (by omega))]; exact b1)
  · show World.cell? (World.setCell _ _ _) _ = _
    rw [World.cell?_setCell_other _ _ _ _ (hn (by omega))]
    exact World.cell?_setCell_same _ _ _ (by rw [World.cell?_setCell_other _ _ _ _ (hn (by omega)), World.cell?_setCell_other _ _ _ _ (hn (by omega))]; exact b2)
  · exact World.cell?_setCell_same _ _ _ (by rw [World.cell?_setCell_other _ _ _ _ (hn (by omega)), World.cell?_setCell_other _ _ _ _ (hn (by omega)), World.cell?_setCell_other _ _ _ _ (hn (by omega))]; exact b3)
theorem below4 {w wr : World} {B N : Nat} (h : Below B w wr) (hN : B ≤ N) (v0 v1 v2 v3 : Value) : Below B w ((((wr.setCell ⟨N, 0, none⟩ v0).setCell ⟨N, 1, none⟩ v1).setCell ⟨N, 2, none⟩ v2).setCell ⟨N, 3, none⟩ v3) :=
  (((h.setCell hN _).setCell hN _).setCell hN _).setCell hN _

set_option maxRecDepth 100000 in
set_option maxHeartbeats 1000000 in
theorem pairAt_any (base : Option Addr) (b o c : Nat) (ps : PL) (i : Int) (w : World) (h : PairsAt w base b o ps) :
    Calls Try.prog 71 #[.slice base ps.length c, .int .i64 i] w fun e w' => e = .returned (.agg #[.bool (tellR (pAt ps i)).ok, .int .i64 (tellR (pAt ps i)).key, .int .i64 (tellR (pAt ps i)).val, .slice none 0 0]) ∧ Below w.heap.size w w' := by
  have HA : Hid _ := h
  clear h
  by_cases h1 : i < 0
  · have E : Hid (pAt ps i = none) := by show pAt ps i = none; unfold pAt; rw [if_neg (by omega)]
    go_enter Try.func71, Try.ntmps71
    go_wp2_with fail
    refine bodyPost_ret (v := .agg #[.bool false, .int .i64 0, .int .i64 0, .slice none 0 0]) (by simp [results, Try.results71, go_sem]) rfl ⟨by rw [E.out]; rfl, below_alloc _ _⟩
  · by_cases h2 : i < (ps.length : Int)
    · obtain ⟨j, rfl⟩ : ∃ j : Nat, i = (j : Int) := ⟨i.toNat, by omega⟩
      have E : Hid (pAt ps (j : Int) = some (keyAt ps j, valAt ps j)) := by show pAt ps (j : Int) = _; unfold pAt; rw [if_pos (by omega)]; rfl
      obtain rfl : base = some ⟨b, o, none⟩ := HA.out.base (by omega)
      have HA2 := HA.out.below (below_alloc w (.cells #[.bool false, .int .i64 0, .int .i64 0, .slice none 0 0] 27))
      obtain ⟨c0, c1⟩ := HA2.cells j (by omega)
      have zb : b < w.heap.size := HA.out.lt (by omega)
      have hd : decide ((ps.length : Int) ≤ (j : Int)) = false := decide_eq_false (by omega)
      have j0 : (0 : Int) ≤ (j : Int) := Int.natCast_nonneg _
      clear HA2
      go_enter Try.func71, Try.ntmps71
      go_wp2_with fail
      go_region
      go_wp2_with fail
      refine bodyPost_ret (v := .agg #[.bool true, .int .i64 (keyAt ps j), .int .i64 (valAt ps j), .slice none 0 0]) (by simp [results, Try.results71, go_sem]) rfl ⟨by rw [E.out]; rfl, (below_alloc _ _).drew⟩
    · have E : Hid (pAt ps i = none) := by show pAt ps i = none; unfold pAt; rw [if_neg (by omega)]
      have hd : decide ((ps.length : Int) ≤ i) = true := decide_eq_true (by omega)
      go_enter Try.func71, Try.ntmps71
      go_wp2_with fail
      refine bodyPost_ret (v := .agg #[.bool false, .int .i64 0, .int .i64 0, .slice none 0 0]) (by simp [results, Try.results71, go_sem]) rfl ⟨by rw [E.out]; rfl, below_alloc _ _⟩
end Go.Proofs.Ytjpfgfcggekklaa
