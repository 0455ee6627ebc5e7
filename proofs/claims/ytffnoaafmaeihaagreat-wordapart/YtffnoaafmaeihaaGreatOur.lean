/- What the law file's our answers: the accesses as the program's own, in new memory. -/
import Derived.Test.YtffnoaafmaeihaaGreatRow
import Derived.Deep.RegionHeld3
import Derived.Deep.DrawnRows
import Derived.Deep.AppendLies
namespace Go.Proofs.YtffnoaafmaeihaaGreat
open Go.RowKit
attribute [local go_sem ↓] Go.wp_at_zero Go.wp_at_succ

/-- The cells of the first k accesses. -/
def actCells (dk da db : Nat → Int) : Nat → List Value
  | 0 => []
  | k + 1 => actCells dk da db k ++ [.int .i64 (dk k), .int .u64 (da k), .int .u64 (db k)]

theorem actCells_length (dk da db : Nat → Int) : ∀ k, (actCells dk da db k).length = k * 3
  | 0 => rfl
  | k + 1 => by simp [actCells, actCells_length dk da db k]; omega

theorem actCells_get (dk da db : Nat → Int) : ∀ n i, i < n → (actCells dk da db n)[i * 3]? = some (.int .i64 (dk i)) ∧ (actCells dk da db n)[i * 3 + 1]? = some (.int .u64 (da i)) ∧ (actCells dk da db n)[i * 3 + 2]? = some (.int .u64 (db i))
  | 0, i, h => by omega
  | n + 1, i, h => by
    have hl := actCells_length dk da db n
    by_cases e : i = n
    · subst e
      refine ⟨?_, ?_, ?_⟩
      · rw [actCells, List.getElem?_append_right (by omega), hl]; simp
      · rw [actCells, List.getElem?_append_right (by omega), hl, show i * 3 + 1 - i * 3 = 1 by omega]; simp
      · rw [actCells, List.getElem?_append_right (by omega), hl, show i * 3 + 2 - i * 3 = 2 by omega]; simp
    · obtain ⟨a, b, c⟩ := actCells_get dk da db n i (by omega)
      exact ⟨by rw [actCells, List.getElem?_append_left (by omega)]; exact a, by rw [actCells, List.getElem?_append_left (by omega)]; exact b, by rw [actCells, List.getElem?_append_left (by omega)]; exact c⟩

/-- An owned row of accesses is a slice of accesses. -/
theorem acts_of_owns {w : World} {B : Nat} {e : TypeId} {v : Value} {n : Nat} {dk da db : Nat → Int} (h : w.ownsRow B e 3 v n (actCells dk da db n)) (hU : ∀ i, i < n → U64 (da i) ∧ U64 (db i)) (hn : n ≤ maxLen) :
    ∃ base cap g, v = .slice base n cap ∧ (n ≠ 0 → B ≤ g) ∧ Acts w base g 0 n dk da db := by
  obtain ⟨_, h⟩ := h
  rcases h with ⟨rfl, rfl⟩ | ⟨g, cap, cur, rfl, hg, hh, h1, h2, h3, h4⟩
  · exact ⟨none, 0, 0, rfl, fun h => absurd rfl h, fun h => absurd rfl h, fun h => absurd rfl h, fun i hi => by omega, hU, hn⟩
  · refine ⟨_, _, g, rfl, fun _ => hg, fun _ => rfl, fun _ => ?_, fun i hi => ?_, hU, hn⟩
    · exact (Array.getElem?_eq_some_iff.1 hh).1
    · have hc : ∀ j, j < n * 3 → w.cell? ⟨g, j, none⟩ = (actCells dk da db n)[j]? := by
        intro j hj
        rw [← h4, List.getElem?_take, if_pos hj]
        simp [World.cell?, hh]
      obtain ⟨a, b, c⟩ := actCells_get dk da db n i hi
      exact ⟨by rw [Nat.zero_add, hc _ (by omega)]; exact a, by rw [Nat.zero_add, hc _ (by omega)]; exact b, by rw [Nat.zero_add, hc _ (by omega)]; exact c⟩

theorem act_info : (Tryz.prog.info? 42).map (fun i => (i.zero, i.size, i.bytes)) = some (some (.agg #[.int .i64 0, .int .u64 0, .int .u64 0]), 3, 24) := by kernel_rfl
theorem acts_under : Tryz.prog.underlying 32 = some (.slice 42) := by kernel_rfl

theorem ownBlock_ge {w : World} {B : Nat} {e : TypeId} {sz : Nat} {v : Value} {n : Nat} {xs : List Value} (h : w.ownsRow B e sz v n xs) (b : Nat) (hb : b < B) : v.ownBlock ≠ some b := by
  obtain ⟨_, h⟩ := h
  rcases h with ⟨rfl, _⟩ | ⟨g, cap, cur, rfl, hg, _⟩
  · intro e; cases e
  · intro e
    simp [Value.ownBlock] at e
    omega

set_option maxRecDepth 100000 in
set_option maxHeartbeats 3200000 in
theorem our_any (ab ao n cap : Nat) (dk da db : Nat → Int) (w : World) (base : Option Addr) (h : Acts w base ab ao n dk da db) (hbytes : n * 24 ≤ 140737488355328) :
    Calls Tryz.prog 8 #[.slice base n cap] w fun e w' => ∃ v, e = .returned v ∧ Below w.heap.size w w' ∧ w'.ownsRow w.heap.size 42 3 v n (actCells dk da db n) := by
  obtain ⟨i0, hi0, hz0, hz1, hz2⟩ := info_parts act_info
  have hlen := h.len
  unfold maxLen at hlen
  go_enter Tryz.func8, Tryz.ntmps8
  go_wp2
  go_loopw [3, 4] (fun v i wr => ∃ k : Nat, k ≤ n ∧ i = .int .i64 k ∧ Below w.heap.size w wr ∧ wr.ownsRow w.heap.size 42 3 v k (actCells dk da db k)) (fun _ i _ => n - (intOf i).toNat)
  case atStart => exact ⟨0, Nat.zero_le _, rfl, Below.refl _ _, World.ownsRow_nil _ _ _ _⟩
  case round =>
    obtain ⟨k, hk, rfl, hnx, hown⟩ := hrel
    by_cases hlt : k < n
    · obtain rfl : base = some ⟨ab, ao, none⟩ := h.base (by omega)
      obtain ⟨c0, c1, c2⟩ := h.cells k hlt
      have hA : ab < w.heap.size := h.lt (by omega)
      have d0 : wr.cell? ⟨ab, ao + k * 3, none⟩ = some (.int .i64 (dk k)) := (hnx.cell (p := ⟨ab, ao + k * 3, none⟩) hA).trans c0
      have d1 : wr.cell? ⟨ab, ao + k * 3 + 1, none⟩ = some (.int .u64 (da k)) := (hnx.cell (p := ⟨ab, ao + k * 3 + 1, none⟩) hA).trans c1
      have d2 : wr.cell? ⟨ab, ao + k * 3 + 2, none⟩ = some (.int .u64 (db k)) := (hnx.cell (p := ⟨ab, ao + k * 3 + 2, none⟩) hA).trans c2
      have ag := ownBlock_ge hown ab hA
      have hAr : ab < wr.heap.size := Nat.lt_of_lt_of_le hA hnx.size
      have k0 : (0 : Int) ≤ (k : Int) := Int.natCast_nonneg _
      have k1 : (k : Int) < (n : Int) := by omega
      clear c0 c1 c2
      have hN : Hid _ := h
      clear h
      go_wp2_with fail
      go_region_held3 (fun w' => w'.cell? ⟨ab, ao + k * 3, none⟩ = some (.int .i64 (dk k)) ∧ w'.cell? ⟨ab, ao + k * 3 + 1, none⟩ = some (.int .u64 (da k)) ∧ w'.cell? ⟨ab, ao + k * 3 + 2, none⟩ = some (.int .u64 (db k)))
        (first
          | go_keep
          | (go_split_ands
             refine ⟨?_, ?_, ?_⟩
             · (rw [hgrow.cell_far _ (by simp; omega) (Ne.symm ag)]; assumption)
             · (rw [hgrow.cell_far _ (by simp; omega) (Ne.symm ag)]; assumption)
             · (rw [hgrow.cell_far _ (by simp; omega) (Ne.symm ag)]; assumption)))
        ((refine step_append_lies _ (by rfl) _ _ _ (by rfl) w.heap.size 42 i0 _ 3 24 acts_under hi0 hz0 hz1 hz2 rfl (by omega) _ k (actCells dk da db k) (by rfl) ((hown.alloc _).drew)
            ⟨wr.heap.size, 0, none⟩ 1 1 [.int .i64 (dk k), .int .u64 (da k), .int .u64 (db k)] (by rfl) (by rfl) (World.news_of_block (cs := #[.int .i64 (dk k), .int .u64 (da k), .int .u64 (db k)]) (t := 42) (fr := (0, 0)) (heap_alloc_new wr _)) (by simp [Value.oneCell'])
            (by omega) (by unfold maxLen; omega) (by omega) (by have := hnx.size; simp; omega) (wr.heap.size + 1) (by simp) ?_; intro gg cap w1 hown1 hgrow hat hlt2))
      have hB1 : Below w.heap.size w w1 := Below.grown ((hnx.alloc hnx.size _).drew) hgrow (by have := hnx.size; simp; omega) (fun b hb => by
        rcases Nat.lt_or_ge b w.heap.size with hl | hl
        · exact absurd hb (ownBlock_ge hown b hl)
        · exact hl)
      have HB : Hid _ := hB1
      clear hB1
      go_wp2
      exact ⟨⟨k + 1, by omega, by go_num, HB.out, hown1⟩, by simp [intOf]; omega⟩
    · obtain rfl : k = n := by omega
      go_wp2
      go_ret
      exact ⟨_, rfl, hnx, hown⟩
end Go.Proofs.YtffnoaafmaeihaaGreat
