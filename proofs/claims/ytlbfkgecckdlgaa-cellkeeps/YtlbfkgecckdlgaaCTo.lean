/- Layer 2: what the law file's to answers: the acts as the program's own, in new memory. -/
import Derived.Test.YtlbfkgecckdlgaaCErr
import Derived.Deep.RegionHeld3
import Derived.Deep.DrawnRows
namespace Go.Proofs.Ytlbfkgecckdlgaa
open Go.RowKit
attribute [local go_sem ↓] Go.wp_at_zero Go.wp_at_succ

/-- The cells of the first k acts. -/
def cactCells (dk di da db : Nat → Int) : Nat → List Value
  | 0 => []
  | k + 1 => cactCells dk di da db k ++ [.int .i64 (dk k), .int .i64 (di k), .int .i64 (da k), .int .i64 (db k)]

theorem cactCells_length (dk di da db : Nat → Int) : ∀ k, (cactCells dk di da db k).length = k * 4
  | 0 => rfl
  | k + 1 => by simp [cactCells, cactCells_length dk di da db k]; omega

theorem cactCells_get (dk di da db : Nat → Int) : ∀ n i, i < n → (cactCells dk di da db n)[i * 4]? = some (.int .i64 (dk i)) ∧ (cactCells dk di da db n)[i * 4 + 1]? = some (.int .i64 (di i)) ∧ (cactCells dk di da db n)[i * 4 + 2]? = some (.int .i64 (da i)) ∧ (cactCells dk di da db n)[i * 4 + 3]? = some (.int .i64 (db i))
  | 0, i, h => by omega
  | n + 1, i, h => by
    have hl := cactCells_length dk di da db n
    by_cases e : i = n
    · subst e
      refine ⟨?_, ?_, ?_, ?_⟩
      · rw [cactCells, List.getElem?_append_right (by omega), hl]; simp
      · rw [cactCells, List.getElem?_append_right (by omega), hl, show i * 4 + 1 - i * 4 = 1 by omega]; simp
      · rw [cactCells, List.getElem?_append_right (by omega), hl, show i * 4 + 2 - i * 4 = 2 by omega]; simp
      · rw [cactCells, List.getElem?_append_right (by omega), hl, show i * 4 + 3 - i * 4 = 3 by omega]; simp
    · obtain ⟨a, b, c, d⟩ := cactCells_get dk di da db n i (by omega)
      exact ⟨by rw [cactCells, List.getElem?_append_left (by omega)]; exact a, by rw [cactCells, List.getElem?_append_left (by omega)]; exact b, by rw [cactCells, List.getElem?_append_left (by omega)]; exact c, by rw [cactCells, List.getElem?_append_left (by omega)]; exact d⟩

/-- An owned row of acts is a slice of acts. -/
theorem cacts_of_owns {w : World} {B : Nat} {e : TypeId} {v : Value} {n : Nat} {dk di da db : Nat → Int} (h : w.ownsRow B e 4 v n (cactCells dk di da db n)) (hn : n ≤ maxLen) :
    ∃ base cap g, v = .slice base n cap ∧ (n ≠ 0 → B ≤ g) ∧ (base = none → n = 0 ∧ cap = 0) ∧ CActs w base g 0 n dk di da db := by
  obtain ⟨_, h⟩ := h
  rcases h with ⟨rfl, rfl⟩ | ⟨g, cap, cur, rfl, hg, hh, h1, h2, h3, h4⟩
  · exact ⟨none, 0, 0, rfl, fun h => absurd rfl h, fun _ => ⟨rfl, rfl⟩, fun h => absurd rfl h, fun h => absurd rfl h, fun i hi => by omega, hn⟩
  · refine ⟨_, _, g, rfl, fun _ => hg, (fun h => by cases h), fun _ => rfl, fun _ => ?_, fun i hi => ?_, hn⟩
    · exact (Array.getElem?_eq_some_iff.1 hh).1
    · have hc : ∀ j, j < n * 4 → w.cell? ⟨g, j, none⟩ = (cactCells dk di da db n)[j]? := by
        intro j hj
        rw [← h4, List.getElem?_take, if_pos hj]
        simp [World.cell?, hh]
      obtain ⟨a, b, c, d⟩ := cactCells_get dk di da db n i hi
      exact ⟨by rw [Nat.zero_add, hc _ (by omega)]; exact a, by rw [Nat.zero_add, hc _ (by omega)]; exact b, by rw [Nat.zero_add, hc _ (by omega)]; exact c, by rw [Nat.zero_add, hc _ (by omega)]; exact d⟩

theorem cact_info : (Try.prog.info? 36).map (fun i => (i.zero, i.size, i.bytes)) = some (some (.agg #[.int .i64 0, .int .i64 0, .int .i64 0, .int .i64 0]), 4, 32) := by kernel_rfl
theorem cacts_under : Try.prog.underlying 30 = some (.slice 36) := by kernel_rfl

theorem ownBlock_ge {w : World} {B : Nat} {e : TypeId} {sz : Nat} {v : Value} {n : Nat} {xs : List Value} (h : w.ownsRow B e sz v n xs) (b : Nat) (hb : b < B) : v.ownBlock ≠ some b := by
  intro e
  have := owns_ge h b e
  omega

set_option maxRecDepth 100000 in
set_option maxHeartbeats 3200000 in
theorem to_any (ab ao n cap : Nat) (dk di da db : Nat → Int) (w : World) (base : Option Addr) (h : CActs w base ab ao n dk di da db) (hbytes : n * 32 ≤ 140737488355328) :
    Calls Try.prog 14 #[.slice base n cap] w fun e w' => ∃ v, e = .returned v ∧ Below w.heap.size w w' ∧ w'.ownsRow w.heap.size 36 4 v n (cactCells dk di da db n) := by
  obtain ⟨i0, hi0, hz0, hz1, hz2⟩ := info_parts cact_info
  have hlen := h.len
  unfold maxLen at hlen
  go_enter Try.func14, Try.ntmps14
  go_wp2
  go_loopw [3, 7] (fun v i wr => ∃ k : Nat, k ≤ n ∧ i = .int .i64 k ∧ Below w.heap.size w wr ∧ wr.ownsRow w.heap.size 36 4 v k (cactCells dk di da db k)) (fun _ i _ => n - (intOf i).toNat)
  case atStart => exact ⟨0, Nat.zero_le _, rfl, Below.refl _ _, World.ownsRow_nil _ _ _ _⟩
  case round =>
    obtain ⟨k, hk, rfl, hnx, hown⟩ := hrel
    by_cases hlt : k < n
    · obtain rfl : base = some ⟨ab, ao, none⟩ := h.base (by omega)
      obtain ⟨c0, c1, c2, c3⟩ := h.cells k hlt
      have hA : ab < w.heap.size := h.lt (by omega)
      have d0 : wr.cell? ⟨ab, ao + k * 4, none⟩ = some (.int .i64 (dk k)) := (hnx.cell (p := ⟨ab, ao + k * 4, none⟩) hA).trans c0
      have d1 : wr.cell? ⟨ab, ao + k * 4 + 1, none⟩ = some (.int .i64 (di k)) := (hnx.cell (p := ⟨ab, ao + k * 4 + 1, none⟩) hA).trans c1
      have d2 : wr.cell? ⟨ab, ao + k * 4 + 2, none⟩ = some (.int .i64 (da k)) := (hnx.cell (p := ⟨ab, ao + k * 4 + 2, none⟩) hA).trans c2
      have d3 : wr.cell? ⟨ab, ao + k * 4 + 3, none⟩ = some (.int .i64 (db k)) := (hnx.cell (p := ⟨ab, ao + k * 4 + 3, none⟩) hA).trans c3
      have ag := ownBlock_ge hown ab hA
      have hAr : ab < wr.heap.size := Nat.lt_of_lt_of_le hA hnx.size
      have k0 : (0 : Int) ≤ (k : Int) := Int.natCast_nonneg _
      have k1 : (k : Int) < (n : Int) := by omega
      clear c0 c1 c2 c3
      have hN : Hid _ := h
      clear h
      go_wp2_with fail
      go_region_held3 (fun w' => w'.cell? ⟨ab, ao + k * 4, none⟩ = some (.int .i64 (dk k)) ∧ w'.cell? ⟨ab, ao + k * 4 + 1, none⟩ = some (.int .i64 (di k)) ∧ w'.cell? ⟨ab, ao + k * 4 + 2, none⟩ = some (.int .i64 (da k)) ∧ w'.cell? ⟨ab, ao + k * 4 + 3, none⟩ = some (.int .i64 (db k)))
        (first
          | go_keep
          | (go_split_ands
             refine ⟨?_, ?_, ?_, ?_⟩
             · (rw [hgrow.cell_far _ (by simp; omega) (Ne.symm ag)]; assumption)
             · (rw [hgrow.cell_far _ (by simp; omega) (Ne.symm ag)]; assumption)
             · (rw [hgrow.cell_far _ (by simp; omega) (Ne.symm ag)]; assumption)
             · (rw [hgrow.cell_far _ (by simp; omega) (Ne.symm ag)]; assumption)))
        ((refine step_append_lies _ (by rfl) _ _ _ (by rfl) w.heap.size 36 i0 _ 4 32 cacts_under hi0 hz0 hz1 hz2 rfl (by omega) _ k (cactCells dk di da db k) (by rfl) ((hown.alloc _).drew)
            ⟨wr.heap.size, 0, none⟩ 1 1 [.int .i64 (dk k), .int .i64 (di k), .int .i64 (da k), .int .i64 (db k)] (by rfl) (by rfl) (World.news_of_block (cs := #[.int .i64 (dk k), .int .i64 (di k), .int .i64 (da k), .int .i64 (db k)]) (t := 36) (fr := (0, 0)) (heap_alloc_new wr _)) (by simp [Value.oneCell'])
            (by omega) (by unfold maxLen; omega) (by omega) (by have := hnx.size; simp; omega) (wr.heap.size + 1) (by simp) ?_; intro gg cap w1 hown1 hgrow hat hlt2))
      have hB1 : Below w.heap.size w w1 := Below.grown ((hnx.alloc hnx.size _).drew) hgrow (by have := hnx.size; simp; omega) (owns_ge hown)
      have HB : Hid _ := hB1
      clear hB1
      go_wp2
      exact ⟨⟨k + 1, by omega, by go_num, HB.out, hown1⟩, by simp [intOf]; omega⟩
    · obtain rfl : k = n := by omega
      go_wp2
      go_ret
      exact ⟨_, rfl, hnx, hown⟩
end Go.Proofs.Ytlbfkgecckdlgaa
