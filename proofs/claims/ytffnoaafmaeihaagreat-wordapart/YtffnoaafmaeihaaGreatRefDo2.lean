/- What the reference's Do and Steps answer, and the law file's are and words over equal lists. -/
import Derived.Test.YtffnoaafmaeihaaGreatRefDo
import Derived.Deep.AppendLies
namespace Go.Proofs.YtffnoaafmaeihaaGreat
open Go.RowKit

/-- Answers in memory. -/
structure OutsAt (w : World) (base : Option Addr) (g n : Nat) (O : Nat → Int) (V : Nat → Bool) : Prop where
  base : n ≠ 0 → base = some ⟨g, 0, none⟩
  lt : n ≠ 0 → g < w.heap.size
  cells : ∀ j, j < n → w.cell? ⟨g, j * 2, none⟩ = some (.int .u64 (O j)) ∧ w.cell? ⟨g, j * 2 + 1, none⟩ = some (.bool (V j))
structure NumsAt (w : World) (base : Option Addr) (g n : Nat) (O : Nat → Int) : Prop where
  base : n ≠ 0 → base = some ⟨g, 0, none⟩
  lt : n ≠ 0 → g < w.heap.size
  cells : ∀ j, j < n → w.cell? ⟨g, j, none⟩ = some (.int .u64 (O j))

theorem OutsAt.below {w w' : World} {base : Option Addr} {g n : Nat} {O : Nat → Int} {V : Nat → Bool} (h : OutsAt w base g n O V) (hb : Below w.heap.size w w') : OutsAt w' base g n O V := by
  refine ⟨h.base, fun hn => Nat.lt_of_lt_of_le (h.lt hn) hb.size, fun j hj => ?_⟩
  have hl := h.lt (by omega)
  exact ⟨(hb.cell (p := ⟨g, j * 2, none⟩) hl).trans (h.cells j hj).1, (hb.cell (p := ⟨g, j * 2 + 1, none⟩) hl).trans (h.cells j hj).2⟩
theorem NumsAt.below {w w' : World} {base : Option Addr} {g n : Nat} {O : Nat → Int} (h : NumsAt w base g n O) (hb : Below w.heap.size w w') : NumsAt w' base g n O := by
  refine ⟨h.base, fun hn => Nat.lt_of_lt_of_le (h.lt hn) hb.size, fun j hj => ?_⟩
  have hl := h.lt (by omega)
  exact (hb.cell (p := ⟨g, j, none⟩) hl).trans (h.cells j hj)
theorem OutsTo.outs {w : World} {bo n : Nat} {O : Nat → Int} {V : Nat → Bool} (h : OutsTo w bo n n O V) (hl : bo < w.heap.size) : OutsAt w (some ⟨bo, 0, none⟩) bo n O V :=
  ⟨fun _ => rfl, fun _ => hl, fun j hj => ⟨(h.done j hj).1, (h.done j hj).2.1⟩⟩
theorem NumsTo.nums {w : World} {bo n : Nat} {O : Nat → Int} (h : NumsTo w bo n n O) (hl : bo < w.heap.size) : NumsAt w (some ⟨bo, 0, none⟩) bo n O :=
  ⟨fun _ => rfl, fun _ => hl, fun j hj => (h.done j hj).1⟩

def outCells (O : Nat → Int) (V : Nat → Bool) : Nat → List Value
  | 0 => []
  | k + 1 => outCells O V k ++ [.int .u64 (O k), .bool (V k)]
theorem outCells_length (O : Nat → Int) (V : Nat → Bool) : ∀ k, (outCells O V k).length = k * 2
  | 0 => rfl
  | k + 1 => by simp [outCells, outCells_length O V k]; omega
theorem outCells_get (O : Nat → Int) (V : Nat → Bool) : ∀ n i, i < n → (outCells O V n)[i * 2]? = some (.int .u64 (O i)) ∧ (outCells O V n)[i * 2 + 1]? = some (.bool (V i))
  | 0, i, h => by omega
  | n + 1, i, h => by
    have hl := outCells_length O V n
    by_cases e : i = n
    · subst e
      refine ⟨?_, ?_⟩
      · rw [outCells, List.getElem?_append_right (by omega), hl]; simp
      · rw [outCells, List.getElem?_append_right (by omega), hl, show i * 2 + 1 - i * 2 = 1 by omega]; simp
    · obtain ⟨a, b⟩ := outCells_get O V n i (by omega)
      exact ⟨by rw [outCells, List.getElem?_append_left (by omega)]; exact a, by rw [outCells, List.getElem?_append_left (by omega)]; exact b⟩
def numCells (O : Nat → Int) : Nat → List Value
  | 0 => []
  | k + 1 => numCells O k ++ [.int .u64 (O k)]
theorem numCells_length (O : Nat → Int) : ∀ k, (numCells O k).length = k
  | 0 => rfl
  | k + 1 => by simp [numCells, numCells_length O k]
theorem numCells_get (O : Nat → Int) : ∀ n i, i < n → (numCells O n)[i]? = some (.int .u64 (O i))
  | 0, i, h => by omega
  | n + 1, i, h => by
    have hl := numCells_length O n
    by_cases e : i = n
    · subst e
      rw [numCells, List.getElem?_append_right (by omega), hl]; simp
    · rw [numCells, List.getElem?_append_left (by omega)]; exact numCells_get O n i (by omega)

theorem owns_cell {w : World} {g : Nat} {cur : Array Value} {e : TypeId} {xs : List Value} {m : Nat} (hh : w.heap[g]? = some (.cells cur e (0, 0))) (h4 : cur.toList.take m = xs) : ∀ j, j < m → w.cell? ⟨g, j, none⟩ = xs[j]? := by
  intro j hj
  rw [← h4, List.getElem?_take, if_pos hj]
  simp [World.cell?, hh]

theorem outs_of_owns {w : World} {B : Nat} {e : TypeId} {v : Value} {n : Nat} {O : Nat → Int} {V : Nat → Bool} (h : w.ownsRow B e 2 v n (outCells O V n)) : ∃ base cap g, v = .slice base n cap ∧ OutsAt w base g n O V := by
  obtain ⟨_, h⟩ := h
  rcases h with ⟨rfl, rfl⟩ | ⟨g, cap, cur, rfl, hg, hh, h1, h2, h3, h4⟩
  · exact ⟨none, 0, 0, rfl, fun h => absurd rfl h, fun h => absurd rfl h, fun i hi => by omega⟩
  · refine ⟨_, _, g, rfl, fun _ => rfl, fun _ => (Array.getElem?_eq_some_iff.1 hh).1, fun i hi => ?_⟩
    have hc := owns_cell hh h4
    obtain ⟨a, b⟩ := outCells_get O V n i hi
    exact ⟨by rw [hc _ (by omega)]; exact a, by rw [hc _ (by omega)]; exact b⟩
theorem nums_of_owns {w : World} {B : Nat} {e : TypeId} {v : Value} {n : Nat} {O : Nat → Int} (h : w.ownsRow B e 1 v n (numCells O n)) : ∃ base cap g, v = .slice base n cap ∧ NumsAt w base g n O := by
  obtain ⟨_, h⟩ := h
  rcases h with ⟨rfl, rfl⟩ | ⟨g, cap, cur, rfl, hg, hh, h1, h2, h3, h4⟩
  · exact ⟨none, 0, 0, rfl, fun h => absurd rfl h, fun h => absurd rfl h, fun i hi => by omega⟩
  · refine ⟨_, _, g, rfl, fun _ => rfl, fun _ => (Array.getElem?_eq_some_iff.1 hh).1, fun i hi => ?_⟩
    have hc := owns_cell hh h4
    rw [hc _ (by omega)]; exact numCells_get O n i hi

theorem rout_info : (Tryz.prog.info? 48).map (fun i => (i.zero, i.size, i.bytes)) = some (some (.agg #[.int .u64 0, .bool false]), 2, 16) := by kernel_rfl
theorem routs_under : Tryz.prog.underlying 25 = some (.slice 48) := by kernel_rfl
theorem num_info : (Tryz.prog.info? 22).map (fun i => (i.zero, i.size, i.bytes)) = some (some (.int .u64 0), 1, 8) := by kernel_rfl
theorem nums_under : Tryz.prog.underlying 35 = some (.slice 22) := by kernel_rfl
theorem ownB {w : World} {B : Nat} {e : TypeId} {sz : Nat} {v : Value} {n : Nat} {xs : List Value} (h : w.ownsRow B e sz v n xs) : ∀ b, v.ownBlock = some b → B ≤ b := by
  intro b hb
  obtain ⟨_, h⟩ := h
  rcases h with ⟨rfl, _⟩ | ⟨g, cap, cur, rfl, hg, _⟩
  · cases hb
  · simp [Value.ownBlock] at hb; omega

theorem heap_alloc_at (w : World) (o : Obj) (b : Nat) (h : b = w.heap.size) : (w.alloc o).heap[b]? = some o := by subst h; exact heap_alloc_new w o

theorem owns_below {w w' : World} {B : Nat} {e : TypeId} {sz : Nat} {v : Value} {n : Nat} {xs : List Value} (h : w.ownsRow B e sz v n xs) (hb : Below w.heap.size w w') : w'.ownsRow B e sz v n xs := by
  obtain ⟨h0, h⟩ := h
  refine ⟨h0, ?_⟩
  rcases h with h | ⟨g, cap, cur, hv, hg, hh, r⟩
  · exact Or.inl h
  · exact Or.inr ⟨g, cap, cur, hv, hg, by rw [hb.block g (Array.getElem?_eq_some_iff.1 hh).1]; exact hh, r⟩

set_option maxRecDepth 100000 in
set_option maxHeartbeats 3200000 in
theorem refDo_ok (k start : Int) (hs : U64 start) (ab ao n cap : Nat) (dk da db : Nat → Int) (w : World) (base : Option Addr) (h : Acts w base ab ao n dk da db) (he : rowErr k n dk = 0) :
    Calls Tryz.prog 6 #[.int .i64 k, .int .u64 start, .slice base n cap] w fun e w' => ∃ v, e = .returned (.tuple #[v, .int .u64 (st k start dk da db n), .int .i64 0]) ∧ Below w.heap.size w w' ∧ w'.ownsRow w.heap.size 48 2 v n (outCells (fun j => ov k (st k start dk da db j) (dk j) (da j)) (fun j => ok k (st k start dk da db j) (dk j) (da j)) n) := by
  obtain ⟨h1, h2, h3⟩ := rowErr_zero he
  obtain ⟨i0, hi0, hz0, hz1, hz2⟩ := info_parts rout_info
  have HK : Hid _ := asked_any k ab ao n cap dk da db w base h
  have HE : Hid _ := he
  have HC : Hid _ := refCut_any k start hs
  have HA : Hid _ := h
  clear h he hs
  go_enter Tryz.func6, Tryz.ntmps6
  go_wp2_with (first | (go_at_call 13; refine Calls.mono HK.out ?_; rw [HE.out]; rintro e w' ⟨rfl, rfl⟩) | (go_at_call 14; refine Calls.mono (HC.out _) ?_; rintro e w' ⟨rfl, rfl⟩))
  go_loopw [10, 11, 12] (fun v o i wr => ∃ j : Nat, j ≤ n ∧ i = .int .i64 j ∧ v = .int .u64 (st k start dk da db j) ∧ Below w.heap.size w wr ∧ wr.ownsRow w.heap.size 48 2 o j (outCells (fun j => ov k (st k start dk da db j) (dk j) (da j)) (fun j => ok k (st k start dk da db j) (dk j) (da j)) j)) (fun _ _ i _ => n - (intOf i).toNat)
  case atStart => exact ⟨0, Nat.zero_le _, rfl, rfl, Below.refl _ _, World.ownsRow_nil _ _ _ _⟩
  case round =>
    obtain ⟨j, hj, rfl, rfl, hnx, hown⟩ := hrel
    by_cases hlt : j < n
    · obtain rfl : base = some ⟨ab, ao, none⟩ := HA.out.base (by omega)
      obtain ⟨c0, c1, c2⟩ := HA.out.cells j hlt
      obtain ⟨ua, ub⟩ := HA.out.u64 j hlt
      have hA : ab < w.heap.size := HA.out.lt (by omega)
      have d0 : wr.cell? ⟨ab, ao + j * 3, none⟩ = some (.int .i64 (dk j)) := (hnx.cell (p := ⟨ab, ao + j * 3, none⟩) hA).trans c0
      have d1 : wr.cell? ⟨ab, ao + j * 3 + 1, none⟩ = some (.int .u64 (da j)) := (hnx.cell (p := ⟨ab, ao + j * 3 + 1, none⟩) hA).trans c1
      have d2 : wr.cell? ⟨ab, ao + j * 3 + 1 + 1, none⟩ = some (.int .u64 (db j)) := (hnx.cell (p := ⟨ab, ao + j * 3 + 2, none⟩) hA).trans c2
      have j0 : (0 : Int) ≤ (j : Int) := Int.natCast_nonneg _
      have j1 : (j : Int) < (n : Int) := by omega
      have HO : Hid _ := refOne_any k (st k start dk da db j) (dk j) (da j) (db j) (Cn_st h3 j (by omega)) ua ub (allCan_of h3 j hlt)
      have HX : Hid _ := hnx
      have HW : Hid _ := hown
      clear c0 c1 c2 ua ub hnx hown HK HE HC
      go_wp2_with fail
      refine Calls.mono (HO.out _) ?_
      rintro e w2 ⟨rfl, hb2⟩
      have hB2 : Below w.heap.size w w2 := HX.out.trans (hb2.mono HX.out.size)
      have hO2 := owns_below HW.out hb2
      have s2 : w.heap.size ≤ w2.heap.size := hB2.size
      have HB2 : Hid _ := hB2
      clear d0 d1 d2 hb2 hB2 HO
      go_wp2_with (first | (at_builtin; (refine wpList_append_lies _ (by rfl) _ _ _ (by rfl) w.heap.size 48 i0 _ 2 16 routs_under hi0 hz0 hz1 hz2 rfl (by omega) _ j _ (by rfl) ((hO2.alloc _).alloc _) ⟨w2.heap.size + 1, 0, none⟩ 1 1 [.int .u64 (ov k (st k start dk da db j) (dk j) (da j)), .bool (ok k (st k start dk da db j) (dk j) (da j))] (by rfl) (by rfl) (World.news_of_block (cs := #[.int .u64 (ov k (st k start dk da db j) (dk j) (da j)), .bool (ok k (st k start dk da db j) (dk j) (da j))]) (t := 48) (fr := (0, 0)) (heap_alloc_at _ _ _ (by simp))) (by simp [Value.oneCell']) (by omega) (by unfold maxLen; omega) (by omega) (by simp; omega) (w2.heap.size + 1 + 1) (by simp) ?_); intro gg cap w3 hown3 hgrow hat hlt3))
      have hB3 : Below w.heap.size w w3 := Below.grown ((HB2.out.alloc s2 _).alloc (by simp; omega) _) hgrow (by simp; omega) (ownB hO2)
      have HB3 : Hid _ := hB3
      clear hB3
      go_wp2
      exact ⟨⟨j + 1, by omega, by go_num, rfl, HB3.out, hown3⟩, by simp [intOf]; omega⟩
    · obtain rfl : j = n := by omega
      go_wp2
      go_ret3
      exact ⟨_, rfl, hnx, hown⟩
end Go.Proofs.YtffnoaafmaeihaaGreat
