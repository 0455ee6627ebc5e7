/- Layer 2: NewTape, slices.Clone of numbers, Kinds. -/
import Derived.Test.YtlbfkgecckdlgaaCRow
namespace Go.Proofs.Ytlbfkgecckdlgaa
open Go.RowKit

theorem newTape_any (w : World) : Calls Try.prog 17 #[] w fun e w' => e = .returned (.pointer (some ⟨w.heap.size, 0, none⟩)) ∧ w' = w.alloc (.cells #[.slice none 0 0] 114) := by
  go_enter Try.func17, Try.ntmps17
  go_wp2
  go_ret
  exact ⟨rfl, rfl⟩

theorem ints_nil (w : World) : (binOp .eql 22 (.slice none 0 0) (.slice none 0 0)).run Try.prog w = .ok (.bool true) w := by kernel_rfl
theorem ints_not (a : Addr) (n c : Nat) (w : World) : (binOp .eql 22 (.slice (some a) n c) (.slice none 0 0)).run Try.prog w = .ok (.bool false) w := by kernel_rfl

theorem clone_nil (w : World) : Calls Try.prog 62 #[.slice none 0 0] w fun e w' => e = .returned (.slice none 0 0) ∧ w = w' := by
  have h := ints_nil
  go_enter Try.func62, Try.ntmps62
  go_wp2
  go_ret
  exact ⟨rfl, rfl⟩

set_option maxRecDepth 100000 in
set_option maxHeartbeats 1000000 in
theorem clone_any (B : Nat) (v : Value) (ks : List Int) (w : World) (ho : w.ownsRow B 3 1 v ks.length (ks.map (Value.int .i64))) (hk : ks.length ≤ 17592186044415) (hp : 0 < ks.length) :
    Calls Try.prog 62 #[v] w fun e w' => ∃ v', e = .returned v' ∧ w'.ownsRow w.heap.size 3 1 v' ks.length (ks.map (Value.int .i64)) ∧ Below w.heap.size w w' := by
  obtain ⟨i0, hi0, hz0, hz1, hz2⟩ := info_parts int_info
  obtain ⟨hl, h⟩ := ho
  rcases h with ⟨rfl, h0⟩ | ⟨g, cap, cur, rfl, hg, hh, hc1, hc2, hc3, hc4⟩
  · omega
  · have hgl : g < w.heap.size := (Array.getElem?_eq_some_iff.1 hh).1
    have hnews : ∀ j u, (ks.map (Value.int .i64))[j]? = some u → w.cell? ((⟨g, 0, none⟩ : Addr).add j) = some u := by
      intro j u hu
      refine World.news_of_block hh j u ?_
      rw [← hc4] at hu
      rw [List.getElem?_take] at hu
      split at hu
      · exact hu
      · cases hu
    have h := ints_not
    have hnews' : ∀ j u, (ks.map (Value.int .i64))[j]? = some u → (w.alloc (.cells #[] 3)).cell? ((⟨g, 0, none⟩ : Addr).add j) = some u := fun j u hu => (((Below.refl w.heap.size w).alloc (Nat.le_refl _) (.cells #[] 3)).cell (p := (⟨g, 0, none⟩ : Addr).add j) (by unfold Addr.add; split <;> exact hgl)).trans (hnews j u hu)
    have HN : Hid _ := hnews'
    have ho : (w.alloc (.cells #[] 3)).ownsRow w.heap.size 3 1 (.slice (some ⟨w.heap.size, 0, none⟩) 0 0) 0 [] := ⟨rfl, Or.inr ⟨w.heap.size, 0, #[], rfl, Nat.le_refl _, heap_alloc_at _ _ _ rfl, Nat.le_refl _, by unfold maxLen; omega, rfl, rfl⟩⟩
    have HO : Hid (World.ownsRow _ _ _ _ _ _ _) := ho
    clear hnews hc4 hnews' ho
    go_enter Try.func62, Try.ntmps62
    go_wp2_with (first | (at_builtin; (refine wpList_append_lies _ (by rfl) _ _ _ (by rfl) w.heap.size 3 i0 _ 1 8 ints_under hi0 hz0 hz1 hz2 rfl (by omega) _ 0 [] (by rfl) HO.out ⟨g, 0, none⟩ ks.length cap (ks.map (Value.int .i64)) (by rfl) (by simp) HN.out (by simp [Value.oneCell']) hp (by unfold maxLen; omega) (by omega) (by simp) (w.heap.size + 1) (by simp) ?_); intro gg cap' w1 hown1 hgrow hat hlt1; have hB1 : Below w.heap.size w w1 := Below.grown ((Below.refl _ w).alloc (Nat.le_refl _) _) hgrow (by simp) (by intro b hb; simp [Value.ownBlock] at hb; omega)))
    go_ret
    exact ⟨_, rfl, by simpa using hown1, hB1⟩

theorem kinds_nil (tb : Nat) (w : World) (h : w.cell? ⟨tb, 0, none⟩ = some (.slice none 0 0)) : Calls Try.prog 20 #[.pointer (some ⟨tb, 0, none⟩)] w fun e w' => e = .returned (.slice none 0 0) ∧ w = w' := by
  go_enter Try.func20, Try.ntmps20
  go_wp2_with (first | (go_at_call 62; refine (clone_nil _).mono ?_; rintro e w' ⟨rfl, rfl⟩))
  go_ret
  exact ⟨rfl, rfl⟩

set_option maxRecDepth 100000 in
set_option maxHeartbeats 1000000 in
theorem kinds_any (tb B : Nat) (ks : List Int) (w : World) (h : TapeAt tb B ks w) (hk : ks.length ≤ 17592186044415) (hp : 0 < ks.length) : Calls Try.prog 20 #[.pointer (some ⟨tb, 0, none⟩)] w fun e w' => ∃ v', e = .returned v' ∧ w'.ownsRow w.heap.size 3 1 v' ks.length (ks.map (Value.int .i64)) ∧ Below w.heap.size w w' := by
  obtain ⟨⟨kv, hc, ho⟩, hz, hlt, hsz⟩ := h
  have HC : Hid _ := clone_any B kv ks w ho hk hp
  clear ho
  go_enter Try.func20, Try.ntmps20
  go_wp2_with (first | (go_at_call 62; refine Calls.mono HC.out ?_; rintro e w1 ⟨v1, rfl, ho1, hb1⟩))
  go_ret
  exact ⟨_, rfl, ho1, hb1⟩
end Go.Proofs.Ytlbfkgecckdlgaa
