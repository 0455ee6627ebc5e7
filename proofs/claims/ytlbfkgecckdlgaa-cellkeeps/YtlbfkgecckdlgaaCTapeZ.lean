/- Layer 2: a Tape as a gate, told more nearly: a pass turns the Tape, its row or what is new. -/
import Derived.Test.YtlbfkgecckdlgaaCKinds
namespace Go.Proofs.Ytlbfkgecckdlgaa
open Go.RowKit

/-- What a Tape in block tb has noted; its list lies in block r or in one from N on, and in none below B. -/
structure TapeZ (tb B N r : Nat) (ks : List Int) (w : World) : Prop where
  row : ∃ kv, w.cell? ⟨tb, 0, none⟩ = some kv ∧ w.ownsRow B 3 1 kv ks.length (ks.map (Value.int .i64)) ∧ ∀ g, kv.ownBlock = some g → g = r ∨ N ≤ g
  fro : w.frozen? ⟨tb, 0, none⟩ = false
  lt : tb < B
  mid : B ≤ N
  size : N ≤ w.heap.size
/-- The blocks that a pass may turn. -/
def TX (tb N r : Nat) : Nat → Prop := fun k => k = tb ∨ k = r ∨ N ≤ k

theorem TapeZ.at_ {tb B N r : Nat} {ks : List Int} {w : World} (h : TapeZ tb B N r ks w) : TapeAt tb B ks w := by
  obtain ⟨⟨kv, hc, ho, _⟩, hz, hlt, hm, hs⟩ := h
  exact ⟨⟨kv, hc, ho⟩, hz, hlt, Nat.le_trans hm hs⟩
theorem owns_same {w w' : World} {B : Nat} {e : TypeId} {sz : Nat} {v : Value} {n : Nat} {xs : List Value} (h : w.ownsRow B e sz v n xs) (hb : ∀ g, v.ownBlock = some g → g < w.heap.size → w'.heap[g]? = w.heap[g]?) : w'.ownsRow B e sz v n xs := by
  obtain ⟨h0, h⟩ := h
  refine ⟨h0, ?_⟩
  rcases h with h | ⟨g, cap, cur, hv, hg, hh, r⟩
  · exact Or.inl h
  · subst hv
    exact Or.inr ⟨g, cap, cur, rfl, hg, by rw [hb g rfl (Array.getElem?_eq_some_iff.1 hh).1]; exact hh, r⟩
theorem owns_lt {w : World} {B : Nat} {e : TypeId} {sz : Nat} {v : Value} {n : Nat} {xs : List Value} (h : w.ownsRow B e sz v n xs) : ∀ g, v.ownBlock = some g → g < w.heap.size := by
  intro b hb
  obtain ⟨_, h⟩ := h
  rcases h with ⟨rfl, _⟩ | ⟨g, cap, cur, rfl, hg, hh, _⟩
  · cases hb
  · simp [Value.ownBlock] at hb; subst hb; exact (Array.getElem?_eq_some_iff.1 hh).1

set_option maxRecDepth 100000 in
set_option maxHeartbeats 1000000 in
theorem tapeZ_pass (tb B N r : Nat) (ks : List Int) (kd : Int) (w : World) (h : TapeZ tb B N r ks w) (hk : ks.length < 17592186044415) :
    Calls Try.prog 24 #[.pointer (some ⟨tb, 0, none⟩), .int .i64 kd] w fun e w' => e = .returned (.tuple #[]) ∧ TapeZ tb B N r (ks ++ [kd]) w' ∧ Kp (TX tb N r) w w' := by
  obtain ⟨i0, hi0, hz0, hz1, hz2⟩ := info_parts int_info
  obtain ⟨⟨kv, hc, ho, hr⟩, hz, hlt, hm, hsz⟩ := h
  obtain ⟨a, c, hv⟩ := owns_slice ho
  subst hv
  have htw : tb < w.heap.size := by omega
  have hge := owns_ge ho
  go_enter Try.func24, Try.ntmps24
  go_wp2_with (first | (at_builtin; (refine wpList_append_lies _ (by rfl) _ _ _ (by rfl) B 3 i0 _ 1 8 ints_under hi0 hz0 hz1 hz2 rfl (by omega) _ ks.length (ks.map (Value.int .i64)) (by rfl) (ho.alloc _) ⟨w.heap.size, 0, none⟩ 1 1 [.int .i64 kd] (by rfl) (by rfl) (World.news_of_block (cs := #[.int .i64 kd]) (t := 3) (fr := (0, 0)) (heap_alloc_at _ _ _ rfl)) (by simp [Value.oneCell']) (by omega) (by unfold maxLen; omega) (by omega) (by simp; omega) (w.heap.size + 1) (by simp) ?_); intro gg cap w1 hown1 hgrow hat hlt1; have hB1 : Below B w w1 := Below.grown ((Below.refl B w).alloc (by omega) _) hgrow (by simp; omega) (owns_ge ho); have hc1 := (hB1.cell (p := ⟨tb, 0, none⟩) hlt).trans hc; have hz1' := (hB1.frozen (p := ⟨tb, 0, none⟩) hlt).trans hz))
  go_end0
  have hs1 := hB1.size
  have hbl : ∀ k, k < w.heap.size → (Value.slice a ks.length c).ownBlock ≠ some k → w1.heap[k]? = w.heap[k]? := fun k hk hn => by
    rw [hgrow.block k (by simp; omega) (fun e => hn e.symm), Below.heap_alloc _ _ _ hk]
  refine ⟨rfl, ⟨⟨_, World.cell?_setCell_same _ _ _ hc1, ?_, ?_⟩, by simpa using hz1', hlt, hm, by simp [World.setCell]; omega⟩, ?_⟩
  · refine owns_kept (w := w1) ?_ (fun k _ hk => Below.heap_setCell _ _ _ _ (by simp; omega))
    simpa using hown1
  · intro g hg
    simp [Value.ownBlock] at hg
    subst hg
    rcases hat with h | h
    · exact hr _ h
    · right; omega
  · refine Kp.set (X := TX tb N r) ⟨hB1.os, hB1.tape, hB1.output, hB1.size, fun k hk hn => hbl k hk (fun e => ?_)⟩ (p := ⟨tb, 0, none⟩) (Or.inl rfl) _
    unfold TX at hn
    rcases hr k e with h | h
    · exact hn (Or.inr (Or.inl h))
    · exact hn (Or.inr (Or.inr h))

theorem gate_tapeZ (tb B N r most : Nat) (hmost : most ≤ 17592186044415) : GateOk (.iface 38 (.pointer (some ⟨tb, 0, none⟩))) (TX tb N r) most (TapeZ tb B N r) := by
  refine ⟨?_, ?_⟩
  · intro ks kd w hG hk
    have HP : Hid _ := tapeZ_pass tb B N r ks kd w hG (by omega)
    have hp := mPass
    go_enter Try.func59, Try.ntmps59
    go_wp2_with (first | (go_at_call 24; refine Calls.mono HP.out ?_; rintro e w1 ⟨rfl, hg1, hk1⟩))
    go_end0
    exact ⟨rfl, hg1, hk1⟩
  · intro ks Y w w' hG hK hd
    obtain ⟨⟨kv, hc, ho, hr⟩, hz, hlt, hm, hsz⟩ := hG
    have hnt : ¬ Y tb := fun h => hd tb h (Or.inl rfl)
    have htw : tb < w.heap.size := by omega
    refine ⟨⟨kv, (hK.cell (p := ⟨tb, 0, none⟩) htw hnt).trans hc, owns_same ho (fun g hg hl => hK.block g hl (fun h => hd g h ?_)), hr⟩, (hK.frozen (p := ⟨tb, 0, none⟩) htw hnt).trans hz, hlt, hm, Nat.le_trans hsz hK.size⟩
    rcases hr g hg with h | h
    · exact Or.inr (Or.inl h)
    · exact Or.inr (Or.inr h)
end Go.Proofs.Ytlbfkgecckdlgaa
