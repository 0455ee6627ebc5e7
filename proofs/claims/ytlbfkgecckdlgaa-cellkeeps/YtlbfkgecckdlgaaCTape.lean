/- A Tape as a gate; what doNum and oneIf answer. -/
import Derived.Test.YtlbfkgecckdlgaaCNum
import Derived.Deep.AppendLies
namespace Go.Proofs.Ytlbfkgecckdlgaa
open Go.RowKit

theorem int_info : (Try.prog.info? 3).map (fun i => (i.zero, i.size, i.bytes)) = some (some (.int .i64 0), 1, 8) := by kernel_rfl
theorem ints_under : Try.prog.underlying 22 = some (.slice 3) := by kernel_rfl
theorem mPass (a : Addr) (w : World) : (method 317 38 (.pointer (some a)) "Pass").run Try.prog w = .ok (24, .pointer (some a)) w := by kernel_rfl

/-- What a Tape in block tb has noted; its list lies in a block from B on. -/
structure TapeAt (tb B : Nat) (ks : List Int) (w : World) : Prop where
  row : ∃ kv, w.cell? ⟨tb, 0, none⟩ = some kv ∧ w.ownsRow B 3 1 kv ks.length (ks.map (Value.int .i64))
  fro : w.frozen? ⟨tb, 0, none⟩ = false
  lt : tb < B
  size : B ≤ w.heap.size
/-- The blocks that a pass may turn. -/
def TapeX (tb B : Nat) : Nat → Prop := fun k => k = tb ∨ B ≤ k

theorem owns_kept {w w' : World} {B : Nat} {e : TypeId} {sz : Nat} {v : Value} {n : Nat} {xs : List Value} (h : w.ownsRow B e sz v n xs) (hb : ∀ k, k < w.heap.size → B ≤ k → w'.heap[k]? = w.heap[k]?) : w'.ownsRow B e sz v n xs := by
  obtain ⟨h0, h⟩ := h
  refine ⟨h0, ?_⟩
  rcases h with h | ⟨g, cap, cur, hv, hg, hh, r⟩
  · exact Or.inl h
  · exact Or.inr ⟨g, cap, cur, hv, hg, by rw [hb g (Array.getElem?_eq_some_iff.1 hh).1 hg]; exact hh, r⟩
theorem owns_slice {w : World} {B : Nat} {e : TypeId} {sz : Nat} {v : Value} {n : Nat} {xs : List Value} (h : w.ownsRow B e sz v n xs) : ∃ a c, v = .slice a n c := by
  obtain ⟨_, h⟩ := h
  rcases h with ⟨rfl, rfl⟩ | ⟨g, cap, cur, rfl, _⟩
  · exact ⟨none, 0, rfl⟩
  · exact ⟨_, _, rfl⟩
theorem owns_ge {w : World} {B : Nat} {e : TypeId} {sz : Nat} {v : Value} {n : Nat} {xs : List Value} (h : w.ownsRow B e sz v n xs) : ∀ b, v.ownBlock = some b → B ≤ b := by
  intro b hb
  obtain ⟨_, h⟩ := h
  rcases h with ⟨rfl, _⟩ | ⟨g, cap, cur, rfl, hg, _⟩
  · cases hb
  · simp [Value.ownBlock] at hb; omega
theorem heap_alloc_at (w : World) (o : Obj) (b : Nat) (h : b = w.heap.size) : (w.alloc o).heap[b]? = some o := by subst h; exact heap_alloc_new w o

set_option maxRecDepth 100000 in
set_option maxHeartbeats 1000000 in
theorem tape_pass (tb B : Nat) (ks : List Int) (kd : Int) (w : World) (h : TapeAt tb B ks w) (hk : ks.length < 100000) :
    Calls Try.prog 24 #[.pointer (some ⟨tb, 0, none⟩), .int .i64 kd] w fun e w' => e = .returned (.tuple #[]) ∧ TapeAt tb B (ks ++ [kd]) w' ∧ Kp (TapeX tb B) w w' := by
  obtain ⟨i0, hi0, hz0, hz1, hz2⟩ := info_parts int_info
  obtain ⟨⟨kv, hc, ho⟩, hz, hlt, hsz⟩ := h
  obtain ⟨a, c, hv⟩ := owns_slice ho
  subst hv
  have htw : tb < w.heap.size := by omega
  go_enter Try.func24, Try.ntmps24
  go_wp2_with (first | (at_builtin; (refine wpList_append_lies _ (by rfl) _ _ _ (by rfl) B 3 i0 _ 1 8 ints_under hi0 hz0 hz1 hz2 rfl (by omega) _ ks.length (ks.map (Value.int .i64)) (by rfl) (ho.alloc _) ⟨w.heap.size, 0, none⟩ 1 1 [.int .i64 kd] (by rfl) (by rfl) (World.news_of_block (cs := #[.int .i64 kd]) (t := 3) (fr := (0, 0)) (heap_alloc_at _ _ _ rfl)) (by simp [Value.oneCell']) (by omega) (by unfold maxLen; omega) (by omega) (by simp; omega) (w.heap.size + 1) (by simp) ?_); intro gg cap w1 hown1 hgrow hat hlt1; have hB1 : Below B w w1 := Below.grown ((Below.refl B w).alloc hsz _) hgrow (by simp; omega) (owns_ge ho); have hc1 := (hB1.cell (p := ⟨tb, 0, none⟩) hlt).trans hc; have hz1' := (hB1.frozen (p := ⟨tb, 0, none⟩) hlt).trans hz))
  go_end0
  have hs1 : B ≤ w1.heap.size := Nat.le_trans hsz hB1.size
  refine ⟨rfl, ⟨⟨_, World.cell?_setCell_same _ _ _ hc1, ?_⟩, by simpa using hz1', hlt, by simpa [World.setCell] using hs1⟩, ?_⟩
  · refine owns_kept (w := w1) ?_ (fun k _ hk => Below.heap_setCell _ _ _ _ (by simp; omega))
    simpa using hown1
  · exact Kp.set (X := TapeX tb B) ⟨hB1.os, hB1.tape, hB1.output, hB1.size, fun k hk hn => hB1.block k (by unfold TapeX at hn; omega)⟩ (p := ⟨tb, 0, none⟩) (Or.inl rfl) _

theorem gate_tape (tb B most : Nat) (hm : most ≤ 100000) : GateOk (.iface 38 (.pointer (some ⟨tb, 0, none⟩))) (TapeX tb B) most (TapeAt tb B) := by
  refine ⟨?_, ?_⟩
  · intro ks kd w hG hk
    have HP : Hid _ := tape_pass tb B ks kd w hG (by omega)
    have hp := mPass
    go_enter Try.func59, Try.ntmps59
    go_wp2_with (first | (go_at_call 24; refine Calls.mono HP.out ?_; rintro e w1 ⟨rfl, hg1, hk1⟩))
    go_end0
    exact ⟨rfl, hg1, hk1⟩
  · intro ks Y w w' hG hK hd
    obtain ⟨⟨kv, hc, ho⟩, hz, hlt, hsz⟩ := hG
    have hnt : ¬ Y tb := fun h => hd tb h (Or.inl rfl)
    have htw : tb < w.heap.size := by omega
    refine ⟨⟨kv, (hK.cell (p := ⟨tb, 0, none⟩) htw hnt).trans hc, owns_kept ho (fun k hk hB => hK.block k hk (fun h => hd k h (Or.inr hB)))⟩, (hK.frozen (p := ⟨tb, 0, none⟩) htw hnt).trans hz, hlt, Nat.le_trans hsz hK.size⟩

theorem oneIf_any (q : Bool) (w : World) : Calls Try.prog 104 #[.bool q] w fun e w' => e = .returned (.int .i64 (if q then 1 else 0)) ∧ w = w' := by
  cases q
  all_goals
    go_enter Try.func104, Try.ntmps104
    go_wp2
    go_ret
    exact ⟨rfl, rfl⟩

theorem num_alloc {X : Nat → Prop} {b i : Nat} {v : Int} {w w' : World} {o : Obj} (hb : b < w.heap.size) (h : NumStep X b i v (w.alloc o) w') : NumStep X b i v w w' := by
  refine ⟨((Kp.refl _ _).alloc o).trans h.kp, h.at_.trans ?_⟩
  simp only [World.setCell, Array.getElem?_modify, if_true, Below.heap_alloc w o b hb]

set_option maxRecDepth 100000 in
set_option maxHeartbeats 400000 in
theorem doNum_1 {gv : Value} {X : Nat → Prop} {most : Nat} {G : List Int → World → Prop} (g : GateOk gv X most G) (ks : List Int) (hk : ks.length < most) (b i : Nat) (x at_ a c : Int) (w : World) (hG : G ks w) (hX : ¬ X b) (hb : b < w.heap.size) (hc : w.cell? ⟨b, i, none⟩ = some (.int .i64 x)) (hz : w.frozen? ⟨b, i, none⟩ = false) :
    Calls Try.prog 57 #[gv, .pointer (some ⟨b, i, none⟩), .agg #[.int .i64 1, .int .i64 at_, .int .i64 a, .int .i64 c]] w fun e w' => e = .returned (.int .i64 x) ∧ G (ks ++ [1]) w' ∧ NumStep X b i x w w' := by
  have hb1 : b < (w.alloc (.cells #[.int .i64 1, .int .i64 at_, .int .i64 a, .int .i64 c] 36)).heap.size := by simp; omega
  have hk0 : Kp (fun _ => False) w (w.alloc (.cells #[.int .i64 1, .int .i64 at_, .int .i64 a, .int .i64 c] 36)) := (Kp.refl _ _).alloc _
  have hG1 := g.keep ks _ _ _ hG hk0 (fun _ h => h.elim)
  have hc1 := (hk0.cell (p := ⟨b, i, none⟩) hb (fun h => h)).trans hc
  have hz1 := (hk0.frozen (p := ⟨b, i, none⟩) hb (fun h => h)).trans hz
  have HM : Hid _ := nLoad g ks hk b i x _ hG1 hX hb1 hc1 hz1
  clear hG1 hc1 hz1
  go_enter Try.func57, Try.ntmps57
  go_wp2_with (first | (go_at_call 19; refine Calls.mono HM.out ?_; rintro e w1 ⟨rfl, hg1, hs1⟩) | (go_at_call 104; refine (oneIf_any _ _).mono ?_; rintro e w' ⟨rfl, rfl⟩))
  go_ret
  exact ⟨rfl, hg1, num_alloc hb hs1⟩

set_option maxRecDepth 100000 in
set_option maxHeartbeats 400000 in
theorem doNum_2 {gv : Value} {X : Nat → Prop} {most : Nat} {G : List Int → World → Prop} (g : GateOk gv X most G) (ks : List Int) (hk : ks.length < most) (b i : Nat) (x at_ a c : Int) (w : World) (hG : G ks w) (hX : ¬ X b) (hb : b < w.heap.size) (hc : w.cell? ⟨b, i, none⟩ = some (.int .i64 x)) (hz : w.frozen? ⟨b, i, none⟩ = false) :
    Calls Try.prog 57 #[gv, .pointer (some ⟨b, i, none⟩), .agg #[.int .i64 2, .int .i64 at_, .int .i64 a, .int .i64 c]] w fun e w' => e = .returned (.int .i64 0) ∧ G (ks ++ [2]) w' ∧ NumStep X b i a w w' := by
  have hb1 : b < (w.alloc (.cells #[.int .i64 2, .int .i64 at_, .int .i64 a, .int .i64 c] 36)).heap.size := by simp; omega
  have hk0 : Kp (fun _ => False) w (w.alloc (.cells #[.int .i64 2, .int .i64 at_, .int .i64 a, .int .i64 c] 36)) := (Kp.refl _ _).alloc _
  have hG1 := g.keep ks _ _ _ hG hk0 (fun _ h => h.elim)
  have hc1 := (hk0.cell (p := ⟨b, i, none⟩) hb (fun h => h)).trans hc
  have hz1 := (hk0.frozen (p := ⟨b, i, none⟩) hb (fun h => h)).trans hz
  have HM : Hid _ := nStore g ks hk b i x a _ hG1 hX hb1 hc1 hz1
  clear hG1 hc1 hz1
  go_enter Try.func57, Try.ntmps57
  go_wp2_with (first | (go_at_call 21; refine Calls.mono HM.out ?_; rintro e w1 ⟨rfl, hg1, hs1⟩) | (go_at_call 104; refine (oneIf_any _ _).mono ?_; rintro e w' ⟨rfl, rfl⟩))
  go_ret
  exact ⟨rfl, hg1, num_alloc hb hs1⟩

set_option maxRecDepth 100000 in
set_option maxHeartbeats 400000 in
theorem doNum_3 {gv : Value} {X : Nat → Prop} {most : Nat} {G : List Int → World → Prop} (g : GateOk gv X most G) (ks : List Int) (hk : ks.length < most) (b i : Nat) (x at_ a c s : Int) (w : World) (hG : G ks w) (hX : ¬ X b) (hb : b < w.heap.size) (hc : w.cell? ⟨b, i, none⟩ = some (.int .i64 x)) (hz : w.frozen? ⟨b, i, none⟩ = false) (hs : Hid (IntKind.i64.wrap (x + a) = s)) :
    Calls Try.prog 57 #[gv, .pointer (some ⟨b, i, none⟩), .agg #[.int .i64 3, .int .i64 at_, .int .i64 a, .int .i64 c]] w fun e w' => e = .returned (.int .i64 s) ∧ G (ks ++ [3]) w' ∧ NumStep X b i s w w' := by
  have hb1 : b < (w.alloc (.cells #[.int .i64 3, .int .i64 at_, .int .i64 a, .int .i64 c] 36)).heap.size := by simp; omega
  have hk0 : Kp (fun _ => False) w (w.alloc (.cells #[.int .i64 3, .int .i64 at_, .int .i64 a, .int .i64 c] 36)) := (Kp.refl _ _).alloc _
  have hG1 := g.keep ks _ _ _ hG hk0 (fun _ h => h.elim)
  have hc1 := (hk0.cell (p := ⟨b, i, none⟩) hb (fun h => h)).trans hc
  have hz1 := (hk0.frozen (p := ⟨b, i, none⟩) hb (fun h => h)).trans hz
  have HM : Hid _ := nAdd g ks hk b i x a s _ hG1 hX hb1 hc1 hz1 hs
  clear hG1 hc1 hz1
  go_enter Try.func57, Try.ntmps57
  go_wp2_with (first | (go_at_call 25; refine Calls.mono HM.out ?_; rintro e w1 ⟨rfl, hg1, hs1⟩) | (go_at_call 104; refine (oneIf_any _ _).mono ?_; rintro e w' ⟨rfl, rfl⟩))
  go_ret
  exact ⟨rfl, hg1, num_alloc hb hs1⟩

set_option maxRecDepth 100000 in
set_option maxHeartbeats 400000 in
theorem doNum_4 {gv : Value} {X : Nat → Prop} {most : Nat} {G : List Int → World → Prop} (g : GateOk gv X most G) (ks : List Int) (hk : ks.length < most) (b i : Nat) (x at_ a c : Int) (w : World) (hG : G ks w) (hX : ¬ X b) (hb : b < w.heap.size) (hc : w.cell? ⟨b, i, none⟩ = some (.int .i64 x)) (hz : w.frozen? ⟨b, i, none⟩ = false) :
    Calls Try.prog 57 #[gv, .pointer (some ⟨b, i, none⟩), .agg #[.int .i64 4, .int .i64 at_, .int .i64 a, .int .i64 c]] w fun e w' => e = .returned (.int .i64 x) ∧ G (ks ++ [4]) w' ∧ NumStep X b i a w w' := by
  have hb1 : b < (w.alloc (.cells #[.int .i64 4, .int .i64 at_, .int .i64 a, .int .i64 c] 36)).heap.size := by simp; omega
  have hk0 : Kp (fun _ => False) w (w.alloc (.cells #[.int .i64 4, .int .i64 at_, .int .i64 a, .int .i64 c] 36)) := (Kp.refl _ _).alloc _
  have hG1 := g.keep ks _ _ _ hG hk0 (fun _ h => h.elim)
  have hc1 := (hk0.cell (p := ⟨b, i, none⟩) hb (fun h => h)).trans hc
  have hz1 := (hk0.frozen (p := ⟨b, i, none⟩) hb (fun h => h)).trans hz
  have HM : Hid _ := nSwap g ks hk b i x a _ hG1 hX hb1 hc1 hz1
  clear hG1 hc1 hz1
  go_enter Try.func57, Try.ntmps57
  go_wp2_with (first | (go_at_call 26; refine Calls.mono HM.out ?_; rintro e w1 ⟨rfl, hg1, hs1⟩) | (go_at_call 104; refine (oneIf_any _ _).mono ?_; rintro e w' ⟨rfl, rfl⟩))
  go_ret
  exact ⟨rfl, hg1, num_alloc hb hs1⟩

set_option maxRecDepth 100000 in
set_option maxHeartbeats 400000 in
theorem doNum_hit {gv : Value} {X : Nat → Prop} {most : Nat} {G : List Int → World → Prop} (g : GateOk gv X most G) (ks : List Int) (hk : ks.length < most) (b i : Nat) (x at_ a c : Int) (w : World) (hG : G ks w) (hX : ¬ X b) (hb : b < w.heap.size) (hc : w.cell? ⟨b, i, none⟩ = some (.int .i64 x)) (hz : w.frozen? ⟨b, i, none⟩ = false) (ho : Hid (x = a)) :
    Calls Try.prog 57 #[gv, .pointer (some ⟨b, i, none⟩), .agg #[.int .i64 5, .int .i64 at_, .int .i64 a, .int .i64 c]] w fun e w' => e = .returned (.int .i64 1) ∧ G (ks ++ [5]) w' ∧ NumStep X b i c w w' := by
  have hb1 : b < (w.alloc (.cells #[.int .i64 5, .int .i64 at_, .int .i64 a, .int .i64 c] 36)).heap.size := by simp; omega
  have hk0 : Kp (fun _ => False) w (w.alloc (.cells #[.int .i64 5, .int .i64 at_, .int .i64 a, .int .i64 c] 36)) := (Kp.refl _ _).alloc _
  have hG1 := g.keep ks _ _ _ hG hk0 (fun _ h => h.elim)
  have hc1 := (hk0.cell (p := ⟨b, i, none⟩) hb (fun h => h)).trans hc
  have hz1 := (hk0.frozen (p := ⟨b, i, none⟩) hb (fun h => h)).trans hz
  have HM : Hid _ := nHit g ks hk b i x a c _ hG1 hX hb1 hc1 hz1 ho
  clear hG1 hc1 hz1
  go_enter Try.func57, Try.ntmps57
  go_wp2_with (first | (go_at_call 27; refine Calls.mono HM.out ?_; rintro e w1 ⟨rfl, hg1, hs1⟩) | (go_at_call 104; refine (oneIf_any _ _).mono ?_; rintro e w' ⟨rfl, rfl⟩))
  go_ret
  exact ⟨rfl, hg1, num_alloc hb hs1⟩

set_option maxRecDepth 100000 in
set_option maxHeartbeats 400000 in
theorem doNum_miss {gv : Value} {X : Nat → Prop} {most : Nat} {G : List Int → World → Prop} (g : GateOk gv X most G) (ks : List Int) (hk : ks.length < most) (b i : Nat) (x at_ a c : Int) (w : World) (hG : G ks w) (hX : ¬ X b) (hb : b < w.heap.size) (hc : w.cell? ⟨b, i, none⟩ = some (.int .i64 x)) (hz : w.frozen? ⟨b, i, none⟩ = false) (ho : Hid (¬ x = a)) :
    Calls Try.prog 57 #[gv, .pointer (some ⟨b, i, none⟩), .agg #[.int .i64 5, .int .i64 at_, .int .i64 a, .int .i64 c]] w fun e w' => e = .returned (.int .i64 0) ∧ G (ks ++ [5]) w' ∧ NumStep X b i x w w' := by
  have hb1 : b < (w.alloc (.cells #[.int .i64 5, .int .i64 at_, .int .i64 a, .int .i64 c] 36)).heap.size := by simp; omega
  have hk0 : Kp (fun _ => False) w (w.alloc (.cells #[.int .i64 5, .int .i64 at_, .int .i64 a, .int .i64 c] 36)) := (Kp.refl _ _).alloc _
  have hG1 := g.keep ks _ _ _ hG hk0 (fun _ h => h.elim)
  have hc1 := (hk0.cell (p := ⟨b, i, none⟩) hb (fun h => h)).trans hc
  have hz1 := (hk0.frozen (p := ⟨b, i, none⟩) hb (fun h => h)).trans hz
  have HM : Hid _ := nMiss g ks hk b i x a c _ hG1 hX hb1 hc1 hz1 ho
  clear hG1 hc1 hz1
  go_enter Try.func57, Try.ntmps57
  go_wp2_with (first | (go_at_call 27; refine Calls.mono HM.out ?_; rintro e w1 ⟨rfl, hg1, hs1⟩) | (go_at_call 104; refine (oneIf_any _ _).mono ?_; rintro e w' ⟨rfl, rfl⟩))
  go_ret
  exact ⟨rfl, hg1, num_alloc hb hs1⟩

set_option maxRecDepth 100000 in
set_option maxHeartbeats 400000 in
theorem doNum_6 {gv : Value} {X : Nat → Prop} {most : Nat} {G : List Int → World → Prop} (g : GateOk gv X most G) (ks : List Int) (hk : ks.length < most) (b i : Nat) (x at_ a c s : Int) (w : World) (hG : G ks w) (hX : ¬ X b) (hb : b < w.heap.size) (hc : w.cell? ⟨b, i, none⟩ = some (.int .i64 x)) (hz : w.frozen? ⟨b, i, none⟩ = false) (hs : Hid (bits .and .i64 x a = s)) :
    Calls Try.prog 57 #[gv, .pointer (some ⟨b, i, none⟩), .agg #[.int .i64 6, .int .i64 at_, .int .i64 a, .int .i64 c]] w fun e w' => e = .returned (.int .i64 x) ∧ G (ks ++ [6]) w' ∧ NumStep X b i s w w' := by
  have hb1 : b < (w.alloc (.cells #[.int .i64 6, .int .i64 at_, .int .i64 a, .int .i64 c] 36)).heap.size := by simp; omega
  have hk0 : Kp (fun _ => False) w (w.alloc (.cells #[.int .i64 6, .int .i64 at_, .int .i64 a, .int .i64 c] 36)) := (Kp.refl _ _).alloc _
  have hG1 := g.keep ks _ _ _ hG hk0 (fun _ h => h.elim)
  have hc1 := (hk0.cell (p := ⟨b, i, none⟩) hb (fun h => h)).trans hc
  have hz1 := (hk0.frozen (p := ⟨b, i, none⟩) hb (fun h => h)).trans hz
  have HM : Hid _ := nAnd g ks hk b i x a s _ hG1 hX hb1 hc1 hz1 hs
  clear hG1 hc1 hz1
  go_enter Try.func57, Try.ntmps57
  go_wp2_with (first | (go_at_call 29; refine Calls.mono HM.out ?_; rintro e w1 ⟨rfl, hg1, hs1⟩) | (go_at_call 104; refine (oneIf_any _ _).mono ?_; rintro e w' ⟨rfl, rfl⟩))
  go_ret
  exact ⟨rfl, hg1, num_alloc hb hs1⟩

set_option maxRecDepth 100000 in
set_option maxHeartbeats 400000 in
theorem doNum_7 {gv : Value} {X : Nat → Prop} {most : Nat} {G : List Int → World → Prop} (g : GateOk gv X most G) (ks : List Int) (hk : ks.length < most) (b i : Nat) (x at_ a c s : Int) (w : World) (hG : G ks w) (hX : ¬ X b) (hb : b < w.heap.size) (hc : w.cell? ⟨b, i, none⟩ = some (.int .i64 x)) (hz : w.frozen? ⟨b, i, none⟩ = false) (hs : Hid (bits .or .i64 x a = s)) :
    Calls Try.prog 57 #[gv, .pointer (some ⟨b, i, none⟩), .agg #[.int .i64 7, .int .i64 at_, .int .i64 a, .int .i64 c]] w fun e w' => e = .returned (.int .i64 x) ∧ G (ks ++ [7]) w' ∧ NumStep X b i s w w' := by
  have hb1 : b < (w.alloc (.cells #[.int .i64 7, .int .i64 at_, .int .i64 a, .int .i64 c] 36)).heap.size := by simp; omega
  have hk0 : Kp (fun _ => False) w (w.alloc (.cells #[.int .i64 7, .int .i64 at_, .int .i64 a, .int .i64 c] 36)) := (Kp.refl _ _).alloc _
  have hG1 := g.keep ks _ _ _ hG hk0 (fun _ h => h.elim)
  have hc1 := (hk0.cell (p := ⟨b, i, none⟩) hb (fun h => h)).trans hc
  have hz1 := (hk0.frozen (p := ⟨b, i, none⟩) hb (fun h => h)).trans hz
  have HM : Hid _ := nOr g ks hk b i x a s _ hG1 hX hb1 hc1 hz1 hs
  clear hG1 hc1 hz1
  go_enter Try.func57, Try.ntmps57
  go_wp2_with (first | (go_at_call 28; refine Calls.mono HM.out ?_; rintro e w1 ⟨rfl, hg1, hs1⟩) | (go_at_call 104; refine (oneIf_any _ _).mono ?_; rintro e w' ⟨rfl, rfl⟩))
  go_ret
  exact ⟨rfl, hg1, num_alloc hb hs1⟩

theorem doNum_any {gv : Value} {X : Nat → Prop} {most : Nat} {G : List Int → World → Prop} (g : GateOk gv X most G) (ks : List Int) (hk : ks.length < most) (b i : Nat) (x d at_ a c : Int) (hd : 1 ≤ d ∧ d ≤ 7) (w : World) (hG : G ks w) (hX : ¬ X b) (hb : b < w.heap.size) (hc : w.cell? ⟨b, i, none⟩ = some (.int .i64 x)) (hz : w.frozen? ⟨b, i, none⟩ = false) :
    Calls Try.prog 57 #[gv, .pointer (some ⟨b, i, none⟩), .agg #[.int .i64 d, .int .i64 at_, .int .i64 a, .int .i64 c]] w fun e w' => e = .returned (.int .i64 (nO x d a)) ∧ G (ks ++ [d]) w' ∧ NumStep X b i (nN x d a c) w w' := by
  have hd' : d = 1 ∨ d = 2 ∨ d = 3 ∨ d = 4 ∨ d = 5 ∨ d = 6 ∨ d = 7 := by omega
  rcases hd' with rfl | rfl | rfl | rfl | rfl | rfl | rfl
  · exact doNum_1 g ks hk b i x at_ a c w hG hX hb hc hz
  · exact doNum_2 g ks hk b i x at_ a c w hG hX hb hc hz
  · exact doNum_3 g ks hk b i x at_ a c _ w hG hX hb hc hz rfl
  · exact doNum_4 g ks hk b i x at_ a c w hG hX hb hc hz
  · by_cases h : x = a
    · rw [show nO x 5 a = 1 from by simp [nO, h], show nN x 5 a c = c from by simp [nN, h]]
      exact doNum_hit g ks hk b i x at_ a c w hG hX hb hc hz h
    · rw [show nO x 5 a = 0 from by simp [nO, h], show nN x 5 a c = x from by simp [nN, h]]
      exact doNum_miss g ks hk b i x at_ a c w hG hX hb hc hz h
  · exact doNum_6 g ks hk b i x at_ a c _ w hG hX hb hc hz rfl
  · exact doNum_7 g ks hk b i x at_ a c _ w hG hX hb hc hz rfl
end Go.Proofs.Ytlbfkgecckdlgaa
