/- Layer 2: play with whatever does an act. -/
import Derived.Test.YtlbfkgecckdlgaaCInts
namespace Go.Proofs.Ytlbfkgecckdlgaa
open Go.RowKit

/-- What the function value does with act j, when the first j are done. -/
def DoOk (fn : Nat) (cv : Value) (Y : Nat → Prop) (n : Nat) (dk di da db O : Nat → Int) (J : Nat → World → Prop) : Prop :=
  ∀ (tb B j : Nat) (ks : List Int) (w : World), j < n → ks.length < 100000 → TapeAt tb B ks w → (∀ k, Y k → ¬ TapeX tb B k ∧ k < w.heap.size) → J j w →
    Calls Try.prog fn #[.iface 38 (.pointer (some ⟨tb, 0, none⟩)), .agg #[.int .i64 (dk j), .int .i64 (di j), .int .i64 (da j), .int .i64 (db j)], cv] w fun e w' => e = .returned (.int .i64 (O j)) ∧ TapeAt tb B (ks ++ [dk j]) w' ∧ J (j + 1) w' ∧ Kp (fun k => TapeX tb B k ∨ Y k) w w'

theorem owns_mono {w : World} {B A : Nat} {e : TypeId} {sz : Nat} {v : Value} {n : Nat} {xs : List Value} (h : w.ownsRow B e sz v n xs) (hb : A ≤ B) : w.ownsRow A e sz v n xs := by
  obtain ⟨h0, h⟩ := h
  refine ⟨h0, ?_⟩
  rcases h with h | ⟨g, cap, cur, hv, hg, r⟩
  · exact Or.inl h
  · exact Or.inr ⟨g, cap, cur, hv, by omega, r⟩

/-- Behind j acts. -/
structure PlayInv (w wr : World) (Y : Nat → Prop) (n j : Nat) (dk O : Nat → Int) (J : Nat → World → Prop) : Prop where
  tape : TapeAt w.heap.size (w.heap.size + 2) ((List.range j).map dk) wr
  ints : IntsTo wr (w.heap.size + 1) n j O
  st : J j wr
  kp : Kp Y w wr

theorem PlayInv.start (w : World) (Y : Nat → Prop) (n : Nat) (dk O : Nat → Int) (J : Nat → World → Prop) (hJ : ∀ j w w', J j w → (∀ k, Y k → k < w.heap.size ∧ w'.heap[k]? = w.heap[k]?) → w.heap.size ≤ w'.heap.size → J j w') (hY : ∀ k, Y k → k < w.heap.size) (hJ0 : J 0 w) (o : Obj)
    (ho : o = .cells (madeCells #[.int .i64 0] n) 3) : PlayInv w ((w.alloc (.cells #[.slice none 0 0] 114)).alloc o) Y n 0 dk O J := by
  have hk : Kp Y w ((w.alloc (.cells #[.slice none 0 0] 114)).alloc o) := ((Kp.refl _ _).alloc _).alloc _
  refine ⟨⟨⟨.slice none 0 0, ?_, ⟨by simp, Or.inl ⟨rfl, by simp⟩⟩⟩, ?_, by omega, by simp⟩, ?_, ?_, hk⟩
  · simp
  · simp
  · rw [ho]
    have := IntsTo.made (w.alloc (.cells #[.slice none 0 0] 114)) n 3 O
    simpa using this
  · refine hJ 0 w _ hJ0 (fun k hk' => ⟨hY k hk', ?_⟩) (by simp; omega)
    rw [Below.heap_alloc _ _ _ (by have := hY k hk'; simp; omega), Below.heap_alloc _ _ _ (hY k hk')]

theorem PlayInv.next {w wr w1 : World} {Y : Nat → Prop} {n j : Nat} {dk O : Nat → Int} {J : Nat → World → Prop} {o : Obj} (p : PlayInv w wr Y n j dk O J) (hj : j < n) (hJ : ∀ j w w', J j w → (∀ k, Y k → k < w.heap.size ∧ w'.heap[k]? = w.heap[k]?) → w.heap.size ≤ w'.heap.size → J j w') (hY : ∀ k, Y k → k < w.heap.size)
    (t : TapeAt w.heap.size (w.heap.size + 2) ((List.range j).map dk ++ [dk j]) w1) (hs : J (j + 1) w1) (hk : Kp (fun k => TapeX w.heap.size (w.heap.size + 2) k ∨ Y k) (wr.alloc o) w1) :
    IntsTo w1 (w.heap.size + 1) n j O ∧ PlayInv w (w1.setCell ⟨w.heap.size + 1, j, none⟩ (.int .i64 (O j))) Y n (j + 1) dk O J := by
  have hsz := p.tape.size
  have hk1 : Kp (fun k => TapeX w.heap.size (w.heap.size + 2) k ∨ Y k) wr w1 := ((Kp.refl _ _).alloc o).trans hk
  have hb : w1.heap[w.heap.size + 1]? = wr.heap[w.heap.size + 1]? := hk1.block _ (by omega) (by unfold TapeX; intro h; rcases h with h | h; omega; have := hY _ h; omega)
  have hi := p.ints.same hb
  refine ⟨hi, ?_, hi.step hj, ?_, ?_⟩
  · rw [List.range_succ, List.map_append]
    exact (gate_tape w.heap.size (w.heap.size + 2) 0 (by omega)).keep _ (fun k => k = w.heap.size + 1) _ _ t (Kp.set (X := fun k => k = w.heap.size + 1) (Kp.refl _ _) (p := ⟨w.heap.size + 1, j, none⟩) rfl _) (fun k h => by unfold TapeX; omega)
  · refine hJ _ w1 _ hs (fun k hy => ⟨?_, Below.heap_setCell _ _ _ _ (by have := hY k hy; simp; omega)⟩) (by simp [World.setCell])
    have := hY k hy
    have := hk1.size
    omega
  · refine ⟨?_, ?_, ?_, ?_, ?_⟩
    · exact hk1.os.trans p.kp.os
    · exact hk1.tape.trans p.kp.tape
    · exact hk1.output.trans p.kp.output
    · have := hk1.size; have := p.kp.size; simp [World.setCell]; omega
    · intro k hkw hn
      rw [Below.heap_setCell _ _ _ _ (by simp; omega)]
      have := p.kp.size
      rw [hk1.block k (by omega) (by unfold TapeX; intro h; rcases h with h | h; omega; exact hn h)]
      exact p.kp.block k hkw hn

set_option maxRecDepth 100000 in
set_option maxHeartbeats 1000000 in
theorem play_some (fn : Nat) (hcf : ∀ (args : Array Value) (w : World), (callFunc fn args).run Try.prog w = .ok (.enter fn args) w) (cv : Value) (Y : Nat → Prop) (n ab ao cap : Nat) (dk di da db O : Nat → Int) (J : Nat → World → Prop) (w : World) (base : Option Addr) (h : CActs w base ab ao n dk di da db) (hn : n ≤ 1000) (h0 : 0 < n)
    (hd : DoOk fn cv Y n dk di da db O J) (hJ : ∀ j w w', J j w → (∀ k, Y k → k < w.heap.size ∧ w'.heap[k]? = w.heap[k]?) → w.heap.size ≤ w'.heap.size → J j w') (hY : ∀ k, Y k → k < w.heap.size) (hYa : ¬ Y ab) (hJ0 : J 0 w) :
    Calls Try.prog 55 #[.slice base n cap, .func (.func fn) #[] #[cv]] w fun e w' => ∃ bo v, e = .returned (.tuple #[.slice (some ⟨bo, 0, none⟩) n n, v]) ∧ w.heap.size ≤ bo ∧ bo < w'.heap.size ∧ IntsTo w' bo n n O ∧ w'.ownsRow (bo + 1) 3 1 v n ((List.range n).map fun j => .int .i64 (dk j)) ∧ J n w' ∧ Kp Y w w' := by
  have hmk := run_make_known (P := Try.prog) 22 3 (.int .i64 0) 1 8 ints_under int_info n (by omega) (by omega)
  have HJ : Hid _ := hJ
  have HY : Hid _ := hY
  have HD : Hid _ := hd
  have HA : Hid _ := h
  have P0 : Hid (PlayInv w _ Y n 0 dk O J) := PlayInv.start w Y n dk O J hJ hY hJ0 _ rfl
  obtain rfl : base = some ⟨ab, ao, none⟩ := h.base (by omega)
  clear hJ hY hd h
  go_enter Try.func55, Try.ntmps55
  go_wp2_with (first | (go_at_call 17; refine (newTape_any _).mono ?_; rintro e w' ⟨rfl, rfl⟩))
  go_loopw [16] (fun i wr => ∃ j : Nat, j ≤ n ∧ i = .int .i64 j ∧ PlayInv w wr Y n j dk O J) (fun i _ => n - (intOf i).toNat)
  case atStart => exact ⟨0, Nat.zero_le _, rfl, P0.out⟩
  case round =>
    obtain ⟨j, hj, rfl, hp⟩ := hrel
    have HP : Hid _ := hp
    clear hp
    by_cases hlt : j < n
    · obtain ⟨c0, c1, c2, c3⟩ := (HA.out.kp HP.out.kp (fun _ => hYa)).cells j hlt
      clear P0
      have sz : Hid (w.heap.size + 2 ≤ wr.heap.size) := HP.out.tape.size
      have HC : Hid _ := HD.out w.heap.size (w.heap.size + 2) j ((List.range j).map dk) (wr.alloc (.cells #[.int .i64 (dk j), .int .i64 (di j), .int .i64 (da j), .int .i64 (db j)] 36)) hlt (by simp; omega)
        ((gate_tape w.heap.size (w.heap.size + 2) 0 (by omega)).keep _ (fun _ => False) _ _ HP.out.tape ((Kp.refl _ _).alloc _) (fun _ h => h.elim))
        (fun k hy => ⟨by unfold TapeX; have := HY.out k hy; omega, by have := HY.out k hy; have := sz.out; simp; omega⟩)
        (HJ.out _ _ _ HP.out.st (fun k hy => ⟨by have := HY.out k hy; have := sz.out; omega, Below.heap_alloc _ _ _ (by have := HY.out k hy; have := sz.out; omega)⟩) (by simp))
      go_wp2_with fail
      refine Calls.mono HC.out ?_
      rintro e w1 ⟨rfl, ht1, hs1, hk1⟩
      obtain ⟨hi1, hn1⟩ := HP.out.next hlt HJ.out HY.out ht1 hs1 hk1
      obtain ⟨a1, z1⟩ := hi1 j hlt
      have HN : Hid _ := hn1
      have j0 : (0 : Int) ≤ (j : Int) := Int.natCast_nonneg _
      have j1 : (j : Int) < (n : Int) := by omega
      clear hn1 hi1 ht1 hs1 hk1
      go_wp2
      exact ⟨⟨j + 1, by omega, by go_num, HN.out⟩, by simp [intOf]; omega⟩
    · obtain rfl : j = n := by omega
      have e1 : ((List.range j).map dk).length = j := by simp
      have HK : Hid _ := kinds_any w.heap.size (w.heap.size + 2) ((List.range j).map dk) wr HP.out.tape (by omega) (by omega)
      clear P0
      go_wp2_with fail
      refine Calls.mono HK.out ?_
      rintro e w1 ⟨v1, rfl, ho1, hb1⟩
      go_wp2
      go_ret2
      have sz := HP.out.tape.size
      rw [e1] at ho1
      refine ⟨w.heap.size + 1, v1, rfl, by omega, ?_, ?_, ?_, ?_, ?_⟩
      · have := hb1.size; omega
      · exact HP.out.ints.same (hb1.block _ (by omega))
      · refine owns_mono ?_ (B := wr.heap.size) (by omega)
        simpa [List.map_map, Function.comp_def] using ho1
      · exact HJ.out _ _ _ HP.out.st (fun k hy => ⟨by have := HY.out k hy; omega, hb1.block k (by have := HY.out k hy; omega)⟩) hb1.size
      · exact HP.out.kp.trans (Kp.of_below hb1)

set_option maxRecDepth 100000 in
set_option maxHeartbeats 1000000 in
theorem play_none (fn : Nat) (cv : Value) (cap : Nat) (w : World) (base : Option Addr) :
    Calls Try.prog 55 #[.slice base 0 cap, .func (.func fn) #[] #[cv]] w fun e w' => ∃ bo, e = .returned (.tuple #[.slice (some ⟨bo, 0, none⟩) 0 0, .slice none 0 0]) ∧ Below w.heap.size w w' ∧ w.heap.size ≤ bo ∧ bo < w'.heap.size := by
  have hmk := run_make_known (P := Try.prog) 22 3 (.int .i64 0) 1 8 ints_under int_info 0 (by omega) (by omega)
  rw [show ((0 : Nat) : Int) = 0 from rfl] at hmk
  have HK : Hid _ := kinds_nil w.heap.size ((w.alloc (.cells #[.slice none 0 0] 114)).alloc (.cells (madeCells #[.int .i64 0] 0) 3)) (by simp)
  go_enter Try.func55, Try.ntmps55
  go_wp2_with (first | (go_at_call 17; refine (newTape_any _).mono ?_; rintro e w' ⟨rfl, rfl⟩))
  go_loopw [16] (fun i wr => i = .int .i64 0 ∧ wr = ((w.alloc (.cells #[.slice none 0 0] 114)).alloc (.cells (madeCells #[.int .i64 0] 0) 3))) (fun _ _ => 0)
  case atStart => exact ⟨rfl, rfl⟩
  case round =>
    obtain ⟨rfl, rfl⟩ := hrel
    go_wp2_with fail
    refine Calls.mono HK.out ?_
    rintro e w1 ⟨rfl, rfl⟩
    go_wp2
    go_ret2
    exact ⟨w.heap.size + 1, rfl, ((Below.refl _ _).alloc (Nat.le_refl _) _).alloc (by simp) _, by omega, by simp⟩

theorem play_any (fn : Nat) (hcf : ∀ (args : Array Value) (w : World), (callFunc fn args).run Try.prog w = .ok (.enter fn args) w) (cv : Value) (Y : Nat → Prop) (n ab ao cap : Nat) (dk di da db O : Nat → Int) (J : Nat → World → Prop) (w : World) (base : Option Addr) (h : CActs w base ab ao n dk di da db) (hn : n ≤ 1000)
    (hd : DoOk fn cv Y n dk di da db O J) (hJ : ∀ j w w', J j w → (∀ k, Y k → k < w.heap.size ∧ w'.heap[k]? = w.heap[k]?) → w.heap.size ≤ w'.heap.size → J j w') (hY : ∀ k, Y k → k < w.heap.size) (hYa : n ≠ 0 → ¬ Y ab) (hJ0 : J 0 w) :
    Calls Try.prog 55 #[.slice base n cap, .func (.func fn) #[] #[cv]] w fun e w' => ∃ bo v, e = .returned (.tuple #[.slice (some ⟨bo, 0, none⟩) n n, v]) ∧ w.heap.size ≤ bo ∧ bo < w'.heap.size ∧ IntsTo w' bo n n O ∧ w'.ownsRow (bo + 1) 3 1 v n ((List.range n).map fun j => .int .i64 (dk j)) ∧ J n w' ∧ Kp Y w w' := by
  by_cases h0 : n = 0
  · subst h0
    refine (play_none fn cv cap w base).mono ?_
    rintro e w' ⟨bo, rfl, hb, h1, h2⟩
    exact ⟨bo, _, rfl, h1, h2, fun j hj => by omega, ⟨rfl, Or.inl ⟨rfl, rfl⟩⟩, hJ _ _ _ hJ0 (fun k hy => ⟨hY k hy, hb.block k (hY k hy)⟩) hb.size, Kp.of_below hb⟩
  · exact play_some fn hcf cv Y n ab ao cap dk di da db O J w base h hn (by omega) hd hJ hY (hYa h0) hJ0
end Go.Proofs.Ytlbfkgecckdlgaa
