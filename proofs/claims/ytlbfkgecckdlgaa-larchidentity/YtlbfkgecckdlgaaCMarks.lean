/- Layer 2: Marks, walked. -/
import Derived.Test.YtlbfkgecckdlgaaCMark2
import Derived.Test.YtlbfkgecckdlgaaCPlayB
import Derived.Test.YtlbfkgecckdlgaaCNums2
namespace Go.Proofs.Ytlbfkgecckdlgaa
open Go.RowKit

theorem mark_info : (Try.prog.info? 84).map (fun i => (i.zero, i.size, i.bytes)) = some (some (.agg #[.int .u32 0]), 1, 4) := by kernel_rfl
theorem marks_under : Try.prog.underlying 165 = some (.slice 84) := by kernel_rfl

/-- Block bo has room for n marks; the first m are O's, the others not set; none is frozen. -/
def MarksTo (w : World) (bo n m : Nat) (O : Nat → Bool) : Prop :=
  ∀ j, j < n → w.cell? ⟨bo, j, none⟩ = some (.int .u32 (bI (if j < m then O j else false))) ∧ w.frozen? ⟨bo, j, none⟩ = false
theorem MarksTo.same {w w' : World} {bo n m : Nat} {O : Nat → Bool} (h : MarksTo w bo n m O) (hb : w'.heap[bo]? = w.heap[bo]?) : MarksTo w' bo n m O := by
  intro j hj
  obtain ⟨a, b⟩ := h j hj
  refine ⟨?_, ?_⟩
  · rw [World.cell?_of_block (w := w) (w' := w') (a := ⟨bo, j, none⟩) hb]; exact a
  · rw [World.frozen?_of_block (w := w) (w' := w') (a := ⟨bo, j, none⟩) hb]; exact b
theorem MarksTo.step {w : World} {bo n m : Nat} {O : Nat → Bool} (h : MarksTo w bo n m O) (hm : m < n) : MarksTo (w.setCell ⟨bo, m, none⟩ (.int .u32 (bI (O m)))) bo n (m + 1) O := by
  intro j hj
  obtain ⟨a, b⟩ := h j hj
  refine ⟨?_, by simpa using b⟩
  by_cases e : j = m
  · subst e
    rw [World.cell?_setCell_same _ _ _ a]
    simp
  · rw [World.cell?_setCell_other _ _ _ _ (fun q => e (congrArg Addr.off q).symm), a]
    by_cases l : j < m
    · rw [if_pos l, if_pos (by omega)]
    · rw [if_neg l, if_neg (by omega)]
theorem MarksTo.made (w : World) (n : Nat) (e : TypeId) (O : Nat → Bool) : MarksTo (w.alloc (.cells (madeCells #[.int .u32 0] n) e)) w.heap.size n 0 O := by
  intro j hj
  have c0 : (madeCells #[.int .u32 0] n)[j]? = some (.int .u32 0) := by simp [madeCells, hj, Nat.mod_one]
  refine ⟨?_, by simp⟩
  simp [c0, bI]
theorem MarksTo.done {w : World} {bo n : Nat} {O : Nat → Bool} (h : MarksTo w bo n n O) : ∀ j, j < n → w.cell? ⟨bo, j, none⟩ = some (.int .u32 (bI (O j))) := by
  intro j hj
  obtain ⟨a, _⟩ := h j hj
  rw [a, if_pos hj]

/-- What the cells hold behind k acts. -/
def csb (f : Nat → Bool) (dk di da db : Nat → Int) : Nat → Nat → Bool
  | 0 => f
  | k + 1 => fun i => if (i : Int) = di k then mN (csb f dk di da db k i) (dk k) (da k) (db k) else csb f dk di da db k i
/-- What act j answers. -/
def cbo (f : Nat → Bool) (dk di da db : Nat → Int) (j : Nat) : Bool := mO (csb f dk di da db j (di j).toNat) (dk j) (da j)

theorem ce_zero {d i : Int} {m : Nat} (h : ceErr d i m = 0) : (d = 1 ∨ d = 2 ∨ d = 4 ∨ d = 5) ∧ 0 ≤ i ∧ i < (m : Int) := by
  unfold ceErr at h
  split at h
  · rename_i q
    refine ⟨q, ?_⟩
    unfold plErr at h
    split at h
    · cases h
    · omega
  · cases h

/-- The state of Nums' cells. -/
structure MarksJ (vb nb m : Nat) (cs : Nat → Bool) (w : World) : Prop where
  hd : w.cell? ⟨vb, 0, none⟩ = some (.slice (some ⟨nb, 0, none⟩) m m)
  ints : MarksTo w nb m m cs

theorem marks2_do (vb nb m n : Nat) (f : Nat → Bool) (dk di da db : Nat → Int) (hv : vb ≠ nb) (he : ∀ j, j < n → ceErr (dk j) (di j) m = 0) :
    DoOkB 101 (.pointer (some ⟨vb, 0, none⟩)) (fun k => k = vb ∨ k = nb) n dk di da db (cbo f dk di da db) (fun j => MarksJ vb nb m (csb f dk di da db j)) := by
  intro tb B j ks w hj hk ht hY hJ
  obtain ⟨hd, i0, i1⟩ := ce_zero (he j hj)
  have hvb := hY vb (Or.inl rfl)
  have hnb := hY nb (Or.inr rfl)
  obtain ⟨hc, hz⟩ := hJ.ints (di j).toNat (by omega)
  rw [if_pos (by omega)] at hc
  have hi : ((di j).toNat : Int) = di j := by omega
  have h := marks2_any (gate_tape tb B 100000 (Nat.le_refl _)) ks hk vb nb m (di j).toNat (csb f dk di da db j (di j).toNat) (dk j) (da j) (db j) hd (by omega) w ht hnb.1 hnb.2 hJ.hd hvb.2 hc hz
  rw [hi] at h
  refine h.mono ?_
  rintro e w' ⟨rfl, ht', hs⟩
  refine ⟨rfl, ht', ⟨?_, ?_⟩, hs.kp.mono (fun k h => ?_)⟩
  · exact (hs.kp.cell (p := ⟨vb, 0, none⟩) hvb.2 (by rintro (h | h); exact hvb.1 h; exact hv h)).trans hJ.hd
  · intro i hi'
    obtain ⟨a, z⟩ := hJ.ints i hi'
    refine ⟨?_, (hs.fro i).trans z⟩
    rw [if_pos hi'] at a ⊢
    by_cases e : i = (di j).toNat
    · subst e
      rw [hs.cell a]
      simp [csb, hi]
    · rw [hs.other (fun q => e q.symm), a]
      simp only [csb]
      rw [if_neg (by omega)]
  · rcases h with h | h
    · exact Or.inl h
    · exact Or.inr (Or.inr h)

theorem MarksTo.num {X : Nat → Prop} {w w1 : World} {b m j : Nat} {f : Nat → Bool} (h : MarksTo w b m j f) (hj : j < m) (hs : VStep X b j (.int .u32 (bI (f j))) w w1) : MarksTo w1 b m (j + 1) f :=
  (h.step hj).same hs.at_
theorem MarksJ.keep (vb nb m : Nat) (F : Nat → Nat → Bool) (j : Nat) (w w' : World) (h : MarksJ vb nb m (F j) w) (hk : ∀ k, (k = vb ∨ k = nb) → k < w.heap.size ∧ w'.heap[k]? = w.heap[k]?) (_ : w.heap.size ≤ w'.heap.size) : MarksJ vb nb m (F j) w' :=
  ⟨(World.cell?_of_block (w := w) (w' := w') (a := ⟨vb, 0, none⟩) (hk vb (Or.inl rfl)).2).trans h.hd, h.ints.same (hk nb (Or.inr rfl)).2⟩

/-- Nums' first loop, behind j cells. -/
structure FillB (N m j : Nat) (f : Nat → Bool) (w3 wr : World) : Prop where
  ints : MarksTo wr N m j f
  kp : Kp (fun k => k = N) w3 wr
theorem FillB.next {N m j : Nat} {f : Nat → Bool} {w3 wr w1 : World} (p : FillB N m j f w3 wr) (hj : j < m) (hs : VStep (fun _ => False) N j (.int .u32 (bI (f j))) wr w1) : FillB N m (j + 1) f w3 w1 :=
  ⟨p.ints.num hj hs, p.kp.trans (hs.kp.mono (fun _ h => h.elim (fun h => h.elim) id))⟩
/-- Nums' last loop, behind j cells. -/
structure HeldB (vb nb H m j : Nat) (cs : Nat → Bool) (w5 wr : World) : Prop where
  st : MarksJ vb nb m cs wr
  ints : BoolsTo wr H m j cs
  kp : Kp (fun k => k = nb ∨ k = H) w5 wr

theorem HeldB.next {vb nb H m j : Nat} {cs : Nat → Bool} {w5 wr w1 : World} (p : HeldB vb nb H m j cs w5 wr) (hj : j < m) (hs : VStep (fun _ => False) nb j (.int .u32 (bI (cs j))) wr w1) (h1 : vb ≠ nb) (h2 : vb ≠ H) (h3 : nb ≠ H) (hv : vb < wr.heap.size) (hH : H < wr.heap.size) :
    BoolsTo w1 H m j cs ∧ HeldB vb nb H m (j + 1) cs w5 (w1.setCell ⟨H, j, none⟩ (.bool (cs j))) := by
  have hc := p.st.ints.done j hj
  have hb : w1.heap[nb]? = wr.heap[nb]? := hs.at_.trans (set_same hc)
  have hi : BoolsTo w1 H m j cs := p.ints.same (hs.kp.block H hH (by rintro (h | h); exact h; exact h3 h.symm))
  have hd : w1.cell? ⟨vb, 0, none⟩ = wr.cell? ⟨vb, 0, none⟩ := hs.kp.cell (p := ⟨vb, 0, none⟩) hv (by rintro (h | h); exact h; exact h1 h)
  refine ⟨hi, ⟨?_, ?_⟩, hi.step hj, ?_⟩
  · rw [World.cell?_setCell_other _ _ _ _ (fun e => h2 (congrArg Addr.block e).symm), hd]
    exact p.st.hd
  · exact (p.st.ints.same hb).same (Below.heap_setCell _ _ _ _ (by simp; omega))
  · exact (p.kp.trans (hs.kp.mono (fun k h => h.elim (fun h => h.elim) Or.inl))).set (p := ⟨H, j, none⟩) (Or.inr rfl) _

set_option maxRecDepth 100000 in
set_option maxHeartbeats 1000000 in
theorem marks_ok (cb co m ca ab ao n cap : Nat) (x base : Option Addr) (f : Nat → Bool) (dk di da db : Nat → Int) (w : World) (hx : BoolsAt w x cb co m f) (h : CActs w base ab ao n dk di da db) (hm : m ≤ 64) (hn : n ≤ 1000) (he : frst (fun j => ceErr (dk j) (di j) m) n = 0) :
    Calls Try.prog 44 #[.slice x m ca, .slice base n cap] w fun e w' => ∃ b1 b2 v, e = .returned (.tuple #[.slice (some ⟨b1, 0, none⟩) n n, .slice (some ⟨b2, 0, none⟩) m m, v, .int .i64 0]) ∧ Below w.heap.size w w' ∧ w.heap.size ≤ b1 ∧ b1 < w'.heap.size ∧ w.heap.size ≤ b2 ∧ b2 < w'.heap.size ∧ BoolsTo w' b1 n n (cbo f dk di da db) ∧ BoolsTo w' b2 m m (csb f dk di da db n) ∧ w'.ownsRow w.heap.size 3 1 v n ((List.range n).map fun j => .int .i64 (dk j)) := by
  have hmk := run_make_known (P := Try.prog) 165 84 (.agg #[.int .u32 0]) 1 4 marks_under mark_info m (by omega) (by omega)
  have hmi := run_make_known (P := Try.prog) 92 4 (.bool false) 1 1 bools_under bool_info m (by omega) (by omega)
  have hmf := make_fn
  have hB1 : Below w.heap.size w (w.alloc (.cells #[.slice x m ca] 92)) := (Below.refl _ _).alloc (Nat.le_refl _) _
  have hbig : decide (64 < m ∨ 1000 < n) = false := by rw [decide_eq_false]; omega
  have HR : Hid _ := refused_marks w.heap.size x m ca ab ao n cap dk di da db (w.alloc (.cells #[.slice x m ca] 92)) base (h.kp (X := fun _ => False) (Kp.of_below hB1) (fun _ h => h)) (by simp) (by simp)
  rw [he] at HR
  have HX : Hid _ := hx
  have HA : Hid _ := h
  clear hx h
  go_enter Try.func44, Try.ntmps44
  go_wp2_with (first | (go_at_call 51; refine (tooMany_any _ _ _).mono ?_; rintro e w' ⟨rfl, rfl⟩) | (go_at_call 52; refine Calls.mono HR.out ?_; rintro e w2 ⟨rfl, hb2⟩; have hc2 := (hb2.cell (p := ⟨w.heap.size, 0, none⟩) (by simp)).trans (show (w.alloc (.cells #[.slice x m ca] 92)).cell? ⟨w.heap.size, 0, none⟩ = some (.slice x m ca) from by simp); have hl2 : w.heap.size < w2.heap.size := (by have := hb2.size; simp at this; omega); have hc3 : ∀ o1 o2, ((w2.alloc o1).alloc o2).cell? ⟨w.heap.size, 0, none⟩ = some (.slice x m ca) := (fun o1 o2 => ((((Below.refl w2.heap.size w2).alloc (Nat.le_refl _) o1).alloc (by simp) o2).cell (p := ⟨w.heap.size, 0, none⟩) hl2).trans hc2)))
  have hB2 : Below w.heap.size w w2 := hB1.trans (hb2.mono hB1.size)
  have hW : Below w.heap.size w ((w2.alloc (.cells (madeCells #[.int .u32 0] m) 84)).alloc (.cells #[.slice (some ⟨w2.heap.size, 0, none⟩) m m] 165)) := (hB2.alloc hB2.size _).alloc (by have := hB2.size; simp; omega) _
  have F0 : Hid _ := (⟨by have := MarksTo.made w2 m 84 f; exact this.same (Below.heap_alloc _ _ _ (by simp)), Kp.refl _ _⟩ : FillB w2.heap.size m 0 f ((w2.alloc (.cells (madeCells #[.int .u32 0] m) 84)).alloc (.cells #[.slice (some ⟨w2.heap.size, 0, none⟩) m m] 165)) _)
  have hhd : ((w2.alloc (.cells (madeCells #[.int .u32 0] m) 84)).alloc (.cells #[.slice (some ⟨w2.heap.size, 0, none⟩) m m] 165)).cell? ⟨w2.heap.size + 1, 0, none⟩ = some (.slice (some ⟨w2.heap.size, 0, none⟩) m m) := by simp
  have hsz3 : ((w2.alloc (.cells (madeCells #[.int .u32 0] m) 84)).alloc (.cells #[.slice (some ⟨w2.heap.size, 0, none⟩) m m] 165)).heap.size = w2.heap.size + 2 := by simp
  clear hc2 hc3 HR hb2 hB1
  generalize hw3 : ((w2.alloc (.cells (madeCells #[.int .u32 0] m) 84)).alloc (.cells #[.slice (some ⟨w2.heap.size, 0, none⟩) m m] 165)) = w3 at *
  generalize hN : w2.heap.size = N at *
  clear hw3 hB2
  go_loopw [32] (fun i wr => ∃ j : Nat, j ≤ m ∧ i = .int .i64 j ∧ FillB N m j f w3 wr) (fun i _ => m - (intOf i).toNat)
  case atStart => exact ⟨0, Nat.zero_le _, rfl, F0.out⟩
  case round =>
    obtain ⟨j, hj, rfl, hp⟩ := hrel
    have HP : Hid _ := hp
    clear hp F0
    by_cases hlt : j < m
    · obtain rfl : x = some ⟨cb, co, none⟩ := HX.out.base (by omega)
      have hcb := HX.out.lt (by omega)
      have x0 := (((HX.out.below hW).kp HP.out.kp (fun _ => by omega))).cells j hlt
      have x1 := (HP.out.kp.cell (p := ⟨N + 1, 0, none⟩) (by simp; omega) (by simp)).trans hhd
      obtain ⟨a1, z1⟩ := HP.out.ints j hlt
      have j0 : (0 : Int) ≤ (j : Int) := Int.natCast_nonneg _
      have j1 : (j : Int) < (m : Int) := by omega
      have HS : Hid _ := kStore (gate_nil 1) [] (by simp) N j _ (f j) wr trivial (fun h => h) (by have := HP.out.kp.size; omega) a1 z1
      clear a1 z1
      go_wp2_with fail
      refine Calls.mono HS.out ?_
      rintro e w1 ⟨rfl, _, hs1⟩
      go_wp2
      exact ⟨⟨j + 1, by omega, by go_num, HP.out.next hlt hs1⟩, by simp [intOf]; omega⟩
    · have hjm : m = j := by omega
      subst hjm
      have hwr := HP.out.kp.size
      have hAr := (HA.out.kp (X := fun _ => False) (Kp.of_below hW) (fun _ h => h)).kp HP.out.kp (fun h => by have := HA.out.lt h; omega)
      have hJ0 : MarksJ (N + 1) N m (csb f dk di da db 0) wr := ⟨(HP.out.kp.cell (p := ⟨N + 1, 0, none⟩) (by simp; omega) (by simp)).trans hhd, HP.out.ints⟩
      have HPl : Hid _ := playB_any 101 (fun _ _ => by kernel_rfl) (.pointer (some ⟨N + 1, 0, none⟩)) (fun k => k = N + 1 ∨ k = N) n ab ao cap dk di da db (cbo f dk di da db) (fun j => MarksJ (N + 1) N m (csb f dk di da db j)) wr base hAr hn (marks2_do (N + 1) N m n f dk di da db (by omega) (frst_zero he)) (MarksJ.keep (N + 1) N m (csb f dk di da db)) (by omega) (fun h => by have := HA.out.lt h; omega) hJ0
      clear hAr hJ0
      go_wp2_with fail
      refine Calls.mono HPl.out ?_
      rintro e w4 ⟨b1, v, rfl, q1, q2, hO4, hv4, hJ4, hk4⟩
      have s4 := hk4.size
      have hW4 : Below w.heap.size w w4 := (hW.trans (HP.out.kp.to_below w.heap.size (by omega) (by omega))).trans (hk4.to_below w.heap.size (by omega) (by omega))
      have HO4 : Hid _ := hO4
      have HV4 : Hid (World.ownsRow _ _ _ _ _ _ _) := hv4
      have hd4 := hJ4.hd
      have HJ4 : Hid _ := hJ4
      have HW4 : Hid _ := hW4
      clear hW4 hO4 hv4 hJ4 HPl hk4 HP hW hhd
      have hd5 : ∀ o, (w4.alloc o).cell? ⟨N + 1, 0, none⟩ = some (.slice (some ⟨N, 0, none⟩) m m) := fun o => (((Below.refl w4.heap.size w4).alloc (Nat.le_refl _) o).cell (p := ⟨N + 1, 0, none⟩) (by simp; omega)).trans hd4
      have s4' : N + 2 ≤ w4.heap.size := by omega
      have H0 : Hid _ := (⟨MarksJ.keep (N + 1) N m (csb f dk di da db) n w4 _ HJ4.out (fun k hk => ⟨by omega, Below.heap_alloc _ _ _ (by omega)⟩) (by simp), BoolsTo.made w4 m 4 _, Kp.refl _ _⟩ : HeldB (N + 1) N w4.heap.size m 0 (csb f dk di da db n) (w4.alloc (.cells (madeCells #[.bool false] m) 4)) _)
      have s5 : (w4.alloc (.cells (madeCells #[.bool false] m) 4)).heap.size = w4.heap.size + 1 := by simp
      clear HJ4
      go_wp2_with fail
      go_loopw [54] (fun i wr => ∃ j : Nat, j ≤ m ∧ i = .int .i64 j ∧ HeldB (N + 1) N w4.heap.size m j (csb f dk di da db n) (w4.alloc (.cells (madeCells #[.bool false] m) 4)) wr) (fun i _ => m - (intOf i).toNat)
      case atStart => exact ⟨0, Nat.zero_le _, rfl, H0.out⟩
      case round =>
        obtain ⟨j, hj, rfl, hp⟩ := hrel
        have HP : Hid _ := hp
        clear hp H0
        have hs5 := HP.out.kp.size
        by_cases hlt : j < m
        · have x1 := HP.out.st.hd
          obtain ⟨a1, z1⟩ := HP.out.st.ints j hlt
          rw [if_pos hlt] at a1
          have j0 : (0 : Int) ≤ (j : Int) := Int.natCast_nonneg _
          have j1 : (j : Int) < (m : Int) := by omega
          have HS : Hid _ := kLoad (gate_nil 1) [] (by simp) N j _ wr trivial (fun h => h) (by omega) a1 z1
          clear a1 z1
          go_wp2_with fail
          refine Calls.mono HS.out ?_
          rintro e w1 ⟨rfl, _, hs1⟩
          obtain ⟨hi1, hn1⟩ := HP.out.next hlt hs1 (by omega) (by omega) (by omega) (by omega) (by omega)
          obtain ⟨a2, z2⟩ := hi1 j hlt
          have HN : Hid _ := hn1
          clear hn1 hi1 hs1
          go_wp2
          exact ⟨⟨j + 1, by omega, by go_num, HN.out⟩, by simp [intOf]; omega⟩
        · have hjm : m = j := by omega
          subst hjm
          go_wp2
          (try simp only [Exit.inBlock, Exit.then]); refine bodyPost_ret (results_tmp4 rfl _ _ _) rfl ?_
          have hk := HP.out.kp
          have hw4 := HW4.out
          refine ⟨b1, w4.heap.size, v, rfl, ?_, by omega, by omega, by omega, by omega, ?_, HP.out.ints, ?_⟩
          · exact (hw4.alloc hw4.size _).trans (hk.to_below w.heap.size (by have := hw4.size; omega) (by have := hw4.size; omega))
          · refine BoolsTo.same HO4.out ?_
            rw [hk.block b1 (by omega) (by omega), Below.heap_alloc _ _ _ q2]
          · refine owns_mono (B := b1 + 1) (owns_kept HV4.out (fun k hk' hB => ?_)) (by omega)
            rw [hk.block k (by omega) (by omega), Below.heap_alloc _ _ _ hk']
end Go.Proofs.Ytlbfkgecckdlgaa
