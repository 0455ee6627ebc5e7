/- Layer 2: Nums, walked. -/
import Derived.Test.YtlbfkgecckdlgaaCNums
namespace Go.Proofs.Ytlbfkgecckdlgaa
open Go.RowKit

theorem num_info : (Try.prog.info? 51).map (fun i => (i.zero, i.size, i.bytes)) = some (some (.agg #[.int .i64 0]), 1, 8) := by kernel_rfl
theorem nums_under : Try.prog.underlying 106 = some (.slice 51) := by kernel_rfl
theorem make_fn (fn : Fn) (first cap : Array Value) (w : World) : (Instr.makeFunc fn first cap).run Try.prog w = .ok (.func fn first cap) w := rfl

theorem results_tmp4 {fn : Func} {t u v x : Tmp} (h : fn.results = #[.tmp t, .tmp u, .tmp v, .tmp x]) (tmps : Array Value) (P : Program) (w : World) :
    (results fn tmps).run P w = .ok (.tuple #[tmps.getD t undef, tmps.getD u undef, tmps.getD v undef, tmps.getD x undef]) w := by
  simp [results, h]
theorem IntsTo.num {X : Nat → Prop} {w w1 : World} {b m j : Nat} {f : Nat → Int} (h : IntsTo w b m j f) (hj : j < m) (hs : NumStep X b j (f j) w w1) : IntsTo w1 b m (j + 1) f :=
  (h.step hj).same hs.at_
theorem NumsJ.keep (vb nb m : Nat) (F : Nat → Nat → Int) (j : Nat) (w w' : World) (h : NumsJ vb nb m (F j) w) (hk : ∀ k, (k = vb ∨ k = nb) → k < w.heap.size ∧ w'.heap[k]? = w.heap[k]?) (_ : w.heap.size ≤ w'.heap.size) : NumsJ vb nb m (F j) w' :=
  ⟨(World.cell?_of_block (w := w) (w' := w') (a := ⟨vb, 0, none⟩) (hk vb (Or.inl rfl)).2).trans h.hd, h.ints.same (hk nb (Or.inr rfl)).2⟩

/-- Nums' first loop, behind j cells. -/
structure FillInv (N m j : Nat) (f : Nat → Int) (w3 wr : World) : Prop where
  ints : IntsTo wr N m j f
  kp : Kp (fun k => k = N) w3 wr
theorem FillInv.next {N m j : Nat} {f : Nat → Int} {w3 wr w1 : World} (p : FillInv N m j f w3 wr) (hj : j < m) (hs : NumStep (fun _ => False) N j (f j) wr w1) : FillInv N m (j + 1) f w3 w1 :=
  ⟨p.ints.num hj hs, p.kp.trans (hs.kp.mono (fun _ h => h.elim (fun h => h.elim) id))⟩
/-- Nums' last loop, behind j cells. -/
structure HeldInv (vb nb H m j : Nat) (cs : Nat → Int) (w5 wr : World) : Prop where
  st : NumsJ vb nb m cs wr
  ints : IntsTo wr H m j cs
  kp : Kp (fun k => k = nb ∨ k = H) w5 wr

theorem HeldInv.next {vb nb H m j : Nat} {cs : Nat → Int} {w5 wr w1 : World} (p : HeldInv vb nb H m j cs w5 wr) (hj : j < m) (hs : NumStep (fun _ => False) nb j (cs j) wr w1) (h1 : vb ≠ nb) (h2 : vb ≠ H) (h3 : nb ≠ H) (hv : vb < wr.heap.size) (hH : H < wr.heap.size) :
    IntsTo w1 H m j cs ∧ HeldInv vb nb H m (j + 1) cs w5 (w1.setCell ⟨H, j, none⟩ (.int .i64 (cs j))) := by
  have hc := p.st.ints.done j hj
  have hb : w1.heap[nb]? = wr.heap[nb]? := hs.at_.trans (set_same hc)
  have hi : IntsTo w1 H m j cs := p.ints.same (hs.kp.block H hH (by rintro (h | h); exact h; exact h3 h.symm))
  have hd : w1.cell? ⟨vb, 0, none⟩ = wr.cell? ⟨vb, 0, none⟩ := hs.kp.cell (p := ⟨vb, 0, none⟩) hv (by rintro (h | h); exact h; exact h1 h)
  refine ⟨hi, ⟨?_, ?_⟩, hi.step hj, ?_⟩
  · rw [World.cell?_setCell_other _ _ _ _ (fun e => h2 (congrArg Addr.block e).symm), hd]
    exact p.st.hd
  · exact (p.st.ints.same hb).same (Below.heap_setCell _ _ _ _ (by simp; omega))
  · exact (p.kp.trans (hs.kp.mono (fun k h => h.elim (fun h => h.elim) Or.inl))).set (p := ⟨H, j, none⟩) (Or.inr rfl) _

set_option maxRecDepth 100000 in
set_option maxHeartbeats 1000000 in
theorem nums_ok (cb co m ca ab ao n cap : Nat) (x base : Option Addr) (f dk di da db : Nat → Int) (w : World) (hx : NumsAt w x cb co m f) (h : CActs w base ab ao n dk di da db) (hm : m ≤ 64) (hn : n ≤ 1000) (he : frst (fun j => nmErr (dk j) (di j) m) n = 0) :
    Calls Try.prog 13 #[.slice x m ca, .slice base n cap] w fun e w' => ∃ b1 b2 v, e = .returned (.tuple #[.slice (some ⟨b1, 0, none⟩) n n, .slice (some ⟨b2, 0, none⟩) m m, v, .int .i64 0]) ∧ Below w.heap.size w w' ∧ w.heap.size ≤ b1 ∧ b1 < w'.heap.size ∧ w.heap.size ≤ b2 ∧ b2 < w'.heap.size ∧ IntsTo w' b1 n n (cso f dk di da db) ∧ IntsTo w' b2 m m (csn f dk di da db n) ∧ w'.ownsRow w.heap.size 3 1 v n ((List.range n).map fun j => .int .i64 (dk j)) := by
  have hmk := run_make_known (P := Try.prog) 106 51 (.agg #[.int .i64 0]) 1 8 nums_under num_info m (by omega) (by omega)
  have hmi := run_make_known (P := Try.prog) 22 3 (.int .i64 0) 1 8 ints_under int_info m (by omega) (by omega)
  have hmf := make_fn
  have hB1 : Below w.heap.size w (w.alloc (.cells #[.slice x m ca] 22)) := (Below.refl _ _).alloc (Nat.le_refl _) _
  have hbig : decide (64 < m ∨ 1000 < n) = false := by rw [decide_eq_false]; omega
  have HR : Hid _ := refused_nums w.heap.size x m ca ab ao n cap dk di da db (w.alloc (.cells #[.slice x m ca] 22)) base (h.kp (X := fun _ => False) (Kp.of_below hB1) (fun _ h => h)) (by simp) (by simp)
  rw [he] at HR
  have HX : Hid _ := hx
  have HA : Hid _ := h
  clear hx h
  go_enter Try.func13, Try.ntmps13
  go_wp2_with (first | (go_at_call 51; refine (tooMany_any _ _ _).mono ?_; rintro e w' ⟨rfl, rfl⟩) | (go_at_call 52; refine Calls.mono HR.out ?_; rintro e w2 ⟨rfl, hb2⟩; have hc2 := (hb2.cell (p := ⟨w.heap.size, 0, none⟩) (by simp)).trans (show (w.alloc (.cells #[.slice x m ca] 22)).cell? ⟨w.heap.size, 0, none⟩ = some (.slice x m ca) from by simp); have hl2 : w.heap.size < w2.heap.size := (by have := hb2.size; simp at this; omega); have hc3 : ∀ o1 o2, ((w2.alloc o1).alloc o2).cell? ⟨w.heap.size, 0, none⟩ = some (.slice x m ca) := (fun o1 o2 => ((((Below.refl w2.heap.size w2).alloc (Nat.le_refl _) o1).alloc (by simp) o2).cell (p := ⟨w.heap.size, 0, none⟩) hl2).trans hc2)))
  have hB2 : Below w.heap.size w w2 := hB1.trans (hb2.mono hB1.size)
  have hW : Below w.heap.size w ((w2.alloc (.cells (madeCells #[.int .i64 0] m) 51)).alloc (.cells #[.slice (some ⟨w2.heap.size, 0, none⟩) m m] 106)) := (hB2.alloc hB2.size _).alloc (by have := hB2.size; simp; omega) _
  have F0 : Hid _ := (⟨by have := IntsTo.made w2 m 51 f; exact this.same (Below.heap_alloc _ _ _ (by simp)), Kp.refl _ _⟩ : FillInv w2.heap.size m 0 f ((w2.alloc (.cells (madeCells #[.int .i64 0] m) 51)).alloc (.cells #[.slice (some ⟨w2.heap.size, 0, none⟩) m m] 106)) _)
  have hhd : ((w2.alloc (.cells (madeCells #[.int .i64 0] m) 51)).alloc (.cells #[.slice (some ⟨w2.heap.size, 0, none⟩) m m] 106)).cell? ⟨w2.heap.size + 1, 0, none⟩ = some (.slice (some ⟨w2.heap.size, 0, none⟩) m m) := by simp
  have hsz3 : ((w2.alloc (.cells (madeCells #[.int .i64 0] m) 51)).alloc (.cells #[.slice (some ⟨w2.heap.size, 0, none⟩) m m] 106)).heap.size = w2.heap.size + 2 := by simp
  clear hc2 hc3 HR hb2 hB1
  generalize hw3 : ((w2.alloc (.cells (madeCells #[.int .i64 0] m) 51)).alloc (.cells #[.slice (some ⟨w2.heap.size, 0, none⟩) m m] 106)) = w3 at *
  generalize hN : w2.heap.size = N at *
  clear hw3 hB2
  go_loopw [32] (fun i wr => ∃ j : Nat, j ≤ m ∧ i = .int .i64 j ∧ FillInv N m j f w3 wr) (fun i _ => m - (intOf i).toNat)
  case atStart => exact ⟨0, Nat.zero_le _, rfl, F0.out⟩
  case round =>
    obtain ⟨j, hj, rfl, hp⟩ := hrel
    have HP : Hid _ := hp
    clear hp F0
    by_cases hlt : j < m
    · obtain rfl : x = some ⟨cb, co, none⟩ := HX.out.base (by omega)
      have hcb := HX.out.lt (by omega)
      have x0 := (((HX.out.below hW).kp HP.out.kp (fun _ => by omega))).cells j hlt
      have x1 := (HP.out.kp.cell (p := ⟨N + 1, 0, none⟩) (by simp; omega) (by simp)).trans hhd
      obtain ⟨a1, z1⟩ := HP.out.ints j hlt
      have j0 : (0 : Int) ≤ (j : Int) := Int.natCast_nonneg _
      have j1 : (j : Int) < (m : Int) := by omega
      have HS : Hid _ := nStore (gate_nil 1) [] (by simp) N j _ (f j) wr trivial (fun h => h) (by have := HP.out.kp.size; omega) a1 z1
      clear a1 z1
      go_wp2_with fail
      refine Calls.mono HS.out ?_
      rintro e w1 ⟨rfl, _, hs1⟩
      go_wp2
      exact ⟨⟨j + 1, by omega, by go_num, HP.out.next hlt hs1⟩, by simp [intOf]; omega⟩
    · have hjm : m = j := by omega
      subst hjm
      have hwr := HP.out.kp.size
      have hAr := (HA.out.kp (X := fun _ => False) (Kp.of_below hW) (fun _ h => h)).kp HP.out.kp (fun h => by have := HA.out.lt h; omega)
      have hJ0 : NumsJ (N + 1) N m (csn f dk di da db 0) wr := ⟨(HP.out.kp.cell (p := ⟨N + 1, 0, none⟩) (by simp; omega) (by simp)).trans hhd, HP.out.ints⟩
      have HPl : Hid _ := play_any 56 (fun _ _ => by kernel_rfl) (.pointer (some ⟨N + 1, 0, none⟩)) (fun k => k = N + 1 ∨ k = N) n ab ao cap dk di da db (cso f dk di da db) (fun j => NumsJ (N + 1) N m (csn f dk di da db j)) wr base hAr hn (nums2_do (N + 1) N m n f dk di da db (by omega) (frst_zero he)) (NumsJ.keep (N + 1) N m (csn f dk di da db)) (by omega) (fun h => by have := HA.out.lt h; omega) hJ0
      clear hAr hJ0
      go_wp2_with fail
      refine Calls.mono HPl.out ?_
      rintro e w4 ⟨b1, v, rfl, q1, q2, hO4, hv4, hJ4, hk4⟩
      have s4 := hk4.size
      have hW4 : Below w.heap.size w w4 := (hW.trans (HP.out.kp.to_below w.heap.size (by omega) (by omega))).trans (hk4.to_below w.heap.size (by omega) (by omega))
      have HO4 : Hid _ := hO4
      have HV4 : Hid (World.ownsRow _ _ _ _ _ _ _) := hv4
      have hd4 := hJ4.hd
      have HJ4 : Hid _ := hJ4
      have HW4 : Hid _ := hW4
      clear hW4 hO4 hv4 hJ4 HPl hk4 HP hW hhd
      have hd5 : ∀ o, (w4.alloc o).cell? ⟨N + 1, 0, none⟩ = some (.slice (some ⟨N, 0, none⟩) m m) := fun o => (((Below.refl w4.heap.size w4).alloc (Nat.le_refl _) o).cell (p := ⟨N + 1, 0, none⟩) (by simp; omega)).trans hd4
      have s4' : N + 2 ≤ w4.heap.size := by omega
      have H0 : Hid _ := (⟨NumsJ.keep (N + 1) N m (csn f dk di da db) n w4 _ HJ4.out (fun k hk => ⟨by omega, Below.heap_alloc _ _ _ (by omega)⟩) (by simp), IntsTo.made w4 m 3 _, Kp.refl _ _⟩ : HeldInv (N + 1) N w4.heap.size m 0 (csn f dk di da db n) (w4.alloc (.cells (madeCells #[.int .i64 0] m) 3)) _)
      have s5 : (w4.alloc (.cells (madeCells #[.int .i64 0] m) 3)).heap.size = w4.heap.size + 1 := by simp
      clear HJ4
      go_wp2_with fail
      go_loopw [54] (fun i wr => ∃ j : Nat, j ≤ m ∧ i = .int .i64 j ∧ HeldInv (N + 1) N w4.heap.size m j (csn f dk di da db n) (w4.alloc (.cells (madeCells #[.int .i64 0] m) 3)) wr) (fun i _ => m - (intOf i).toNat)
      case atStart => exact ⟨0, Nat.zero_le _, rfl, H0.out⟩
      case round =>
        obtain ⟨j, hj, rfl, hp⟩ := hrel
        have HP : Hid _ := hp
        clear hp H0
        have hs5 := HP.out.kp.size
        by_cases hlt : j < m
        · have x1 := HP.out.st.hd
          obtain ⟨a1, z1⟩ := HP.out.st.ints j hlt
          rw [if_pos hlt] at a1
          have j0 : (0 : Int) ≤ (j : Int) := Int.natCast_nonneg _
          have j1 : (j : Int) < (m : Int) := by omega
          have HS : Hid _ := nLoad (gate_nil 1) [] (by simp) N j _ wr trivial (fun h => h) (by omega) a1 z1
          clear a1 z1
          go_wp2_with fail
          refine Calls.mono HS.out ?_
          rintro e w1 ⟨rfl, _, hs1⟩
          obtain ⟨hi1, hn1⟩ := HP.out.next hlt hs1 (by omega) (by omega) (by omega) (by omega) (by omega)
          obtain ⟨a2, z2⟩ := hi1 j hlt
          have HN : Hid _ := hn1
          clear hn1 hi1 hs1
          go_wp2
          exact ⟨⟨j + 1, by omega, by go_num, HN.out⟩, by simp [intOf]; omega⟩
        · have hjm : m = j := by omega
          subst hjm
          go_wp2
          (try simp only [Exit.inBlock, Exit.then]); refine bodyPost_ret (results_tmp4 rfl _ _ _) rfl ?_
          have hk := HP.out.kp
          have hw4 := HW4.out
          refine ⟨b1, w4.heap.size, v, rfl, ?_, by omega, by omega, by omega, by omega, ?_, HP.out.ints, ?_⟩
          · exact (hw4.alloc hw4.size _).trans (hk.to_below w.heap.size (by have := hw4.size; omega) (by have := hw4.size; omega))
          · refine IntsTo.same HO4.out ?_
            rw [hk.block b1 (by omega) (by omega), Below.heap_alloc _ _ _ q2]
          · refine owns_mono (B := b1 + 1) (owns_kept HV4.out (fun k hk' hB => ?_)) (by omega)
            rw [hk.block k (by omega) (by omega), Below.heap_alloc _ _ _ hk']
end Go.Proofs.Ytlbfkgecckdlgaa
