/- Layer 2: Ids, walked. -/
import Derived.Test.YtlbfkgecckdlgaaCIds
import Derived.Test.YtlbfkgecckdlgaaCNums2
namespace Go.Proofs.Ytlbfkgecckdlgaa
open Go.RowKit

theorem IdsJ.keep (mv M n rv nb m : Nat) (F : Nat → Nat → Int) (j : Nat) (w w' : World) (h : IdsJ mv M n rv nb m (F j) w) (hk : ∀ k, IdsY mv M n rv nb k → k < w.heap.size ∧ w'.heap[k]? = w.heap[k]?) (hs : w.heap.size ≤ w'.heap.size) : IdsJ mv M n rv nb m (F j) w' := by
  refine ⟨?_, ?_, ?_, ⟨fun i hi => ?_, fun i hi => ?_, Nat.le_trans h.ts.size hs⟩, h.nums⟩
  · exact (World.cell?_of_block (w := w) (w' := w') (a := ⟨mv, 0, none⟩) (hk mv (Or.inl rfl)).2).trans h.hm
  · exact (World.cell?_of_block (w := w) (w' := w') (a := ⟨rv, 0, none⟩) (hk rv (Or.inr (Or.inl rfl))).2).trans h.hr
  · exact h.row.same (hk nb (Or.inr (Or.inr (Or.inl rfl)))).2
  · exact (World.cell?_of_block (w := w) (w' := w') (a := ⟨M, i, none⟩) (hk M (Or.inr (Or.inr (Or.inr ⟨by omega, by omega⟩)))).2).trans (h.ts.cells i hi)
  · rw [(hk (M + 1 + i) (Or.inr (Or.inr (Or.inr ⟨by omega, by omega⟩)))).2]; exact h.ts.blocks i hi

theorem csn_isT {f dk di da db : Nat → Int} {m n N : Nat} (hf : ∀ i, i < m → isT (f i) n) (he : ∀ j, j < N → idErr (dk j) (di j) (da j) (db j) m n = 0) : ∀ j, j ≤ N → ∀ i, i < m → isT (csn f dk di da db j i) n
  | 0, _, i, hi => hf i hi
  | j + 1, hj, i, hi => by
    obtain ⟨hd, _, ha, hc⟩ := id_zero (he j (by omega))
    have h0 := csn_isT hf he j (by omega) i hi
    simp only [csn]
    split
    · exact nN_isT hd h0 ha hc
    · exact h0

theorem ids3_do (mv M n rv nb m N : Nat) (f dk di da db : Nat → Int) (hn : n ≤ 64) (h2 : M + 1 + n ≤ nb) (h4 : mv ≠ nb) (h5 : rv ≠ nb) (hf : ∀ i, i < m → isT (f i) n) (he : ∀ j, j < N → idErr (dk j) (di j) (da j) (db j) m n = 0) :
    DoOk2 92 (.pointer (some ⟨mv, 0, none⟩)) (.pointer (some ⟨rv, 0, none⟩)) (IdsY mv M n rv nb) N dk di da db (cso f dk di da db) (fun j => IdsJ mv M n rv nb m (csn f dk di da db j)) := by
  intro tb B j ks w hj hk ht hY hJ
  obtain ⟨hd, ⟨i0, i1⟩, ha, hc⟩ := id_zero (he j hj)
  have ym := hY mv (Or.inl rfl)
  have yr := hY rv (Or.inr (Or.inl rfl))
  have yn := hY nb (Or.inr (Or.inr (Or.inl rfl)))
  have yt : ∀ k, M ≤ k → k < M + 1 + n → ¬ TapeX tb B k := fun k q1 q2 => (hY k (Or.inr (Or.inr (Or.inr ⟨q1, q2⟩)))).1
  have hp : (di j).toNat < m := by omega
  obtain ⟨hcell, hz⟩ := hJ.row (di j).toNat hp
  rw [if_pos hp] at hcell
  have hi : ((di j).toNat : Int) = di j := by omega
  have hh := ids3_any (gate_tape tb B 100000 (Nat.le_refl _)) ks hk mv M n rv nb m (di j).toNat hn yt (Or.inr h2) (csn f dk di da db j (di j).toNat) (dk j) (da j) (db j) hd (hJ.nums _ hp) ha hc hp w ht yn.1 yn.2 hJ.hr yr.2 hJ.hm ym.2 hJ.ts hcell hz
  rw [hi] at hh
  refine hh.mono ?_
  rintro e w' ⟨rfl, ht', hs⟩
  have hcs : csn f dk di da db (j + 1) (di j).toNat = nN (csn f dk di da db j (di j).toNat) (dk j) (da j) (db j) := by simp [csn, hi]
  refine ⟨rfl, ht', ⟨?_, ?_, ?_, ?_, ?_⟩, hs.kp.mono (fun k h => ?_)⟩
  · exact (hs.kp.cell (p := ⟨mv, 0, none⟩) ym.2 (by rintro (h | h); exact ym.1 h; exact h4 h)).trans hJ.hm
  · exact (hs.kp.cell (p := ⟨rv, 0, none⟩) yr.2 (by rintro (h | h); exact yr.1 h; exact h5 h)).trans hJ.hr
  · refine hJ.row.step (p := (di j).toNat) (cs' := csn f dk di da db (j + 1)) (by rw [hcs]; exact hs) (fun i hne => ?_)
    simp only [csn]
    rw [if_neg (by omega)]
  · exact hJ.ts.kp hs.kp (fun k q1 q2 => by rintro (h | h); exact yt k q1 q2 h; omega)
  · exact fun i hi' => csn_isT hf he (j + 1) (by omega) i hi'
  · rcases h with h | h
    · exact Or.inl h
    · exact Or.inr (Or.inr (Or.inr (Or.inl h)))

theorem cellT_info : (Try.prog.info? 156).map (fun i => (i.zero, i.size, i.bytes)) = some (some (.agg #[.pointer none]), 1, 8) := by kernel_rfl
theorem cellsT_under : Try.prog.underlying 150 = some (.slice 156) := by kernel_rfl
theorem RowT.made (w : World) (M n : Nat) (e : TypeId) (cs : Nat → Int) : RowT (w.alloc (.cells (madeCells #[.pointer none] n) e)) M w.heap.size n 0 cs := by
  intro j hj
  have c0 : (madeCells #[.pointer none] n)[j]? = some (.pointer none) := by simp [madeCells, hj, Nat.mod_one]
  refine ⟨?_, by simp⟩
  simp [c0]

/-- Ids' first loop, behind j cells. -/
structure FillT (V M m j : Nat) (f : Nat → Int) (W3 wr : World) : Prop where
  row : RowT wr M (V + 1) m j f
  kp : Kp (fun k => k = V + 1) W3 wr
theorem FillT.next {V M m j : Nat} {f : Nat → Int} {W3 wr w1 : World} (p : FillT V M m j f W3 wr) (hj : j < m) (hs : VStep (fun _ => False) (V + 1) j (.pointer (th M (f j))) wr w1) : FillT V M m (j + 1) f W3 w1 :=
  ⟨p.row.fill hj hs, p.kp.trans (hs.kp.mono (fun _ h => h.elim (fun h => h.elim) id))⟩
/-- Ids' last loop, behind j cells. -/
structure HeldT (V M n m Hb j : Nat) (cs : Nat → Int) (w5 wr : World) : Prop where
  st : IdsJ V M n (V + 2) (V + 1) m cs wr
  ints : IntsTo wr Hb m j cs
  kp : Kp (fun k => k = V + 1 ∨ k = Hb) w5 wr
theorem HeldT.next {V M n m Hb j : Nat} {cs : Nat → Int} {w5 wr w1 : World} (p : HeldT V M n m Hb j cs w5 wr) (hj : j < m) (hMV : M + 1 + n ≤ V) (hVH : V + 3 ≤ Hb) (hH : Hb < wr.heap.size) (hs : VStep (fun _ => False) (V + 1) j (.pointer (th M (cs j))) wr w1) :
    IntsTo w1 Hb m j cs ∧ TS M n w1 ∧ HeldT V M n m Hb (j + 1) cs w5 (w1.setCell ⟨Hb, j, none⟩ (.int .i64 (cs j))) := by
  have hc := (p.st.row j hj).1
  rw [if_pos hj] at hc
  have hb : w1.heap[V + 1]? = wr.heap[V + 1]? := hs.at_.trans (set_same hc)
  have hall : ∀ k, k < wr.heap.size → w1.heap[k]? = wr.heap[k]? := fun k hk => by
    by_cases e : k = V + 1
    · subst e; exact hb
    · exact hs.kp.block k hk (by rintro (h | h); exact h; exact e h)
  have hi : IntsTo w1 Hb m j cs := p.ints.same (hall Hb hH)
  have hts : TS M n w1 := p.st.ts.kp hs.kp (fun k q1 q2 => by rintro (h | h); exact h; omega)
  refine ⟨hi, hts, ?_, hi.step hj, ?_⟩
  · refine IdsJ.keep V M n (V + 2) (V + 1) m (fun _ => cs) 0 wr _ p.st (fun k hk => ⟨?_, ?_⟩) (by have := hs.kp.size; simpa [World.setCell] using this)
    · unfold IdsY at hk; have := p.st.ts.size; omega
    · unfold IdsY at hk
      rw [Below.heap_setCell _ _ _ _ (by simp; omega)]
      exact hall k (by omega)
  · exact (p.kp.trans (hs.kp.mono (fun k h => h.elim (fun h => h.elim) Or.inl))).set (p := ⟨Hb, j, none⟩) (Or.inr rfl) _

set_option maxRecDepth 100000 in
set_option maxHeartbeats 1000000 in
theorem ids_ok (cb co m ca ab ao N cap n : Nat) (x base : Option Addr) (f dk di da db : Nat → Int) (w : World) (hx : NumsAt w x cb co m f) (h : CActs w base ab ao N dk di da db) (hm : m ≤ 64) (hN : N ≤ 1000) (hn : n ≤ 64) (hall : allT f n m = true) (he : frst (fun j => idErr (dk j) (di j) (da j) (db j) m n) N = 0) :
    Calls Try.prog 42 #[.slice x m ca, .int .i64 n, .slice base N cap] w fun e w' => ∃ b1 b2 v, e = .returned (.tuple #[.slice (some ⟨b1, 0, none⟩) N N, .slice (some ⟨b2, 0, none⟩) m m, v, .int .i64 0]) ∧ Below w.heap.size w w' ∧ w.heap.size ≤ b1 ∧ b1 < w'.heap.size ∧ w.heap.size ≤ b2 ∧ b2 < w'.heap.size ∧ IntsTo w' b1 N N (cso f dk di da db) ∧ IntsTo w' b2 m m (csn f dk di da db N) ∧ w'.ownsRow w.heap.size 3 1 v N ((List.range N).map fun j => .int .i64 (dk j)) := by
  have hmk := run_make_known (P := Try.prog) 150 156 (.agg #[.pointer none]) 1 8 cellsT_under cellT_info m (by omega) (by omega)
  have hmi := run_make_known (P := Try.prog) 22 3 (.int .i64 0) 1 8 ints_under int_info m (by omega) (by omega)
  have hmf := make_fn
  have hbig : decide (64 < m ∨ 1000 < N) = false := by rw [decide_eq_false]; omega
  have hf : ∀ i, i < m → isT (f i) n := fun i hi => okT_isT (allT_of hall i hi)
  have hez := frst_zero he
  generalize hW0 : (w.alloc (.cells #[.slice x m ca] 22)).alloc (.cells #[.int .i64 n] 3) = W0
  have hB0 : Below w.heap.size w W0 := by rw [← hW0]; exact ((Below.refl _ _).alloc (Nat.le_refl _) _).alloc (by simp) _
  have s0 : W0.heap.size = w.heap.size + 2 := by rw [← hW0]; simp
  have cv0 : W0.cell? ⟨w.heap.size, 0, none⟩ = some (.slice x m ca) := by rw [← hW0]; simp
  have ct0 : W0.cell? ⟨w.heap.size + 1, 0, none⟩ = some (.int .i64 n) := by rw [← hW0]; simp
  have n0 : (0 : Int) ≤ (n : Int) := Int.natCast_nonneg _
  have n64 : (n : Int) ≤ 64 := by omega
  have HCo : Hid _ := contains_any cb co m ca x f (w.heap.size + 1) n W0 (hx.below hB0) ct0
  rw [hall] at HCo
  have HRe : Hid (∀ W : World, Below W0.heap.size W0 W → Calls Try.prog 52 #[.slice base N cap, .func (.func 87) #[] #[.pointer (some ⟨w.heap.size, 0, none⟩), .pointer (some ⟨w.heap.size + 1, 0, none⟩)]] W fun e w' => e = .returned (.int .i64 0) ∧ Below W.heap.size W w') := fun W hW => by
    have := refused_ids w.heap.size (w.heap.size + 1) x m ca n ab ao N cap dk di da db W base ((h.kp (X := fun _ => False) (Kp.of_below hB0) (fun _ h => h)).kp (X := fun _ => False) (Kp.of_below hW) (fun _ h => h)) ((hW.cell (p := ⟨w.heap.size, 0, none⟩) (by simp; omega)).trans cv0) (by have := hW.size; omega) ((hW.cell (p := ⟨w.heap.size + 1, 0, none⟩) (by simp; omega)).trans ct0) (by have := hW.size; omega)
    rw [he] at this
    exact this
  have HX : Hid _ := hx
  have HA : Hid _ := h
  clear hx h he hall
  go_enter Try.func42, Try.ntmps42
  go_wp2_with (first | (go_at_call 51; refine (tooMany_any _ _ _).mono ?_; rintro e w' ⟨rfl, rfl⟩))
  refine Calls.mono HCo.out ?_
  rintro e w1 ⟨rfl, hb1⟩
  clear HCo
  go_wp2_with fail
  refine Calls.mono (HRe.out w1 hb1) ?_
  rintro e w2 ⟨rfl, hb2⟩
  have s1 := hb1.size
  have s2 := hb2.size
  have hB2 : Below w.heap.size w w2 := (hB0.trans (hb1.mono (by omega))).trans (hb2.mono (by omega))
  have cv2 : w2.cell? ⟨w.heap.size, 0, none⟩ = some (.slice x m ca) := (hb2.cell (p := ⟨w.heap.size, 0, none⟩) (by simp; omega)).trans ((hb1.cell (p := ⟨w.heap.size, 0, none⟩) (by simp; omega)).trans cv0)
  have ct2 : w2.cell? ⟨w.heap.size + 1, 0, none⟩ = some (.int .i64 n) := (hb2.cell (p := ⟨w.heap.size + 1, 0, none⟩) (by simp; omega)).trans ((hb1.cell (p := ⟨w.heap.size + 1, 0, none⟩) (by simp; omega)).trans ct0)
  clear HRe hb1 hb2 cv0 ct0 hB0 hW0
  go_wp2_with fail
  refine (makeThings_any n hn w2).mono ?_
  rintro e w3 ⟨rfl, ht3, hb3⟩
  have s3 := ht3.size
  have hB3 : Below w.heap.size w w3 := hB2.trans (hb3.mono (by omega))
  have cv3 : ∀ o1 o2 o3, (((w3.alloc o1).alloc o2).alloc o3).cell? ⟨w.heap.size, 0, none⟩ = some (.slice x m ca) := fun o1 o2 o3 => (((((Below.refl w3.heap.size w3).alloc (Nat.le_refl _) o1).alloc (by simp) o2).alloc (by simp; omega) o3).cell (p := ⟨w.heap.size, 0, none⟩) (by simp; omega)).trans ((hb3.cell (p := ⟨w.heap.size, 0, none⟩) (by simp; omega)).trans cv2)
  have cv4 : ∀ o1, (w3.alloc o1).cell? ⟨w.heap.size, 0, none⟩ = some (.slice x m ca) := fun o1 => (((Below.refl w3.heap.size w3).alloc (Nat.le_refl _) o1).cell (p := ⟨w.heap.size, 0, none⟩) (by simp; omega)).trans ((hb3.cell (p := ⟨w.heap.size, 0, none⟩) (by simp; omega)).trans cv2)
  have HT3 : Hid _ := ht3
  generalize hM : w2.heap.size = M at *
  clear hb3 ht3 cv2 ct2 hB2
  go_wp2_with fail
  generalize hV : w3.heap.size = V at *
  have hk3 : Kp (fun _ => False) w3 (((w3.alloc (.cells #[.slice (some ⟨M, 0, none⟩) n n] 148)).alloc (.cells (madeCells #[.pointer none] m) 156)).alloc (.cells #[.slice (some ⟨V + 1, 0, none⟩) m m] 150)) := (((Kp.refl _ _).alloc _).alloc _).alloc _
  have hT4 := HT3.out.kp hk3 (fun _ _ _ h => h)
  have hR4 : RowT (((w3.alloc (.cells #[.slice (some ⟨M, 0, none⟩) n n] 148)).alloc (.cells (madeCells #[.pointer none] m) 156)).alloc (.cells #[.slice (some ⟨V + 1, 0, none⟩) m m] 150)) M (V + 1) m 0 f := by
    have := RowT.made (w3.alloc (.cells #[.slice (some ⟨M, 0, none⟩) n n] 148)) M m 156 f
    simp only [World.size_alloc, hV] at this
    exact this.same (Below.heap_alloc _ _ _ (by simp; omega))
  have e4 : (((w3.alloc (.cells #[.slice (some ⟨M, 0, none⟩) n n] 148)).alloc (.cells (madeCells #[.pointer none] m) 156)).alloc (.cells #[.slice (some ⟨V + 1, 0, none⟩) m m] 150)).heap[V]? = some (.cells #[.slice (some ⟨M, 0, none⟩) n n] 148 (0, 0)) := by
    rw [Below.heap_alloc _ _ _ (by simp; omega), Below.heap_alloc _ _ _ (by simp; omega)]; exact heap_alloc_at _ _ _ hV.symm
  have f4 : (((w3.alloc (.cells #[.slice (some ⟨M, 0, none⟩) n n] 148)).alloc (.cells (madeCells #[.pointer none] m) 156)).alloc (.cells #[.slice (some ⟨V + 1, 0, none⟩) m m] 150)).heap[V + 1 + 1]? = some (.cells #[.slice (some ⟨V + 1, 0, none⟩) m m] 150 (0, 0)) := heap_alloc_at _ _ _ (by simp [hV])
  have hm4 : (((w3.alloc (.cells #[.slice (some ⟨M, 0, none⟩) n n] 148)).alloc (.cells (madeCells #[.pointer none] m) 156)).alloc (.cells #[.slice (some ⟨V + 1, 0, none⟩) m m] 150)).cell? ⟨V, 0, none⟩ = some (.slice (some ⟨M, 0, none⟩) n n) := by simp [World.cell?, e4]
  have hr4 : (((w3.alloc (.cells #[.slice (some ⟨M, 0, none⟩) n n] 148)).alloc (.cells (madeCells #[.pointer none] m) 156)).alloc (.cells #[.slice (some ⟨V + 1, 0, none⟩) m m] 150)).cell? ⟨V + 1 + 1, 0, none⟩ = some (.slice (some ⟨V + 1, 0, none⟩) m m) := by simp [World.cell?, f4]
  clear e4 f4
  have z4 : (((w3.alloc (.cells #[.slice (some ⟨M, 0, none⟩) n n] 148)).alloc (.cells (madeCells #[.pointer none] m) 156)).alloc (.cells #[.slice (some ⟨V + 1, 0, none⟩) m m] 150)).heap.size = V + 3 := by simp [hV]
  have hB4 := hB3.trans (hk3.to_below w.heap.size (by omega) (fun _ _ h => h))
  generalize (((w3.alloc (.cells #[.slice (some ⟨M, 0, none⟩) n n] 148)).alloc (.cells (madeCells #[.pointer none] m) 156)).alloc (.cells #[.slice (some ⟨V + 1, 0, none⟩) m m] 150)) = W4 at *
  have F0 : Hid _ := (⟨hR4, Kp.refl _ _⟩ : FillT V M m 0 f W4 W4)
  have HT4 : Hid _ := hT4
  clear hT4 hR4 hk3 HT3 cv3 cv4 hB3
  go_loopw [48] (fun i wr => ∃ j : Nat, j ≤ m ∧ i = .int .i64 j ∧ FillT V M m j f W4 wr) (fun i _ => m - (intOf i).toNat)
  case atStart => exact ⟨0, Nat.zero_le _, rfl, F0.out⟩
  case round =>
    obtain ⟨j, hj, rfl, hp⟩ := hrel
    have HP : Hid _ := hp
    clear hp F0
    have zr := HP.out.kp.size
    have mr := (HP.out.kp.cell (p := ⟨V, 0, none⟩) (by simp; omega) (by simp)).trans hm4
    have rr := (HP.out.kp.cell (p := ⟨V + 1 + 1, 0, none⟩) (by simp; omega) (by simp)).trans hr4
    have tr := HT4.out.kp HP.out.kp (fun k q1 q2 => by omega)
    by_cases hlt : j < m
    · obtain rfl : x = some ⟨cb, co, none⟩ := HX.out.base (by omega)
      have hcb := HX.out.lt (by omega)
      have x0 := ((HX.out.below hB4).kp HP.out.kp (fun _ => by omega)).cells j hlt
      have mr' : wr.drew.cell? ⟨V, 0, none⟩ = some (.slice (some ⟨M, 0, none⟩) n n) := mr
      have rr' : wr.drew.cell? ⟨V + 1 + 1, 0, none⟩ = some (.slice (some ⟨V + 1, 0, none⟩) m m) := rr
      have td : TS M n wr.drew := ⟨tr.cells, tr.blocks, tr.size⟩
      obtain ⟨a1, z1⟩ := HP.out.row j hlt
      rw [if_neg (by omega)] at a1
      have j0 : (0 : Int) ≤ (j : Int) := Int.natCast_nonneg _
      have j1 : (j : Int) < (m : Int) := by omega
      have HN : Hid _ := numbered_any M n wr.drew td (f j) (hf j hlt)
      have HS : Hid _ := cStoreT (gate_nil 1) [] (by simp) (V + 1) j none (th M (f j)) wr.drew trivial (fun h => h) (show V + 1 < wr.heap.size by omega) a1 z1 (fun w1 hk' => (td.kp hk' (fun _ _ _ h => h)).ptr (hf j hlt))
      clear a1 z1 td tr
      go_wp2_with fail
      go_region_with (first | (go_at_call 91; refine Calls.mono HN.out ?_; rintro e w' ⟨rfl, rfl⟩) | (go_at_call 90; refine Calls.mono HS.out ?_; rintro e w1 ⟨rfl, _, hs1⟩))
      all_goals
        go_wp2
        exact ⟨⟨j + 1, by omega, by go_num, HP.out.next hlt (v_drew hs1)⟩, by simp [intOf]; omega⟩
    · have hjm : m = j := by omega
      subst hjm
      have hAr := (HA.out.kp (X := fun _ => False) (Kp.of_below hB4) (fun _ h => h)).kp HP.out.kp (fun h => by have := HA.out.lt h; omega)
      have hJ0 : IdsJ V M n (V + 2) (V + 1) m (csn f dk di da db 0) wr := ⟨mr, rr, HP.out.row, tr, hf⟩
      have HPl : Hid _ := play2_any 92 (fun _ _ => by kernel_rfl) (.pointer (some ⟨V, 0, none⟩)) (.pointer (some ⟨V + 2, 0, none⟩)) (IdsY V M n (V + 2) (V + 1)) N ab ao cap dk di da db (cso f dk di da db) (fun j => IdsJ V M n (V + 2) (V + 1) m (csn f dk di da db j)) wr base hAr hN (ids3_do V M n (V + 2) (V + 1) m N f dk di da db hn (by omega) (by omega) (by omega) hf hez) (IdsJ.keep V M n (V + 2) (V + 1) m (csn f dk di da db)) (by unfold IdsY; omega) (fun h => by have := HA.out.lt h; unfold IdsY; omega) hJ0
      clear hAr hJ0 tr
      go_wp2_with fail
      refine Calls.mono HPl.out ?_
      rintro e w4 ⟨b1, v, rfl, q1, q2, hO4, hv4, hJ4, hk4⟩
      have s4 := hk4.size
      have hW4 : Below w.heap.size w w4 := (hB4.trans (HP.out.kp.to_below w.heap.size (by omega) (by omega))).trans (hk4.to_below w.heap.size (by omega) (by unfold IdsY; omega))
      have HO4 : Hid _ := hO4
      have HV4 : Hid (World.ownsRow _ _ _ _ _ _ _) := hv4
      have hr5 := hJ4.hr
      have HJ4 : Hid _ := hJ4
      have HW4 : Hid _ := hW4
      clear hW4 hO4 hv4 hJ4 HPl hk4 HP hB4 hm4 hr4 mr rr HT4
      have hd5 : ∀ o, (w4.alloc o).cell? ⟨V + 1 + 1, 0, none⟩ = some (.slice (some ⟨V + 1, 0, none⟩) m m) := fun o => (((Below.refl w4.heap.size w4).alloc (Nat.le_refl _) o).cell (p := ⟨V + 1 + 1, 0, none⟩) (by simp; omega)).trans hr5
      have s4' : V + 3 ≤ w4.heap.size := by omega
      have H0 : Hid _ := (⟨IdsJ.keep V M n (V + 2) (V + 1) m (csn f dk di da db) N w4 _ HJ4.out (fun k hk => ⟨by unfold IdsY at hk; omega, Below.heap_alloc _ _ _ (by unfold IdsY at hk; omega)⟩) (by simp), IntsTo.made w4 m 3 _, Kp.refl _ _⟩ : HeldT V M n m w4.heap.size 0 (csn f dk di da db N) (w4.alloc (.cells (madeCells #[.int .i64 0] m) 3)) _)
      have s5 : (w4.alloc (.cells (madeCells #[.int .i64 0] m) 3)).heap.size = w4.heap.size + 1 := by simp
      clear HJ4
      go_wp2_with fail
      go_loopw [72] (fun i wr => ∃ j : Nat, j ≤ m ∧ i = .int .i64 j ∧ HeldT V M n m w4.heap.size j (csn f dk di da db N) (w4.alloc (.cells (madeCells #[.int .i64 0] m) 3)) wr) (fun i _ => m - (intOf i).toNat)
      case atStart => exact ⟨0, Nat.zero_le _, rfl, H0.out⟩
      case round =>
        obtain ⟨j, hj, rfl, hp⟩ := hrel
        have HP : Hid _ := hp
        clear hp H0
        have hs5 := HP.out.kp.size
        by_cases hlt : j < m
        · have mr := HP.out.st.hm
          have rr := HP.out.st.hr
          have mr' : wr.drew.cell? ⟨V, 0, none⟩ = some (.slice (some ⟨M, 0, none⟩) n n) := mr
          have rr' : wr.drew.cell? ⟨V + 1 + 1, 0, none⟩ = some (.slice (some ⟨V + 1, 0, none⟩) m m) := rr
          have td : TS M n wr.drew := ⟨HP.out.st.ts.cells, HP.out.st.ts.blocks, HP.out.st.ts.size⟩
          obtain ⟨a1, z1⟩ := HP.out.st.row j hlt
          rw [if_pos hlt] at a1
          have hnum := HP.out.st.nums j hlt
          have j0 : (0 : Int) ≤ (j : Int) := Int.natCast_nonneg _
          have j1 : (j : Int) < (m : Int) := by omega
          have HL : Hid _ := cLoadT (gate_nil 1) [] (by simp) (V + 1) j (th M (csn f dk di da db N j)) wr.drew trivial (fun h => h) (show V + 1 < wr.heap.size by omega) a1 z1 (fun w1 hk' => (td.kp hk' (fun _ _ _ h => h)).ptr hnum)
          have HNum : Hid _ := hnum
          clear a1 z1 td hnum
          go_wp2_with fail
          go_region_with (first | (go_at_call 95; refine Calls.mono HL.out ?_; rintro e w1 ⟨rfl, _, hs1⟩; obtain ⟨hi1, ht1, hn1⟩ := HP.out.next hlt (by omega) (by omega) (by omega) (v_drew hs1); obtain ⟨a2, z2⟩ := hi1 j hlt; have m1 := (hs1.kp.cell (p := ⟨V, 0, none⟩) (show V < wr.heap.size by omega) (by rintro (h | h); exact h; simp at h)).trans mr'; have HN1 : Hid _ := hn1; have HT1 : Hid _ := ht1; clear hn1 hi1 hs1 ht1) | (go_at_call 94; refine (number_any M n _ HT1.out _ HNum.out hn).mono ?_; rintro e w' ⟨rfl, rfl⟩))
          all_goals
            go_wp2
            exact ⟨⟨j + 1, by omega, by go_num, HN1.out⟩, by simp [intOf]; omega⟩
        · have hjm : m = j := by omega
          subst hjm
          go_wp2
          (try simp only [Exit.inBlock, Exit.then]); refine bodyPost_ret (results_tmp4 rfl _ _ _) rfl ?_
          have hk := HP.out.kp
          have hw4 := HW4.out
          refine ⟨b1, w4.heap.size, v, rfl, ?_, by omega, by omega, by omega, by omega, ?_, HP.out.ints, ?_⟩
          · exact (hw4.alloc hw4.size _).trans (hk.to_below w.heap.size (by have := hw4.size; omega) (by have := hw4.size; omega))
          · refine IntsTo.same HO4.out ?_
            rw [hk.block b1 (by omega) (by omega), Below.heap_alloc _ _ _ q2]
          · refine owns_mono (B := b1 + 1) (owns_kept HV4.out (fun k hk' hB => ?_)) (by omega)
            rw [hk.block k (by omega) (by omega), Below.heap_alloc _ _ _ hk']
end Go.Proofs.Ytlbfkgecckdlgaa
