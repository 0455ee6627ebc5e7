
/- LarchHistories: stretched. -/

import Derived.Test.YtljidfaeljpnpaaLH2

import Derived.Test.YtljidfaeljpnpaaELay

import Derived.Deep.RegionLaw

namespace Go.Proofs.Ytljidfaeljpnpaa

open Go.RowKit

attribute [local go_sem ↓] Go.wp_at_zero Go.wp_at_succ

structure OAt (w : World) (a : Option Addr) (g o n : Nat) (op : Nat → OpD) : Prop where
  base : n ≠ 0 → a = some ⟨g, o, none⟩
  lt : n ≠ 0 → g < w.heap.size
  cells : ∀ i, i < n → w.cell? ⟨g, o + i * 4, none⟩ = some (.int .i64 (op i).kind) ∧ w.cell? ⟨g, o + i * 4 + 1, none⟩ = some (.int .i64 (op i).key) ∧ w.cell? ⟨g, o + i * 4 + 2, none⟩ = some (.int .i64 (op i).val) ∧ w.cell? ⟨g, o + i * 4 + 3, none⟩ = some (.int .i64 (op i).hi)
theorem OAt.below {B : Nat} {w w' : World} {a : Option Addr} {g o n : Nat} {op : Nat → OpD} (h : OAt w a g o n op) (hB : w.heap.size ≤ B) (hb : Below B w w') : OAt w' a g o n op := by
  have hc : ∀ i, i < n → ∀ j, w'.cell? ⟨g, j, none⟩ = w.cell? ⟨g, j, none⟩ := fun i hi j => hb.cell (p := ⟨g, j, none⟩) (by have := h.lt (by omega); show g < B; omega)
  refine ⟨h.base, fun q => Nat.lt_of_lt_of_le (h.lt q) hb.size, fun i hi => ?_⟩
  have := hc i hi
  simp only [this]
  exact h.cells i hi
structure RAt (w : World) (a : Option Addr) (g o n : Nat) (rt : Nat → RetD) (pb : Nat → Option Addr) (pc pg po : Nat → Nat) : Prop where
  base : n ≠ 0 → a = some ⟨g, o, none⟩
  lt : n ≠ 0 → g < w.heap.size
  cells : ∀ i, i < n → w.cell? ⟨g, o + i * 4, none⟩ = some (.bool (rt i).ok) ∧ w.cell? ⟨g, o + i * 4 + 1, none⟩ = some (.int .i64 (rt i).key) ∧ w.cell? ⟨g, o + i * 4 + 2, none⟩ = some (.int .i64 (rt i).val) ∧ w.cell? ⟨g, o + i * 4 + 3, none⟩ = some (.slice (pb i) (rt i).pairs.length (pc i))
  prs : ∀ i, i < n → PairsAt w (pb i) (pg i) (po i) (rt i).pairs ∧ (pb i = none → (rt i).pairs.length = 0 ∧ pc i = 0) ∧ (rt i).pairs.length * 16 ≤ 140737488355328
theorem RAt.below {B : Nat} {w w' : World} {a : Option Addr} {g o n : Nat} {rt : Nat → RetD} {pb : Nat → Option Addr} {pc pg po : Nat → Nat} (h : RAt w a g o n rt pb pc pg po) (hB : w.heap.size ≤ B) (hb : Below B w w') : RAt w' a g o n rt pb pc pg po := by
  have hc : ∀ i, i < n → ∀ j, w'.cell? ⟨g, j, none⟩ = w.cell? ⟨g, j, none⟩ := fun i hi j => hb.cell (p := ⟨g, j, none⟩) (by have := h.lt (by omega); show g < B; omega)
  refine ⟨h.base, fun q => Nat.lt_of_lt_of_le (h.lt q) hb.size, fun i hi => ?_, fun i hi => ⟨(h.prs i hi).1.below (hb.mono hB), (h.prs i hi).2⟩⟩
  have := hc i hi
  simp only [this]
  exact h.cells i hi
theorem cntP_le {p : Int → Bool} {l : List Int} : ∀ k, cntP p l k ≤ k
  | 0 => Nat.le_refl _
  | k + 1 => by
    have := cntP_le (p := p) (l := l) k
    unfold cntP
    split <;> omega
theorem hAll_le {n : Nat} {s : SS} (h : SSok n s) (op : Nat → OpD) (rt : Nat → RetD) (m : Nat) : (hAll s op rt n m).length ≤ 2 * n := by
  rw [hAll_len h]
  have a := cntP_le (p := fun x => decide (x < (m : Int) - 40)) (l := s.fr) n
  have b := cntP_le (p := fun x => decide (x < (m : Int) - 40)) (l := s.to) n
  omega
theorem hInv_le (s : SS) (op : Nat → OpD) (now : Int) (k : Nat) : (hInv s op now k).length ≤ k := by rw [hInv_len]; exact cntP_le k
theorem hRet_le (s : SS) (op : Nat → OpD) (rt : Nat → RetD) (now : Int) (k : Nat) : (hRet s op rt now k).length ≤ k := by rw [hRet_len]; exact cntP_le k
/-- Beside them the events. -/
structure S2 (w z : World) (BX : Array Value) (vF vT vW : Value) (s : SS) (vH : Value) (M : List (EvD × Value)) (l : List EvD) : Prop where
  s1 : S1 w z BX vF vT vW s.fr s.to s.wh s.bz
  map : M.map (·.1) = l
  own : z.ownsRow (w.heap.size + 1) 66 10 vH M.length (evsC M)
  rets : ERets z 0 vH.ownBlock M
theorem t_e8 : (66 : TypeId) ≠ 113 := by decide
theorem S2.push {w z y w3 : World} {BX : Array Value} {vF vT vW vH : Value} {s : SS} {M : List (EvD × Value)} {l : List EvD} {gg cp : Nat} (h : S2 w z BX vF vT vW s vH M l) (hy : Below z.heap.size z y) (hg : y.grownBy w3 vH.ownBlock) (e : EvD) (v : Value) (hv : ERet z 0 vH.ownBlock e v) (ho : w3.ownsRow (w.heap.size + 1) 66 10 (.slice (some ⟨gg, 0, none⟩) (M.length + 1) cp) (M.length + 1) (evsC M ++ evC e v)) (hat : vH.ownBlock = some gg ∨ y.heap.size ≤ gg) :
    S2 w w3 BX vF vT vW s (.slice (some ⟨gg, 0, none⟩) (M.length + 1) cp) (M ++ [(e, v)]) (l ++ [e]) := by
  have far : ∀ {v' : Value} {n' : Nat} {xs' : List Value}, z.ownsRow (w.heap.size + 1) 3 1 v' n' xs' → ∀ k, vH.ownBlock = some k → v'.ownBlock ≠ some k := fun {v' n' xs'} h' k q r => by
    rcases row_far h' h.own t_iev with a | a
    · rw [a] at r; cases r
    · exact a (r.trans q.symm)
  refine ⟨h.s1.kept hy hg (fun k q => ⟨(owns_lt h.own k q).1, fun r => own_type h.own h.s1.bk t_e8 (r ▸ q), far h.s1.rowF k q, far h.s1.rowT k q, far h.s1.rowW k q⟩), by rw [List.map_append, h.map]; rfl, by rw [evsC_append, List.length_append]; simpa [evsC] using ho, ?_⟩
  have h2 : ERets z 0 vH.ownBlock (M ++ [(e, v)]) := by
    intro x hx
    rcases List.mem_append.1 hx with q | q
    · exact h.rets x q
    · rw [List.mem_singleton] at q; subst q; exact hv
  refine (h2.below hy).grown hg ?_
  intro g q
  obtain rfl : gg = g := by simpa [Value.ownBlock] using q
  rcases hat with r | r
  · exact Or.inl r
  · exact Or.inr r
theorem S2.quiet {w z y : World} {BX : Array Value} {vF vT vW vH : Value} {s : SS} {M : List (EvD × Value)} {l : List EvD} (h : S2 w z BX vF vT vW s vH M l) (hb : Below z.heap.size z y) : S2 w y BX vF vT vW s vH M l := ⟨h.s1.quiet hb, h.map, owns_below h.own hb, h.rets.below hb⟩
theorem inv_ret (z : World) (row : Option Nat) (s : SS) (op : Nat → OpD) (i : Nat) : ERet z 0 row (invX s op i) (.slice none 0 0) :=
  ⟨none, 0, 0, 0, rfl, fun q => absurd rfl q, ⟨fun q => absurd rfl q, fun q => absurd rfl q, fun i hi => by simp [invX, RetD.zero] at hi, by simp [invX, RetD.zero]⟩, fun _ => ⟨rfl, rfl⟩, by simp [invX, RetD.zero]⟩
theorem ret_ret {w z : World} {a : Option Addr} {g o n : Nat} {rt : Nat → RetD} {pb : Nat → Option Addr} {pc pg po : Nat → Nat} (h : RAt w a g o n rt pb pc pg po) (hb : Below w.heap.size w z) {row : Option Nat} (hr : ∀ k, row = some k → w.heap.size + 1 ≤ k) (s : SS) (op : Nat → OpD) {i : Nat} (hi : i < n) : ERet z 0 row (retX s op rt i) (.slice (pb i) (rt i).pairs.length (pc i)) := by
  obtain ⟨h1, h2, h3⟩ := h.prs i hi
  exact ⟨pb i, pg i, po i, pc i, rfl, fun q => ⟨Nat.zero_le _, fun r => by have := hr _ r; have := h1.lt q; omega⟩, h1.below hb, h2, h3⟩
theorem row_at {z : World} {B n : Nat} {e : TypeId} {v : Value} {l : List Int} (h : z.ownsRow B e 1 v l.length (xC l)) (hn : l.length = n) {k : Nat} (hk : k < n) : ∃ g c, v = .slice (some ⟨g, 0, none⟩) l.length c ∧ ∀ j, j < n → z.cell? ⟨g, j, none⟩ = some (.int .i64 (l.getD j 0)) := by
  rcases h.2 with ⟨rfl, h0⟩ | ⟨g, cap, cur, rfl, hbg, hg, h1, h2, h3, h4⟩
  · omega
  · refine ⟨g, cap, rfl, fun j hj => ?_⟩
    have hc : (xC l)[j]? = some (.int .i64 (l.getD j 0)) := by
      simp only [xC, List.getElem?_map]
      rw [List.getD_eq_getElem?_getD, List.getElem?_eq_getElem (by omega)]
      rfl
    rw [← h4, List.getElem?_take, if_pos (by omega)] at hc
    simp only [World.cell?, hg]
    simpa using hc
theorem row_base {z : World} {B n m c : Nat} {e : TypeId} {a : Option Addr} {l : List Int} (h : z.ownsRow B e 1 (.slice a m c) l.length (xC l)) (hn : l.length = n) {k : Nat} (hk : k < n) : ∃ g, a = some ⟨g, 0, none⟩ ∧ ∀ j, j < n → z.cell? ⟨g, j, none⟩ = some (.int .i64 (l.getD j 0)) := by
  obtain ⟨g, c', he, hc⟩ := row_at h hn hk
  injection he with he
  exact ⟨g, he, hc⟩

theorem s1_start (w : World) (BX : Array Value) : S1 w (((((w.alloc (.cells BX 52)).alloc (.cells #[] 3)).alloc (.cells #[] 3)).alloc (.cells #[] 3)).alloc (.cells (bzC fun _ => 0) 113)) BX (.slice (some ⟨w.heap.size + 1, 0, none⟩) 0 0) (.slice (some ⟨w.heap.size + 2, 0, none⟩) 0 0) (.slice (some ⟨w.heap.size + 3, 0, none⟩) 0 0) [] [] [] (fun _ => 0) := by
  have row : ∀ (z : World) (g : Nat), w.heap.size + 1 ≤ g → z.heap[g]? = some (.cells #[] 3) → z.ownsRow (w.heap.size + 1) 3 1 (.slice (some ⟨g, 0, none⟩) 0 0) 0 [] := fun z g hg hz => ⟨rfl, Or.inr ⟨g, 0, #[], rfl, hg, hz, Nat.le_refl _, by unfold maxLen; omega, rfl, rfl⟩⟩
  refine ⟨row _ _ (by omega) ?_, row _ _ (by omega) ?_, row _ _ (by omega) ?_, ?_, ?_, ?_, ?_, ?_, ?_, by simp⟩
  · exact (heap_alloc_old _ _ (by first | (simp; done) | (simp; omega))).trans ((heap_alloc_old _ _ (by first | (simp; done) | (simp; omega))).trans ((heap_alloc_old _ _ (by first | (simp; done) | (simp; omega))).trans (heap_alloc_at _ _ _ (by first | (simp; done) | (simp; omega)))))
  · exact (heap_alloc_old _ _ (by first | (simp; done) | (simp; omega))).trans ((heap_alloc_old _ _ (by first | (simp; done) | (simp; omega))).trans (heap_alloc_at _ _ _ (by first | (simp; done) | (simp; omega))))
  · exact (heap_alloc_old _ _ (by first | (simp; done) | (simp; omega))).trans (heap_alloc_at _ _ _ (by first | (simp; done) | (simp; omega)))
  · intro k q r; simp [Value.ownBlock] at q r; omega
  · intro k q r; simp [Value.ownBlock] at q r; omega
  · intro k q r; simp [Value.ownBlock] at q r; omega
  · exact heap_alloc_at _ _ _ (by first | (simp; done) | (simp; omega))
  · exact (heap_alloc_old _ _ (by first | (simp; done) | (simp; omega))).trans ((heap_alloc_old _ _ (by first | (simp; done) | (simp; omega))).trans ((heap_alloc_old _ _ (by first | (simp; done) | (simp; omega))).trans ((heap_alloc_old _ _ (by first | (simp; done) | (simp; omega))).trans (heap_alloc_at _ _ _ rfl))))
  · exact ((((below_alloc w _).alloc (by first | (simp; done) | (simp; omega)) _).alloc (by first | (simp; done) | (simp; omega)) _).alloc (by first | (simp; done) | (simp; omega)) _).alloc (by first | (simp; done) | (simp; omega)) _
theorem s2_start {w z : World} {BX : Array Value} {vF vT vW : Value} {s : SS} {op : Nat → OpD} {rt : Nat → RetD} {n : Nat} (h : S1 w z BX vF vT vW s.fr s.to s.wh s.bz) : S2 w (z.alloc (.cells #[] 66)) BX vF vT vW s (.slice (some ⟨z.heap.size, 0, none⟩) 0 0) [] (hAll s op rt n 0) :=
  ⟨h.quiet (below_alloc z _), rfl, ⟨rfl, Or.inr ⟨z.heap.size, 0, #[], rfl, by have := h.sz; omega, heap_alloc_at _ _ _ rfl, Nat.le_refl _, by unfold maxLen; omega, rfl, rfl⟩⟩, fun x hx => by cases hx⟩

set_option maxRecDepth 100000 in
set_option maxHeartbeats 16000000 in
theorem stretched_any (x : XD) (n : Nat) (op : Nat → OpD) (rt : Nat → RetD) (p0 p1 a1 a2 a3 oa ra : Option Addr) (n0 n1 c0 c1 c2 c3 c4 oc rc g1 o1 g2 o2 g3 o3 og oo rg ro : Nat) (pb : Nat → Option Addr) (pc pg po : Nat → Nat) (w : World) (hn : n ≤ 30) (h1 : NAt w a1 g1 o1 x.th) (h2 : NAt w a2 g2 o2 x.ea) (h3 : NAt w a3 g3 o3 x.la) (h4 : OAt w oa og oo n op) (h5 : RAt w ra rg ro n rt pb pc pg po) :
    Calls Try.prog 49 #[.agg #[.slice p0 n0 c0, .slice p1 n1 c1, .slice a1 x.th.length c2, .slice a2 x.ea.length c3, .slice a3 x.la.length c4], .slice oa n oc, .slice ra n rc] w fun e w' => ∃ v hs, e = .returned v ∧ Below w.heap.size w w' ∧ EvsNew w' w.heap.size 0 v hs ∧ (hs = [] ∨ ∃ s, ssN x n = some s ∧ hs = hAll s op rt n (10 * n + 100)) := by
  have N1 : Hid (NAt w a1 g1 o1 x.th) := h1
  have N2 : Hid (NAt w a2 g2 o2 x.ea) := h2
  have N3 : Hid (NAt w a3 g3 o3 x.la) := h3
  have NO : Hid (OAt w oa og oo n op) := h4
  have NR : Hid (RAt w ra rg ro n rt pb pc pg po) := h5
  have HN : Hid (n ≤ 30) := hn
  have n30 : (n : Int) ≤ 30 := by omega
  have nn0 : (0 : Int) ≤ (n : Int) := Int.natCast_nonneg _
  obtain ⟨i0, hi0, hz0, hz1, hz2⟩ := info_parts int_info
  obtain ⟨i9, hi9, hy0, hy1, hy2⟩ := info_parts ev_info
  have S0 : Hid (S1 w (((((w.alloc (.cells #[.slice p0 n0 c0, .slice p1 n1 c1, .slice a1 x.th.length c2, .slice a2 x.ea.length c3, .slice a3 x.la.length c4] 52)).alloc (.cells #[] 3)).alloc (.cells #[] 3)).alloc (.cells #[] 3)).alloc (.cells (bzC fun _ => 0) 113)) #[.slice p0 n0 c0, .slice p1 n1 c1, .slice a1 x.th.length c2, .slice a2 x.ea.length c3, .slice a3 x.la.length c4] (.slice (some ⟨w.heap.size + 1, 0, none⟩) 0 0) (.slice (some ⟨w.heap.size + 2, 0, none⟩) 0 0) (.slice (some ⟨w.heap.size + 3, 0, none⟩) 0 0) [] [] [] (fun _ => 0)) := s1_start w _
  clear h1 h2 h3 h4 h5 hn
  go_enter Try.func49, Try.ntmps49
  go_wp2_with fail
  go_loopw [7, 8, 9, 25] (fun vF vT vW vi wr => ∃ (i : Nat) (s : SS), i ≤ n ∧ vi = .int .i64 i ∧ ssN x i = some s ∧ S1 w wr #[.slice p0 n0 c0, .slice p1 n1 c1, .slice a1 x.th.length c2, .slice a2 x.ea.length c3, .slice a3 x.la.length c4] vF vT vW s.fr s.to s.wh s.bz) (fun _ _ _ vi _ => n - (intOf vi).toNat)
  case atStart => exact ⟨0, ss0, Nat.zero_le _, rfl, rfl, S0.out⟩
  case round =>
    obtain ⟨i, s, hin, rfl, hs, hS⟩ := hrel
    rename World => wr
    have HS : Hid (S1 w wr #[.slice p0 n0 c0, .slice p1 n1 c1, .slice a1 x.th.length c2, .slice a2 x.ea.length c3, .slice a3 x.la.length c4] _ _ _ s.fr s.to s.wh s.bz) := hS
    have HSN : Hid (ssN x i = some s) := hs
    have ok := ssN_ok hs
    obtain ⟨aF, cF, rfl⟩ := owns_form hS.rowF
    obtain ⟨aT, cT, rfl⟩ := owns_form hS.rowT
    obtain ⟨aW, cW, rfl⟩ := owns_form hS.rowW
    have OK : Hid (SSok i s) := ok
    have lF : s.fr.length ≤ 30 := by have := ok.lf; have := HN.out; omega
    have lT : s.to.length ≤ 30 := by have := ok.lt; have := HN.out; omega
    have lW : s.wh.length ≤ 30 := by have := ok.lw; have := HN.out; omega
    have ii0 : (0 : Int) ≤ (i : Int) := Int.natCast_nonneg _
    clear hs hS ok
    by_cases hi : i < n
    · have hii : (i : Int) < (n : Int) := by omega
      obtain ⟨k, hk⟩ : ∃ k : Nat, atI x.th i = (k : Int) := ⟨(atI x.th i).toNat, by have := (atI_bd x.th i).1; omega⟩
      obtain ⟨e, he⟩ : ∃ e : Nat, atI x.ea i = (e : Int) := ⟨(atI x.ea i).toNat, by have := (atI_bd x.ea i).1; omega⟩
      obtain ⟨l, hl⟩ : ∃ l : Nat, atI x.la i = (l : Int) := ⟨(atI x.la i).toNat, by have := (atI_bd x.la i).1; omega⟩
      have k3 : k ≤ 3 := by have := (atI_bd x.th i).2; omega
      have e3 : e ≤ 3 := by have := (atI_bd x.ea i).2; omega
      have l3 : l ≤ 3 := by have := (atI_bd x.la i).2; omega
      have kk0 : (0 : Int) ≤ (k : Int) := Int.natCast_nonneg _
      have kk3 : (k : Int) ≤ 3 := by omega
      have ee0 : (0 : Int) ≤ (e : Int) := Int.natCast_nonneg _
      have ee3 : (e : Int) ≤ 3 := by omega
      have ll0 : (0 : Int) ≤ (l : Int) := Int.natCast_nonneg _
      have ll3 : (l : Int) ≤ 3 := by omega
      have AT1 : Hid (∀ W, Below w.heap.size w W → Calls Try.prog 74 #[.slice a1 x.th.length c2, .int .i64 i, .int .i64 3] W fun e w' => e = .returned (.int .i64 (k : Int)) ∧ w' = W) := fun W hW => by rw [← hk]; exact at_any a1 g1 o1 c2 x.th i W (N1.out.below (Nat.le_refl _) hW) (by have := HN.out; omega)
      have AT2 : Hid (∀ W, Below w.heap.size w W → Calls Try.prog 74 #[.slice a2 x.ea.length c3, .int .i64 i, .int .i64 3] W fun z w' => z = .returned (.int .i64 (e : Int)) ∧ w' = W) := fun W hW => by rw [← he]; exact at_any a2 g2 o2 c3 x.ea i W (N2.out.below (Nat.le_refl _) hW) (by have := HN.out; omega)
      have AT3 : Hid (∀ W, Below w.heap.size w W → Calls Try.prog 74 #[.slice a3 x.la.length c4, .int .i64 i, .int .i64 3] W fun e w' => e = .returned (.int .i64 (l : Int)) ∧ w' = W) := fun W hW => by rw [← hl]; exact at_any a3 g3 o3 c4 x.la i W (N3.out.below (Nat.le_refl _) hW) (by have := HN.out; omega)
      have ST : Hid (ssN x (i + 1) = ssStep x i s) := by show (ssN x i).bind _ = _; rw [HSN.out]; rfl
      have T1 : Hid (ssT x i = 10 * (i : Int) + 6 + 10 * (l : Int)) := by show _ = _; unfold ssT; rw [hl]
      have F1 : Hid (ssF x i s = if 10 * (i : Int) + 4 - 10 * (e : Int) ≤ s.bz k then s.bz k + 1 else 10 * (i : Int) + 4 - 10 * (e : Int)) := by show _ = _; unfold ssF; rw [hk, he, Int.toNat_natCast]
      have K1 : Hid (atI x.th i = ((k : Nat) : Int)) := hk
      have B0 := OK.out.bz k
      have cbx := HS.out.bx
      have cb := bzC_at HS.out.bk (k := k) (by omega)
      obtain ⟨d0, e0⟩ := cb
      have x2 : wr.cell? ⟨w.heap.size, 2, none⟩ = some (.slice a1 x.th.length c2) := by simp [World.cell?, cbx]
      have x3 : wr.cell? ⟨w.heap.size, 3, none⟩ = some (.slice a2 x.ea.length c3) := by simp [World.cell?, cbx]
      have x4 : wr.cell? ⟨w.heap.size, 4, none⟩ = some (.slice a3 x.la.length c4) := by simp [World.cell?, cbx]
      have zr := HS.out.sz
      clear hk he hl cbx
      obtain ⟨y, hy⟩ : ∃ y, y = s.bz k := ⟨_, rfl⟩
      rw [← hy] at d0 B0 F1
      have HY : Hid (y = s.bz k) := hy
      obtain ⟨y0, y1⟩ := B0
      clear hy
      by_cases q1 : 10 * (i : Int) + 4 - 10 * (e : Int) ≤ y
      · have F2 : Hid (ssF x i s = y + 1) := by have := F1.out; rw [if_pos q1] at this; exact this
        have q1' : 10 * (i : Int) + 5 - 1 - 10 * (e : Int) ≤ y := by omega
        by_cases q2 : y + 1 ≤ 10 * (i : Int) + 4
        · have HST : Hid (ssN x (i + 1) = some (s.push (y + 1) (10 * (i : Int) + 5 + 1 + 10 * (l : Int)) ((k : Nat) : Int))) := by
            show _ = _
            rw [ST.out, ssStep, F2.out, if_pos q2, T1.out, K1.out, show 10 * (i : Int) + 5 + 1 + 10 * (l : Int) = 10 * (i : Int) + 6 + 10 * (l : Int) by omega]
          have q2' : ¬ 10 * (i : Int) + 4 < y + 1 := by omega
          clear q2 q1
          go_wp2_with (first | (go_at_call_of 74 a1; refine (AT1.out _ HS.out.bel).mono ?_; rintro e w3 ⟨rfl, rfl⟩) | (go_at_call_of 74 a2; refine (AT2.out _ HS.out.bel).mono ?_; rintro e w3 ⟨rfl, rfl⟩) | (go_at_call_of 74 a3; refine (AT3.out _ HS.out.bel).mono ?_; rintro e w3 ⟨rfl, rfl⟩) | (at_builtin; (refine wpList_append_lies _ (by rfl) _ _ _ (by rfl) (w.heap.size + 1) 3 i0 _ 1 8 ints_under hi0 hz0 hz1 hz2 rfl (by omega) _ s.fr.length _ (by rfl) (HS.out.rowF.alloc _) ⟨w3.heap.size, 0, none⟩ 1 1 [.int .i64 (y + 1)] (by rfl) (by rfl) (World.news_of_block (cs := #[.int .i64 (y + 1)]) (t := 3) (fr := (0, 0)) (heap_alloc_at _ _ _ rfl)) (by simp [Value.oneCell']) (by omega) (by unfold maxLen; omega) (by omega) (by have := HS.out.sz; simp; omega) (w3.heap.size + 1) (by simp) ?_); intro g5 c5 w5 ho5 hg5 hat5 hl5; have S5 : Hid (S1 w w5 #[.slice p0 n0 c0, .slice p1 n1 c1, .slice a1 x.th.length c2, .slice a2 x.ea.length c3, .slice a3 x.la.length c4] _ _ _ _ _ _ _) := HS.out.pushF (below_alloc w3 _) hg5 _ ho5 (hat5.imp id (fun q => by rw [q]; omega)); clear ho5 hg5 hat5) | (at_builtin; (refine wpList_append_lies _ (by rfl) _ _ _ (by rfl) (w.heap.size + 1) 3 i0 _ 1 8 ints_under hi0 hz0 hz1 hz2 rfl (by omega) _ s.to.length _ (by rfl) (S5.out.rowT.alloc _) ⟨w5.heap.size, 0, none⟩ 1 1 [.int .i64 (10 * (i : Int) + 5 + 1 + 10 * (l : Int))] (by rfl) (by rfl) (World.news_of_block (cs := #[.int .i64 (10 * (i : Int) + 5 + 1 + 10 * (l : Int))]) (t := 3) (fr := (0, 0)) (heap_alloc_at _ _ _ rfl)) (by simp [Value.oneCell']) (by omega) (by unfold maxLen; omega) (by omega) (by have := S5.out.sz; simp; omega) (w5.heap.size + 1) (by simp) ?_); intro g6 c6 w6 ho6 hg6 hat6 hl6; have S6 : Hid (S1 w w6 #[.slice p0 n0 c0, .slice p1 n1 c1, .slice a1 x.th.length c2, .slice a2 x.ea.length c3, .slice a3 x.la.length c4] _ _ _ _ _ _ _) := S5.out.pushT (below_alloc w5 _) hg6 _ ho6 (hat6.imp id (fun q => by rw [q]; omega)); clear ho6 hg6 hat6) | (at_builtin; (refine wpList_append_lies _ (by rfl) _ _ _ (by rfl) (w.heap.size + 1) 3 i0 _ 1 8 ints_under hi0 hz0 hz1 hz2 rfl (by omega) _ s.wh.length _ (by rfl) (S6.out.rowW.alloc _) ⟨w6.heap.size, 0, none⟩ 1 1 [.int .i64 ((k : Int))] (by rfl) (by rfl) (World.news_of_block (cs := #[.int .i64 ((k : Int))]) (t := 3) (fr := (0, 0)) (heap_alloc_at _ _ _ rfl)) (by simp [Value.oneCell']) (by omega) (by unfold maxLen; omega) (by omega) (by have := S6.out.sz; simp; omega) (w6.heap.size + 1) (by simp) ?_); intro g7 c7 w7 ho7 hg7 hat7 hl7; have S7 : Hid (S1 w w7 #[.slice p0 n0 c0, .slice p1 n1 c1, .slice a1 x.th.length c2, .slice a2 x.ea.length c3, .slice a3 x.la.length c4] _ _ _ _ _ _ _) := S6.out.pushW (below_alloc w6 _) hg7 _ ho7 (hat7.imp id (fun q => by rw [q]; omega)); have cb7 := bzC_at S7.out.bk (k := k) (by omega); obtain ⟨d7, e7⟩ := cb7; clear ho7 hg7 hat7))
          exact ⟨⟨i + 1, s.push (y + 1) (10 * (i : Int) + 5 + 1 + 10 * (l : Int)) (((k : Nat) : Int)), by omega, by go_num, HST.out, S7.out.setB (k := k) (by omega) _⟩, by simp [intOf]; omega⟩
        · have q2' : 10 * (i : Int) + 4 < y + 1 := by omega
          obtain ⟨q, hq⟩ : ∃ q, q = i % 4 := ⟨_, rfl⟩
          have rm : (i : Int).tmod 4 = (q : Int) := by rw [hq, Int.tmod_eq_emod_of_nonneg (by omega)]; omega
          have q4 : q < 4 := by omega
          obtain ⟨j4, hj4⟩ : ∃ j4, j4 = 4 + q := ⟨_, rfl⟩
          have l4 : (4 : Int) + (q : Int) = (j4 : Int) := by omega
          have j8 : j4 < 8 := by omega
          have HJ : Hid (j4 = 4 + i % 4) := by show _ = _; omega
          have B1 := OK.out.bz j4
          have cb4 := bzC_at HS.out.bk (k := j4) j8
          obtain ⟨d4, e4⟩ := cb4
          obtain ⟨y4, hy4⟩ : ∃ y, y = s.bz j4 := ⟨_, rfl⟩
          rw [← hy4] at d4 B1
          have HY4 : Hid (y4 = s.bz j4) := hy4
          have j0i : (0 : Int) ≤ (j4 : Int) := Int.natCast_nonneg _
          have j7i : (j4 : Int) < 8 := by omega
          have qq0 : (0 : Int) ≤ (q : Int) := Int.natCast_nonneg _
          have qq3 : (q : Int) ≤ 3 := by omega
          clear hq hj4 hy4
          by_cases q5 : 10 * (i : Int) + 4 ≤ y4
          · clear q1 q2
            go_wp2_with (first | (go_at_call_of 74 a1; refine (AT1.out _ HS.out.bel).mono ?_; rintro e w3 ⟨rfl, rfl⟩) | (go_at_call_of 74 a2; refine (AT2.out _ HS.out.bel).mono ?_; rintro e w3 ⟨rfl, rfl⟩) | (go_at_call_of 74 a3; refine (AT3.out _ HS.out.bel).mono ?_; rintro e w3 ⟨rfl, rfl⟩))
            go_ret
            exact ⟨_, [], rfl, HS.out.bel, EvsNew.nil _ _ _, Or.inl rfl⟩
          · have HST : Hid (ssN x (i + 1) = some (s.push (10 * (i : Int) + 4) (10 * (i : Int) + 5 + 1 + 10 * (l : Int)) ((j4 : Nat) : Int))) := by
              show _ = _
              rw [ST.out, ssStep, F2.out, if_neg q2, if_neg (by rw [← HJ.out, ← HY4.out]; exact q5), T1.out, ← HJ.out, show 10 * (i : Int) + 5 + 1 + 10 * (l : Int) = 10 * (i : Int) + 6 + 10 * (l : Int) by omega]
            have q5' : y4 < 10 * (i : Int) + 4 := by omega
            clear q1 q2 q5
            go_wp2_with (first | (go_at_call_of 74 a1; refine (AT1.out _ HS.out.bel).mono ?_; rintro e w3 ⟨rfl, rfl⟩) | (go_at_call_of 74 a2; refine (AT2.out _ HS.out.bel).mono ?_; rintro e w3 ⟨rfl, rfl⟩) | (go_at_call_of 74 a3; refine (AT3.out _ HS.out.bel).mono ?_; rintro e w3 ⟨rfl, rfl⟩) | (at_builtin; (refine wpList_append_lies _ (by rfl) _ _ _ (by rfl) (w.heap.size + 1) 3 i0 _ 1 8 ints_under hi0 hz0 hz1 hz2 rfl (by omega) _ s.fr.length _ (by rfl) (HS.out.rowF.alloc _) ⟨w3.heap.size, 0, none⟩ 1 1 [.int .i64 (10 * (i : Int) + 4)] (by rfl) (by rfl) (World.news_of_block (cs := #[.int .i64 (10 * (i : Int) + 4)]) (t := 3) (fr := (0, 0)) (heap_alloc_at _ _ _ rfl)) (by simp [Value.oneCell']) (by omega) (by unfold maxLen; omega) (by omega) (by have := HS.out.sz; simp; omega) (w3.heap.size + 1) (by simp) ?_); intro g5 c5 w5 ho5 hg5 hat5 hl5; have S5 : Hid (S1 w w5 #[.slice p0 n0 c0, .slice p1 n1 c1, .slice a1 x.th.length c2, .slice a2 x.ea.length c3, .slice a3 x.la.length c4] _ _ _ _ _ _ _) := HS.out.pushF (below_alloc w3 _) hg5 _ ho5 (hat5.imp id (fun q => by rw [q]; omega)); clear ho5 hg5 hat5) | (at_builtin; (refine wpList_append_lies _ (by rfl) _ _ _ (by rfl) (w.heap.size + 1) 3 i0 _ 1 8 ints_under hi0 hz0 hz1 hz2 rfl (by omega) _ s.to.length _ (by rfl) (S5.out.rowT.alloc _) ⟨w5.heap.size, 0, none⟩ 1 1 [.int .i64 (10 * (i : Int) + 5 + 1 + 10 * (l : Int))] (by rfl) (by rfl) (World.news_of_block (cs := #[.int .i64 (10 * (i : Int) + 5 + 1 + 10 * (l : Int))]) (t := 3) (fr := (0, 0)) (heap_alloc_at _ _ _ rfl)) (by simp [Value.oneCell']) (by omega) (by unfold maxLen; omega) (by omega) (by have := S5.out.sz; simp; omega) (w5.heap.size + 1) (by simp) ?_); intro g6 c6 w6 ho6 hg6 hat6 hl6; have S6 : Hid (S1 w w6 #[.slice p0 n0 c0, .slice p1 n1 c1, .slice a1 x.th.length c2, .slice a2 x.ea.length c3, .slice a3 x.la.length c4] _ _ _ _ _ _ _) := S5.out.pushT (below_alloc w5 _) hg6 _ ho6 (hat6.imp id (fun q => by rw [q]; omega)); clear ho6 hg6 hat6) | (at_builtin; (refine wpList_append_lies _ (by rfl) _ _ _ (by rfl) (w.heap.size + 1) 3 i0 _ 1 8 ints_under hi0 hz0 hz1 hz2 rfl (by omega) _ s.wh.length _ (by rfl) (S6.out.rowW.alloc _) ⟨w6.heap.size, 0, none⟩ 1 1 [.int .i64 ((j4 : Int))] (by rfl) (by rfl) (World.news_of_block (cs := #[.int .i64 ((j4 : Int))]) (t := 3) (fr := (0, 0)) (heap_alloc_at _ _ _ rfl)) (by simp [Value.oneCell']) (by omega) (by unfold maxLen; omega) (by omega) (by have := S6.out.sz; simp; omega) (w6.heap.size + 1) (by simp) ?_); intro g7 c7 w7 ho7 hg7 hat7 hl7; have S7 : Hid (S1 w w7 #[.slice p0 n0 c0, .slice p1 n1 c1, .slice a1 x.th.length c2, .slice a2 x.ea.length c3, .slice a3 x.la.length c4] _ _ _ _ _ _ _) := S6.out.pushW (below_alloc w6 _) hg7 _ ho7 (hat7.imp id (fun q => by rw [q]; omega)); have cb7 := bzC_at S7.out.bk (k := j4) (by omega); obtain ⟨d7, e7⟩ := cb7; clear ho7 hg7 hat7))
            exact ⟨⟨i + 1, s.push (10 * (i : Int) + 4) (10 * (i : Int) + 5 + 1 + 10 * (l : Int)) (((j4 : Nat) : Int)), by omega, by go_num, HST.out, S7.out.setB (k := j4) (by omega) _⟩, by simp [intOf]; omega⟩
      · have F2 : Hid (ssF x i s = 10 * (i : Int) + 4 - 10 * (e : Int)) := by have := F1.out; rw [if_neg q1] at this; exact this
        have HST : Hid (ssN x (i + 1) = some (s.push (10 * (i : Int) + 5 - 1 - 10 * (e : Int)) (10 * (i : Int) + 5 + 1 + 10 * (l : Int)) ((k : Nat) : Int))) := by
          show _ = _
          rw [ST.out, ssStep, F2.out, if_pos (by omega), T1.out, K1.out, show 10 * (i : Int) + 5 + 1 + 10 * (l : Int) = 10 * (i : Int) + 6 + 10 * (l : Int) by omega, show 10 * (i : Int) + 5 - 1 - 10 * (e : Int) = 10 * (i : Int) + 4 - 10 * (e : Int) by omega]
        have q1' : ¬ 10 * (i : Int) + 5 - 1 - 10 * (e : Int) ≤ y := by omega
        have q2' : ¬ 10 * (i : Int) + 4 < 10 * (i : Int) + 5 - 1 - 10 * (e : Int) := by omega
        clear q1
        go_wp2_with (first | (go_at_call_of 74 a1; refine (AT1.out _ HS.out.bel).mono ?_; rintro e w3 ⟨rfl, rfl⟩) | (go_at_call_of 74 a2; refine (AT2.out _ HS.out.bel).mono ?_; rintro e w3 ⟨rfl, rfl⟩) | (go_at_call_of 74 a3; refine (AT3.out _ HS.out.bel).mono ?_; rintro e w3 ⟨rfl, rfl⟩) | (at_builtin; (refine wpList_append_lies _ (by rfl) _ _ _ (by rfl) (w.heap.size + 1) 3 i0 _ 1 8 ints_under hi0 hz0 hz1 hz2 rfl (by omega) _ s.fr.length _ (by rfl) (HS.out.rowF.alloc _) ⟨w3.heap.size, 0, none⟩ 1 1 [.int .i64 (10 * (i : Int) + 5 - 1 - 10 * (e : Int))] (by rfl) (by rfl) (World.news_of_block (cs := #[.int .i64 (10 * (i : Int) + 5 - 1 - 10 * (e : Int))]) (t := 3) (fr := (0, 0)) (heap_alloc_at _ _ _ rfl)) (by simp [Value.oneCell']) (by omega) (by unfold maxLen; omega) (by omega) (by have := HS.out.sz; simp; omega) (w3.heap.size + 1) (by simp) ?_); intro g5 c5 w5 ho5 hg5 hat5 hl5; have S5 : Hid (S1 w w5 #[.slice p0 n0 c0, .slice p1 n1 c1, .slice a1 x.th.length c2, .slice a2 x.ea.length c3, .slice a3 x.la.length c4] _ _ _ _ _ _ _) := HS.out.pushF (below_alloc w3 _) hg5 _ ho5 (hat5.imp id (fun q => by rw [q]; omega)); clear ho5 hg5 hat5) | (at_builtin; (refine wpList_append_lies _ (by rfl) _ _ _ (by rfl) (w.heap.size + 1) 3 i0 _ 1 8 ints_under hi0 hz0 hz1 hz2 rfl (by omega) _ s.to.length _ (by rfl) (S5.out.rowT.alloc _) ⟨w5.heap.size, 0, none⟩ 1 1 [.int .i64 (10 * (i : Int) + 5 + 1 + 10 * (l : Int))] (by rfl) (by rfl) (World.news_of_block (cs := #[.int .i64 (10 * (i : Int) + 5 + 1 + 10 * (l : Int))]) (t := 3) (fr := (0, 0)) (heap_alloc_at _ _ _ rfl)) (by simp [Value.oneCell']) (by omega) (by unfold maxLen; omega) (by omega) (by have := S5.out.sz; simp; omega) (w5.heap.size + 1) (by simp) ?_); intro g6 c6 w6 ho6 hg6 hat6 hl6; have S6 : Hid (S1 w w6 #[.slice p0 n0 c0, .slice p1 n1 c1, .slice a1 x.th.length c2, .slice a2 x.ea.length c3, .slice a3 x.la.length c4] _ _ _ _ _ _ _) := S5.out.pushT (below_alloc w5 _) hg6 _ ho6 (hat6.imp id (fun q => by rw [q]; omega)); clear ho6 hg6 hat6) | (at_builtin; (refine wpList_append_lies _ (by rfl) _ _ _ (by rfl) (w.heap.size + 1) 3 i0 _ 1 8 ints_under hi0 hz0 hz1 hz2 rfl (by omega) _ s.wh.length _ (by rfl) (S6.out.rowW.alloc _) ⟨w6.heap.size, 0, none⟩ 1 1 [.int .i64 ((k : Int))] (by rfl) (by rfl) (World.news_of_block (cs := #[.int .i64 ((k : Int))]) (t := 3) (fr := (0, 0)) (heap_alloc_at _ _ _ rfl)) (by simp [Value.oneCell']) (by omega) (by unfold maxLen; omega) (by omega) (by have := S6.out.sz; simp; omega) (w6.heap.size + 1) (by simp) ?_); intro g7 c7 w7 ho7 hg7 hat7 hl7; have S7 : Hid (S1 w w7 #[.slice p0 n0 c0, .slice p1 n1 c1, .slice a1 x.th.length c2, .slice a2 x.ea.length c3, .slice a3 x.la.length c4] _ _ _ _ _ _ _) := S6.out.pushW (below_alloc w6 _) hg7 _ ho7 (hat7.imp id (fun q => by rw [q]; omega)); have cb7 := bzC_at S7.out.bk (k := k) (by omega); obtain ⟨d7, e7⟩ := cb7; clear ho7 hg7 hat7))
        exact ⟨⟨i + 1, s.push (10 * (i : Int) + 5 - 1 - 10 * (e : Int)) (10 * (i : Int) + 5 + 1 + 10 * (l : Int)) (((k : Nat) : Int)), by omega, by go_num, HST.out, S7.out.setB (k := k) (by omega) _⟩, by simp [intOf]; omega⟩
    · obtain rfl : n = i := by omega
      have E0 : Hid (S2 w (wr.alloc (.cells #[] 66)) #[.slice p0 n0 c0, .slice p1 n1 c1, .slice a1 x.th.length c2, .slice a2 x.ea.length c3, .slice a3 x.la.length c4] _ _ _ s (.slice (some ⟨wr.heap.size, 0, none⟩) 0 0) [] (hAll s op rt n 0)) := s2_start HS.out
      have lFn : Hid (s.fr.length = n) := OK.out.lf
      have lTn : Hid (s.to.length = n) := OK.out.lt
      have lWn : Hid (s.wh.length = n) := OK.out.lw
      clear hi hin
      go_wp2_with fail
      go_loopw [15, 16] (fun vH vn wz => ∃ (m : Nat) (now : Int) (M : List (EvD × Value)), m ≤ 10 * n + 100 ∧ vn = .int .i64 now ∧ now = (m : Int) - 40 ∧ S2 w wz #[.slice p0 n0 c0, .slice p1 n1 c1, .slice a1 x.th.length c2, .slice a2 x.ea.length c3, .slice a3 x.la.length c4] (.slice aF s.fr.length cF) (.slice aT s.to.length cT) (.slice aW s.wh.length cW) s vH M (hAll s op rt n m)) (fun _ vn _ => (10 * (n : Int) + 60 - intOf vn).toNat)
      case atStart => exact ⟨0, -40, [], by omega, rfl, by omega, E0.out⟩
      case round =>
        obtain ⟨m, now, M, hm, rfl, hnow, hS2⟩ := hrel
        rename World => wz
        have HS2 : Hid (S2 w wz #[.slice p0 n0 c0, .slice p1 n1 c1, .slice a1 x.th.length c2, .slice a2 x.ea.length c3, .slice a3 x.la.length c4] (.slice aF s.fr.length cF) (.slice aT s.to.length cT) (.slice aW s.wh.length cW) s _ M (hAll s op rt n m)) := hS2
        have HNOW : Hid (now = (m : Int) - 40) := hnow
        obtain ⟨aH, cH, rfl⟩ := owns_form hS2.own
        have nw0 : -40 ≤ now := by omega
        have nw1 : now ≤ 10 * (n : Int) + 60 := by omega
        clear hS2
        by_cases hlt : m < 10 * n + 100
        · have nw2 : now < 10 * (n : Int) + 60 := by omega
          have HLT : Hid (m < 10 * n + 100) := hlt
          clear hnow hlt hm
          go_wp2_with fail
          go_loopw [15, 104] (fun vH vk wy => ∃ (k : Nat) (M2 : List (EvD × Value)), k ≤ n ∧ vk = .int .i64 k ∧ S2 w wy #[.slice p0 n0 c0, .slice p1 n1 c1, .slice a1 x.th.length c2, .slice a2 x.ea.length c3, .slice a3 x.la.length c4] (.slice aF s.fr.length cF) (.slice aT s.to.length cT) (.slice aW s.wh.length cW) s vH M2 (hAll s op rt n m ++ hInv s op now k)) (fun _ vk _ => n - (intOf vk).toNat)
          case atStart => exact ⟨0, M, Nat.zero_le _, rfl, by rw [hInv, List.append_nil]; exact HS2.out⟩
          case round =>
            obtain ⟨k, M2, hkn, rfl, hS3⟩ := hrel
            rename World => wy
            have HS3 : Hid (S2 w wy #[.slice p0 n0 c0, .slice p1 n1 c1, .slice a1 x.th.length c2, .slice a2 x.ea.length c3, .slice a3 x.la.length c4] (.slice aF s.fr.length cF) (.slice aT s.to.length cT) (.slice aW s.wh.length cW) s _ M2 (hAll s op rt n m ++ hInv s op now k)) := hS3
            obtain ⟨aG, cG, rfl⟩ := owns_form hS3.own
            have lM : M2.length ≤ 120 := by
              have q1 := congrArg List.length hS3.map
              rw [List.length_map, List.length_append] at q1
              have q2 := hAll_le OK.out op rt m
              have q3 := hInv_le s op now k
              have := HN.out
              omega
            have kk0 : (0 : Int) ≤ (k : Int) := Int.natCast_nonneg _
            by_cases hk : k < n
            · have hki : (k : Int) < (n : Int) := by omega
              obtain rfl := NO.out.base (by omega)
              have hO := (NO.out.below (Nat.le_refl _) HS3.out.s1.bel).cells k hk
              obtain ⟨po0, po1, po2, po3⟩ := hO
              have hkF : (k : Int) < (s.fr.length : Int) := by rw [lFn.out]; exact hki
              have hkW : (k : Int) < (s.wh.length : Int) := by rw [lWn.out]; exact hki
              obtain ⟨gF, rfl, hcF⟩ := row_base hS3.s1.rowF lFn.out hk
              obtain ⟨gW, rfl, hcW⟩ := row_base hS3.s1.rowW lWn.out hk
              have cf := hcF k hk
              have cw := hcW k hk
              have HF : Hid (frA s k = s.fr.getD k 0) := rfl
              have HW : Hid (whA s k = s.wh.getD k 0) := rfl
              obtain ⟨f, hf⟩ : ∃ f, f = s.fr.getD k 0 := ⟨_, rfl⟩
              obtain ⟨u, hu⟩ : ∃ u, u = s.wh.getD k 0 := ⟨_, rfl⟩
              rw [← hf] at cf HF
              rw [← hu] at cw HW
              clear hf hu hcF hcW hS3
              by_cases hq : f = now
              · have q0 : (f == now) = true := beq_iff_eq.2 hq
                have HE : Hid (hInv s op now (k + 1) = hInv s op now k ++ [invX s op k]) := by show _ = _; rw [hInv, if_pos (by rw [HF.out, hq])]
                have EVI : Hid (evC (invX s op k) (.slice none 0 0) = [.int .i64 u, .bool false, .int .i64 (op k).kind, .int .i64 (op k).key, .int .i64 (op k).val, .int .i64 (op k).hi, .bool false, .int .i64 0, .int .i64 0, .slice none 0 0]) := by show _ = _; rw [← HW.out]; rfl
                clear hq
                go_wp2_with fail
                go_region_law (refine step_append_lies _ (by rfl) _ _ _ (by rfl) (w.heap.size + 1) 66 i9 _ 10 96 evs_under hi9 hy0 hy1 hy2 rfl (by omega) _ M2.length _ (by rfl) (HS3.out.own.alloc _).drew ⟨wy.heap.size, 0, none⟩ 1 1 [.int .i64 u, .bool false, .int .i64 (op k).kind, .int .i64 (op k).key, .int .i64 (op k).val, .int .i64 (op k).hi, .bool false, .int .i64 0, .int .i64 0, .slice none 0 0] (by rfl) (by rfl) (World.news_of_block (cs := #[.int .i64 u, .bool false, .int .i64 (op k).kind, .int .i64 (op k).key, .int .i64 (op k).val, .int .i64 (op k).hi, .bool false, .int .i64 0, .int .i64 0, .slice none 0 0]) (t := 66) (fr := (0, 0)) (heap_alloc_at _ _ _ (by simp))) (by simp [Value.oneCell']) (by omega) (by unfold maxLen; omega) (by omega) (by have := HS3.out.s1.sz; simp; omega) (wy.heap.size + 1) (by simp) ?_; intro g5 c5 w5 ho5 hg5 hat5 hl5; have S5 : Hid (S2 w w5 #[.slice p0 n0 c0, .slice p1 n1 c1, .slice a1 x.th.length c2, .slice a2 x.ea.length c3, .slice a3 x.la.length c4] _ _ _ s _ (M2 ++ [(invX s op k, .slice none 0 0)]) (hAll s op rt n m ++ hInv s op now (k + 1))) := (by rw [HE.out, ← List.append_assoc]; exact HS3.out.push (below_alloc wy _).drew hg5 _ _ (inv_ret wy _ s op k) (by rw [EVI.out]; exact ho5) (hat5.imp id (fun q => by rw [q]; simp))); clear ho5 hg5 hat5)
                all_goals
                  go_wp2_with fail
                  exact ⟨⟨k + 1, _, by omega, by go_num, S5.out⟩, by simp [intOf]; omega⟩
              · have q0 : (f == now) = false := beq_eq_false_iff_ne.2 hq
                have HE : Hid (hInv s op now (k + 1) = hInv s op now k) := by show _ = _; rw [hInv, if_neg (by rw [HF.out]; exact hq)]
                clear hq
                go_wp2_with fail
                exact ⟨⟨k + 1, M2, by omega, by go_num, by rw [HE.out]; exact HS3.out⟩, by simp [intOf]; omega⟩
            · obtain rfl : n = k := by omega
              have HS9 : Hid (S2 w wy #[.slice p0 n0 c0, .slice p1 n1 c1, .slice a1 x.th.length c2, .slice a2 x.ea.length c3, .slice a3 x.la.length c4] (.slice aF s.fr.length cF) (.slice aT s.to.length cT) (.slice aW s.wh.length cW) s (.slice aG M2.length cG) M2 (hAll s op rt n m ++ hInv s op now n)) := HS3.out
              clear hk hkn hS3 HS3
              go_wp2_with fail
              go_loopw [15, 128] (fun vH vk wy => ∃ (k : Nat) (M2 : List (EvD × Value)), k ≤ n ∧ vk = .int .i64 k ∧ S2 w wy #[.slice p0 n0 c0, .slice p1 n1 c1, .slice a1 x.th.length c2, .slice a2 x.ea.length c3, .slice a3 x.la.length c4] (.slice aF s.fr.length cF) (.slice aT s.to.length cT) (.slice aW s.wh.length cW) s vH M2 ((hAll s op rt n m ++ hInv s op now n) ++ hRet s op rt now k)) (fun _ vk _ => n - (intOf vk).toNat)
              case atStart => exact ⟨0, M2, Nat.zero_le _, rfl, by rw [hRet, List.append_nil]; exact HS9.out⟩
              case round =>
                obtain ⟨k, M2, hkn, rfl, hS3⟩ := hrel
                rename World => wy
                have HS3 : Hid (S2 w wy #[.slice p0 n0 c0, .slice p1 n1 c1, .slice a1 x.th.length c2, .slice a2 x.ea.length c3, .slice a3 x.la.length c4] (.slice aF s.fr.length cF) (.slice aT s.to.length cT) (.slice aW s.wh.length cW) s _ M2 ((hAll s op rt n m ++ hInv s op now n) ++ hRet s op rt now k)) := hS3
                obtain ⟨aG, cG, rfl⟩ := owns_form hS3.own
                have lM : M2.length ≤ 120 := by
                  have q1 := congrArg List.length hS3.map
                  rw [List.length_map, List.length_append, List.length_append] at q1
                  have q2 := hAll_le OK.out op rt m
                  have q3 := hInv_le s op now n
                  have q4 := hRet_le s op rt now k
                  have := HN.out
                  omega
                have kk0 : (0 : Int) ≤ (k : Int) := Int.natCast_nonneg _
                by_cases hk : k < n
                · have hki : (k : Int) < (n : Int) := by omega
                  obtain rfl := NO.out.base (by omega)
                  have hO := (NO.out.below (Nat.le_refl _) HS3.out.s1.bel).cells k hk
                  obtain ⟨po0, po1, po2, po3⟩ := hO
                  obtain rfl := NR.out.base (by omega)
                  have hR := (NR.out.below (Nat.le_refl _) HS3.out.s1.bel).cells k hk
                  obtain ⟨pr0, pr1, pr2, pr3⟩ := hR
                  have RE : Hid (ERet wy 0 (Value.ownBlock (.slice aG M2.length cG)) (retX s op rt k) (.slice (pb k) (rt k).pairs.length (pc k))) := ret_ret NR.out HS3.out.s1.bel (fun z q => (owns_lt HS3.out.own z q).1) s op hk
                  have hkF : (k : Int) < (s.to.length : Int) := by rw [lTn.out]; exact hki
                  have hkW : (k : Int) < (s.wh.length : Int) := by rw [lWn.out]; exact hki
                  obtain ⟨gF, rfl, hcF⟩ := row_base hS3.s1.rowT lTn.out hk
                  obtain ⟨gW, rfl, hcW⟩ := row_base hS3.s1.rowW lWn.out hk
                  have cf := hcF k hk
                  have cw := hcW k hk
                  have HF : Hid (toA s k = s.to.getD k 0) := rfl
                  have HW : Hid (whA s k = s.wh.getD k 0) := rfl
                  obtain ⟨f, hf⟩ : ∃ f, f = s.to.getD k 0 := ⟨_, rfl⟩
                  obtain ⟨u, hu⟩ : ∃ u, u = s.wh.getD k 0 := ⟨_, rfl⟩
                  rw [← hf] at cf HF
                  rw [← hu] at cw HW
                  clear hf hu hcF hcW hS3
                  by_cases hq : f = now
                  · have q0 : (f == now) = true := beq_iff_eq.2 hq
                    have HE : Hid (hRet s op rt now (k + 1) = hRet s op rt now k ++ [retX s op rt k]) := by show _ = _; rw [hRet, if_pos (by rw [HF.out, hq])]
                    have EVI : Hid (evC (retX s op rt k) (.slice (pb k) (rt k).pairs.length (pc k)) = [.int .i64 u, .bool true, .int .i64 (op k).kind, .int .i64 (op k).key, .int .i64 (op k).val, .int .i64 (op k).hi, .bool (rt k).ok, .int .i64 (rt k).key, .int .i64 (rt k).val, .slice (pb k) (rt k).pairs.length (pc k)]) := by show _ = _; rw [← HW.out]; rfl
                    clear hq
                    go_wp2_with fail
                    go_region_law (refine step_append_lies _ (by rfl) _ _ _ (by rfl) (w.heap.size + 1) 66 i9 _ 10 96 evs_under hi9 hy0 hy1 hy2 rfl (by omega) _ M2.length _ (by rfl) (HS3.out.own.alloc _).drew ⟨wy.heap.size, 0, none⟩ 1 1 [.int .i64 u, .bool true, .int .i64 (op k).kind, .int .i64 (op k).key, .int .i64 (op k).val, .int .i64 (op k).hi, .bool (rt k).ok, .int .i64 (rt k).key, .int .i64 (rt k).val, .slice (pb k) (rt k).pairs.length (pc k)] (by rfl) (by rfl) (World.news_of_block (cs := #[.int .i64 u, .bool true, .int .i64 (op k).kind, .int .i64 (op k).key, .int .i64 (op k).val, .int .i64 (op k).hi, .bool (rt k).ok, .int .i64 (rt k).key, .int .i64 (rt k).val, .slice (pb k) (rt k).pairs.length (pc k)]) (t := 66) (fr := (0, 0)) (heap_alloc_at _ _ _ (by simp))) (by simp [Value.oneCell']) (by omega) (by unfold maxLen; omega) (by omega) (by have := HS3.out.s1.sz; simp; omega) (wy.heap.size + 1) (by simp) ?_; intro g5 c5 w5 ho5 hg5 hat5 hl5; have S5 : Hid (S2 w w5 #[.slice p0 n0 c0, .slice p1 n1 c1, .slice a1 x.th.length c2, .slice a2 x.ea.length c3, .slice a3 x.la.length c4] _ _ _ s _ (M2 ++ [(retX s op rt k, .slice (pb k) (rt k).pairs.length (pc k))]) ((hAll s op rt n m ++ hInv s op now n) ++ hRet s op rt now (k + 1))) := (by rw [HE.out, ← List.append_assoc]; exact HS3.out.push (below_alloc wy _).drew hg5 _ _ (RE.out) (by rw [EVI.out]; exact ho5) (hat5.imp id (fun q => by rw [q]; simp))); clear ho5 hg5 hat5)
                    all_goals
                      go_wp2_with fail
                      exact ⟨⟨k + 1, _, by omega, by go_num, S5.out⟩, by simp [intOf]; omega⟩
                  · have q0 : (f == now) = false := beq_eq_false_iff_ne.2 hq
                    have HE : Hid (hRet s op rt now (k + 1) = hRet s op rt now k) := by show _ = _; rw [hRet, if_neg (by rw [HF.out]; exact hq)]
                    clear hq
                    go_wp2_with fail
                    exact ⟨⟨k + 1, M2, by omega, by go_num, by rw [HE.out]; exact HS3.out⟩, by simp [intOf]; omega⟩
                · obtain rfl : n = k := by omega
                  clear hk hkn hS3
                  go_wp2_with fail
                  have HE : Hid (hAll s op rt n (m + 1) = (hAll s op rt n m ++ hInv s op now n) ++ hRet s op rt now n) := by show _ = _; rw [hAll, ← HNOW.out]
                  exact ⟨⟨m + 1, now + 1, M2, by have := HLT.out; omega, by go_num, by have := HNOW.out; omega, by rw [HE.out]; exact HS3.out⟩, by simp [intOf]; omega⟩
        · have nw2 : ¬ now < 10 * (n : Int) + 60 := by omega
          have HM : Hid (m = 10 * n + 100) := by show _ = _; omega
          clear hnow hlt hm
          go_wp2_with fail
          go_ret
          have EN : EvsNew wz w.heap.size 0 (.slice aH M.length cH) (hAll s op rt n m) := own_evs HS2.out.map (owns_down HS2.out.own (by omega)) HS2.out.rets
          exact ⟨_, rfl, HS2.out.s1.bel, hAll s op rt n m, EN, Or.inr ⟨s, HSN.out, by rw [HM.out]⟩⟩
end Go.Proofs.Ytljidfaeljpnpaa
