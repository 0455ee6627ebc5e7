/- Layer 7: the law SearchDoes. Layer 6: the reference's Run. Layer 7: what the document's Run wants: the boxes of a round. Layer 7: the document's Run. Layer 7: the document's Run of any input; Do. Layer 7: what the laws want: their own small functions; the boxes of a state and of an answer. -/
import Derived.Test.YtcphajjonecmbaaDoorMRun
import Derived.Test.YtcphajjonecmbaaDoorMG14
import Derived.Test.YtcphajjonecmbaaDoorYRd2
import Derived.Test.YtcphajjonecmbaaDoorYAwk
import Derived.Test.YtcphajjonecmbaaDoorYFind
import Derived.Deep.RegionHeld3
import Derived.Deep.CutRange


namespace Go.Proofs.YtcphajjonecmbaaDoor

open Go.RowKit

theorem stepP_of {base : Option Addr} {b o c : Nat} {ps : PL} {op : OpD} {w : World} (h : PairsAt w base b o ps) (hnil : base = none → ps.length = 0 ∧ c = 0) (hby : (ps.length + 2) * 16 ≤ 140737488355328) (hs : Srt ps) (hk : kdErr op.kind = 0) {L : PL} {r : RetD} (hL : stepL ps op = L) (hr : stepR ps op = r) :
    Calls Tryd.prog 110 #[.slice base ps.length c, .agg #[.int .i64 op.kind, .int .i64 op.key, .int .i64 op.val, .int .i64 op.hi]] w fun e w' => ∃ v1 a2 c2, e = .returned (.tuple #[v1, .agg #[.bool r.ok, .int .i64 r.key, .int .i64 r.val, .slice a2 r.pairs.length c2]]) ∧ Below w.heap.size w w' ∧ OwnPM w' w.heap.size L v1 ∧ OwnPM w' w.heap.size r.pairs (.slice a2 r.pairs.length c2) := by
  have S := rStep_any base b o c ps op w h hnil hby hs hk
  unfold StepP at S
  rw [hL, hr] at S
  refine S.mono ?_
  rintro e w' ⟨v1, v2, rfl, hb, h1, h2⟩
  obtain ⟨a, g, cap, rfl, q⟩ := h2
  exact ⟨v1, a, cap, rfl, hb, h1, ⟨a, g, cap, rfl, q⟩⟩

theorem run_bytes (ps : PL) (ops : List OpD) (j : Nat) (hby : (ps.length + ops.length + 2) * 48 ≤ 140737488355328) : ((runL ps (ops.take j)).length + 2) * 16 ≤ 140737488355328 := by
  have h1 := runL_length (ops.take j) ps
  have h2 : (ops.take j).length ≤ ops.length := List.length_take_le' _ _
  exact Nat.le_trans (Nat.mul_le_mul (Nat.add_le_add_right (Nat.le_trans h1 (Nat.add_le_add_left h2 _)) 2) (by decide : 16 ≤ 48)) hby

end Go.Proofs.YtcphajjonecmbaaDoor



namespace Go.Proofs.YtcphajjonecmbaaDoor

open Go.RowKit Go.Deep

attribute [local go_sem ↓] Go.wp_at_zero Go.wp_at_succ

theorem sRun_len (t : Int) : ∀ (l : List OpD) (s : SD), (sRun t s l).vals.length ≤ s.vals.length + l.length ∧ (sRun t s l).prs.length ≤ s.prs.length + l.length
  | [], s => ⟨Nat.le_refl _, Nat.le_refl _⟩
  | o :: l, s => by
    have h := sRun_len t l (sStep t s o)
    have h1 : (sStep t s o).vals.length ≤ s.vals.length + 1 ∧ (sStep t s o).prs.length ≤ s.prs.length + 1 := by
      unfold sStep
      split
      · exact ⟨by simp, stepL_length s.prs o⟩
      · exact ⟨vStep_length t s.vals o, by simp⟩
    show (sRun t (sStep t s o) l).vals.length ≤ _ ∧ (sRun t (sStep t s o) l).prs.length ≤ _
    simp
    omega
theorem sRun_next {t : Int} {s : SD} {ops : List OpD} {j : Nat} (hj : j < ops.length) : sRun t s (ops.take (j + 1)) = sStep t (sRun t s (ops.take j)) (opAt ops j) := by
  rw [op_take ops hj, sRun_append]; rfl
theorem sRets_next {t : Int} {s : SD} {ops : List OpD} {j : Nat} (hj : j < ops.length) : sRets t s (ops.take (j + 1)) = sRets t s (ops.take j) ++ [sRet t (sRun t s (ops.take j)) (opAt ops j)] := by
  rw [op_take ops hj, sRets_append]; rfl
def cS0 : Obj := .cells #[.slice none 0 0, .slice none 0 0] 25
def cR0 : Obj := .cells #[.bool false, .int .i64 0, .int .i64 0, .slice none 0 0] 45
/-- What lies at and above B lies as it lay. -/
def Hig (B : Nat) (A F : World) : Prop := A.heap.size ≤ F.heap.size ∧ ∀ k, B ≤ k → k < A.heap.size → F.heap[k]? = A.heap[k]?
theorem Hig.refl (B : Nat) (A : World) : Hig B A A := ⟨Nat.le_refl _, fun _ _ _ => rfl⟩
theorem Hig.alloc {B : Nat} {A F : World} (h : Hig B A F) (o : Obj) : Hig B A (F.alloc o) := ⟨by simp; have := h.1; omega, fun k h1 h2 => (heap_alloc_old _ _ (Nat.lt_of_lt_of_le h2 h.1)).trans (h.2 k h1 h2)⟩
theorem Hig.set {B : Nat} {A F : World} (h : Hig B A F) {g j : Nat} (hg : g < B) (v : Value) : Hig B A (F.setCell ⟨g, j, none⟩ v) := ⟨by simpa using h.1, fun k h1 h2 => (Below.heap_setCell F _ _ k (by show k ≠ g; omega)).trans (h.2 k h1 h2)⟩
theorem Hig.drew {B : Nat} {A F : World} (h : Hig B A F) : Hig B A F.drew := h
theorem StNew.hig {A F : World} {B : Nat} {x : SX} {s : SD} (h : StNew A B x s) (k : Hig B A F) : StNew F B x s := h.high k.1 k.2
theorem OwnPM.hig {A F : World} {B : Nat} {ps : PL} {v : Value} (h : OwnPM A B ps v) (k : Hig B A F) : OwnPM F B ps v := by
  obtain ⟨a, g, cap, e, h1, h2, h3⟩ := h
  exact ⟨a, g, cap, e, h1, h2.high k.1 k.2 h1, h3⟩
/-- A round of Run's loop: the new state's and the answer's boxes. -/
def RunB (wr : World) (S : SD) (r : RetD) (v13 v14 : Value) (wx : World) : Prop :=
  ∃ (x' : SX) (a2 : Option Addr) (c2 b13 b14 : Nat), v13 = .pointer (some ⟨b13, 0, none⟩) ∧ v14 = .pointer (some ⟨b14, 0, none⟩) ∧ Below wr.heap.size wr wx ∧
    wx.heap[b13]? = some (.cells #[.slice x'.va S.vals.length x'.vc, .slice x'.pa S.prs.length x'.pc] 25) ∧ wx.heap[b14]? = some (.cells #[.bool r.ok, .int .i64 r.key, .int .i64 r.val, .slice a2 r.pairs.length c2] 45) ∧
    wr.heap.size ≤ b13 ∧ wr.heap.size ≤ b14 ∧ b13 ≠ b14 ∧ StNew wx wr.heap.size x' S ∧ OwnPM wx wr.heap.size r.pairs (.slice a2 r.pairs.length c2)
theorem kb0 {wr w1 : World} (hb : Below wr.drew.heap.size wr.drew w1) : Below wr.heap.size wr w1 ∧ wr.drew.heap.size = wr.heap.size := ⟨(Below.refl _ wr).drew.trans hb, rfl⟩
theorem kbA {wr w1 : World} {C : Obj} (hb : Below (wr.alloc C).drew.heap.size (wr.alloc C).drew w1) : Below wr.heap.size wr w1 ∧ (wr.alloc C).drew.heap.size = wr.heap.size + 1 ∧ w1.heap[wr.heap.size]? = some C ∧ wr.heap.size < w1.heap.size := by
  have hz : (wr.alloc C).drew.heap.size = wr.heap.size + 1 := World.size_alloc _ _
  exact ⟨(below_alloc wr _).drew.trans (hb.mono (by omega)), hz, (hb.block _ (by omega)).trans (heap_alloc_at wr _ _ rfl), by have := hb.size; omega⟩
theorem kbAB {wr w1 : World} {C D : Obj} (hb : Below ((wr.alloc C).alloc D).drew.heap.size ((wr.alloc C).alloc D).drew w1) : Below wr.heap.size wr w1 ∧ ((wr.alloc C).alloc D).drew.heap.size = wr.heap.size + 1 + 1 ∧ w1.heap[wr.heap.size]? = some C ∧ w1.heap[wr.heap.size + 1]? = some D ∧ wr.heap.size < w1.heap.size ∧ wr.heap.size + 1 < w1.heap.size := by
  have hz : ((wr.alloc C).alloc D).drew.heap.size = wr.heap.size + 1 + 1 := by show ((wr.alloc C).alloc D).heap.size = _; simp
  have := hb.size
  exact ⟨((below_alloc wr _).alloc (by simp) _).drew.trans (hb.mono (by omega)), hz, (hb.block _ (by omega)).trans ((heap_alloc_old _ _ (by simp)).trans (heap_alloc_at wr _ _ rfl)), (hb.block _ (by omega)).trans (heap_alloc_at _ _ _ (by simp)), by omega, by omega⟩
theorem RunB.fin {wr w1 F : World} {Bz b13 b14 c2 g2 : Nat} {S : SD} {r : RetD} {x' : SX} {a2 : Option Addr} (hB : wr.heap.size ≤ Bz) (hs : StNew w1 Bz x' S) (hp : PairsAt w1 a2 g2 0 r.pairs ∧ (r.pairs.length ≠ 0 → Bz ≤ g2) ∧ (a2 = none → c2 = 0)) (hb : Below wr.heap.size wr F) (h13 : F.heap[b13]? = some (.cells #[.slice x'.va S.vals.length x'.vc, .slice x'.pa S.prs.length x'.pc] 25)) (h14 : F.heap[b14]? = some (.cells #[.bool r.ok, .int .i64 r.key, .int .i64 r.val, .slice a2 r.pairs.length c2] 45)) (l13 : wr.heap.size ≤ b13) (l14 : wr.heap.size ≤ b14) (hne : b13 ≠ b14) (hh : Hig Bz w1 F) :
    RunB wr S r (.pointer (some ⟨b13, 0, none⟩)) (.pointer (some ⟨b14, 0, none⟩)) F :=
  ⟨x', a2, c2, b13, b14, rfl, rfl, hb, h13, h14, l13, l14, hne, (hs.hig hh).down hB, (OwnPM.hig ⟨a2, g2, c2, rfl, hp.2.1, hp.1, hp.2.2⟩ hh).down hB⟩
theorem set2_at {w : World} {N : Nat} {u0 u1 : Value} {T : TypeId} (h : w.heap[N]? = some (.cells #[u0, u1] T)) (v0 v1 : Value) : ((w.setCell ⟨N, 0, none⟩ v0).setCell ⟨N, 1, none⟩ v1).heap[N]? = some (.cells #[v0, v1] T) := by
  simp [World.setCell, Array.getElem?_modify, h]
section

variable {wr w1 : World} {Bz c2 g2 : Nat} {S : SD} {r : RetD} {x' : SX} {a2 : Option Addr} (B1 : Below wr.heap.size wr w1) (hs : StNew w1 Bz x' S) (hp : PairsAt w1 a2 g2 0 r.pairs ∧ (r.pairs.length ≠ 0 → Bz ≤ g2) ∧ (a2 = none → c2 = 0))

include B1 hs hp

theorem runB_1 (hz : Bz = wr.heap.size) : RunB wr S r (.pointer (some ⟨w1.heap.size, 0, none⟩)) (.pointer (some ⟨w1.heap.size + 1, 0, none⟩)) ((w1.alloc (.cells #[.slice x'.va S.vals.length x'.vc, .slice x'.pa S.prs.length x'.pc] 25)).alloc (.cells #[.bool r.ok, .int .i64 r.key, .int .i64 r.val, .slice a2 r.pairs.length c2] 45)) := by
  have hs1 := B1.size
  exact RunB.fin (by omega) hs hp ((B1.alloc hs1 _).alloc (by simp; omega) _) ((heap_alloc_old _ _ (by simp)).trans (heap_alloc_at _ _ _ rfl)) (heap_alloc_at _ _ _ (by simp)) hs1 (by omega) (by omega) (((Hig.refl _ _).alloc _).alloc _)
theorem runB_2 (hz : Bz = wr.heap.size) : RunB wr S r (.pointer (some ⟨w1.heap.size + 1, 0, none⟩)) (.pointer (some ⟨w1.heap.size, 0, none⟩)) ((w1.alloc (.cells #[.bool r.ok, .int .i64 r.key, .int .i64 r.val, .slice a2 r.pairs.length c2] 45)).alloc (.cells #[.slice x'.va S.vals.length x'.vc, .slice x'.pa S.prs.length x'.pc] 25)) := by
  have hs1 := B1.size
  exact RunB.fin (by omega) hs hp ((B1.alloc hs1 _).alloc (by simp; omega) _) (heap_alloc_at _ _ _ (by simp)) ((heap_alloc_old _ _ (by simp)).trans (heap_alloc_at _ _ _ rfl)) (by omega) hs1 (by omega) (((Hig.refl _ _).alloc _).alloc _)
theorem runB_3 (hz : Bz = wr.heap.size + 1) (hl : wr.heap.size < w1.heap.size) (h0 : w1.heap[wr.heap.size]? = some (.cells #[.slice none 0 0, .slice none 0 0] 25)) : RunB wr S r (.pointer (some ⟨wr.heap.size, 0, none⟩)) (.pointer (some ⟨w1.heap.size, 0, none⟩)) (((w1.setCell ⟨wr.heap.size, 0, none⟩ (.slice x'.va S.vals.length x'.vc)).setCell ⟨wr.heap.size, 1, none⟩ (.slice x'.pa S.prs.length x'.pc)).alloc (.cells #[.bool r.ok, .int .i64 r.key, .int .i64 r.val, .slice a2 r.pairs.length c2] 45)) := by
  have hs1 := B1.size
  exact RunB.fin (by omega) hs hp (((B1.setCell (p := ⟨wr.heap.size, 0, none⟩) (Nat.le_refl _) _).setCell (p := ⟨wr.heap.size, 1, none⟩) (Nat.le_refl _) _).alloc (by simp; omega) _) ((heap_alloc_old _ _ (by simp; omega)).trans (set2_at h0 _ _)) (heap_alloc_at _ _ _ (by simp)) (Nat.le_refl _) hs1 (by omega) ((((Hig.refl _ _).set (by omega) _).set (by omega) _).alloc _)
theorem runB_4 (hz : Bz = wr.heap.size + 1 + 1) (h0 : w1.heap[wr.heap.size]? = some (.cells #[.slice none 0 0, .slice none 0 0] 25)) (h1 : w1.heap[wr.heap.size + 1]? = some (.cells #[.bool false, .int .i64 0, .int .i64 0, .slice none 0 0] 45)) : RunB wr S r (.pointer (some ⟨wr.heap.size, 0, none⟩)) (.pointer (some ⟨wr.heap.size + 1, 0, none⟩)) ((((((w1.setCell ⟨wr.heap.size, 0, none⟩ (.slice x'.va S.vals.length x'.vc)).setCell ⟨wr.heap.size, 1, none⟩ (.slice x'.pa S.prs.length x'.pc)).setCell ⟨wr.heap.size + 1, 0, none⟩ (.bool r.ok)).setCell ⟨wr.heap.size + 1, 1, none⟩ (.int .i64 r.key)).setCell ⟨wr.heap.size + 1, 2, none⟩ (.int .i64 r.val)).setCell ⟨wr.heap.size + 1, 3, none⟩ (.slice a2 r.pairs.length c2)) := by
  have hs1 := B1.size
  exact RunB.fin (by omega) hs hp (below_six B1 (Nat.le_refl _) (by omega) _ _ _ _ _ _) ((heap_four _ (by omega) _ _ _ _ _ _ _ _).trans (set2_at h0 _ _)) (cells4_set ((heap_two _ (by omega) _ _ _ _).trans h1) _ _ _ _) (Nat.le_refl _) (by omega) (by omega) ((((((((Hig.refl _ _).set (by omega) _).set (by omega) _).set (by omega) _).set (by omega) _).set (by omega) _).set (by omega) _))
theorem runB_5 (hz : Bz = wr.heap.size + 1) (hl : wr.heap.size < w1.heap.size) (h0 : w1.heap[wr.heap.size]? = some (.cells #[.bool false, .int .i64 0, .int .i64 0, .slice none 0 0] 45)) : RunB wr S r (.pointer (some ⟨w1.heap.size, 0, none⟩)) (.pointer (some ⟨wr.heap.size, 0, none⟩)) (((((w1.setCell ⟨wr.heap.size, 0, none⟩ (.bool r.ok)).setCell ⟨wr.heap.size, 1, none⟩ (.int .i64 r.key)).setCell ⟨wr.heap.size, 2, none⟩ (.int .i64 r.val)).setCell ⟨wr.heap.size, 3, none⟩ (.slice a2 r.pairs.length c2)).alloc (.cells #[.slice x'.va S.vals.length x'.vc, .slice x'.pa S.prs.length x'.pc] 25)) := by
  have hs1 := B1.size
  exact RunB.fin (by omega) hs hp ((below_four B1 (Nat.le_refl _) _ _ _ _).alloc (by simp; omega) _) (heap_alloc_at _ _ _ (by simp)) ((heap_alloc_old _ _ (by simp; omega)).trans (cells4_set h0 _ _ _ _)) hs1 (Nat.le_refl _) (by omega) ((((((Hig.refl _ _).set (by omega) _).set (by omega) _).set (by omega) _).set (by omega) _).alloc _)
theorem runB_6 (hz : Bz = wr.heap.size + 1 + 1) (h0 : w1.heap[wr.heap.size]? = some (.cells #[.bool false, .int .i64 0, .int .i64 0, .slice none 0 0] 45)) (h1 : w1.heap[wr.heap.size + 1]? = some (.cells #[.slice none 0 0, .slice none 0 0] 25)) : RunB wr S r (.pointer (some ⟨wr.heap.size + 1, 0, none⟩)) (.pointer (some ⟨wr.heap.size, 0, none⟩)) ((((((w1.setCell ⟨wr.heap.size + 1, 0, none⟩ (.slice x'.va S.vals.length x'.vc)).setCell ⟨wr.heap.size + 1, 1, none⟩ (.slice x'.pa S.prs.length x'.pc)).setCell ⟨wr.heap.size, 0, none⟩ (.bool r.ok)).setCell ⟨wr.heap.size, 1, none⟩ (.int .i64 r.key)).setCell ⟨wr.heap.size, 2, none⟩ (.int .i64 r.val)).setCell ⟨wr.heap.size, 3, none⟩ (.slice a2 r.pairs.length c2)) := by
  have hs1 := B1.size
  exact RunB.fin (by omega) hs hp (below_six B1 (by omega) (Nat.le_refl _) _ _ _ _ _ _) ((heap_four _ (by omega) _ _ _ _ _ _ _ _).trans (set2_at h1 _ _)) (cells4_set ((heap_two _ (by omega) _ _ _ _).trans h0) _ _ _ _) (by omega) (Nat.le_refl _) (by omega) ((((((((Hig.refl _ _).set (by omega) _).set (by omega) _).set (by omega) _).set (by omega) _).set (by omega) _).set (by omega) _))
end

end Go.Proofs.YtcphajjonecmbaaDoor




namespace Go.Proofs.YtcphajjonecmbaaDoor

open Go.RowKit Go.Deep

attribute [local go_sem ↓] Go.wp_at_zero Go.wp_at_succ

/-- What Run leaves. -/
def RRunP (t : Int) (s : SD) (ops : List OpD) (w : World) (e : Ending) (w' : World) : Prop :=
  ∃ x ra rg rk, e = .returned (.tuple #[x.v (sRunD t s ops), .slice ra (sRetsD t s ops).length rk, .int .i64 (rnErr t s ops)]) ∧ Below w.heap.size w w' ∧ StAt w' x (sRunD t s ops) ∧ RetsAtM w' ra rg 0 (sRetsD t s ops) ∧ LowZ w' w.heap.size rg (sRetsD t s ops).length ∧ (ops.length ≠ 0 → StNew w' w.heap.size x (sRunD t s ops)) ∧ ((sRetsD t s ops).length ≠ 0 → w.heap.size ≤ rg)
/-- Where the loop stands. -/
structure RL (w W0 wr : World) (t : Int) (s : SD) (ops : List OpD) (j : Nat) (us : List Value) (x' : SX) (v : Value) : Prop where
  b : Below w.heap.size w wr
  z : W0.heap.size ≤ wr.heap.size
  bx : wr.heap[w.heap.size]? = some (.cells #[.slice x'.va (sRun t s (ops.take j)).vals.length x'.vc, .slice x'.pa (sRun t s (ops.take j)).prs.length x'.pc] 25)
  rx : wr.heap[w.heap.size + 1]? = some cS0
  st : StAt wr x' (sRun t s (ops.take j))
  vN : (sRun t s (ops.take j)).vals.length ≠ 0 → x'.vg < w.heap.size ∨ W0.heap.size ≤ x'.vg
  pN : (sRun t s (ops.take j)).prs.length ≠ 0 → x'.pg < w.heap.size ∨ W0.heap.size ≤ x'.pg
  rm : RetsM wr W0.heap.size v.ownBlock (sRets t s (ops.take j)) us
  own : wr.ownsRow W0.heap.size 45 4 v j (retsC (sRets t s (ops.take j)) us)
  nw : j ≠ 0 → StNew wr W0.heap.size x' (sRun t s (ops.take j))
theorem rets_low7 {w : World} {B : Nat} {e : TypeId} {rs : List RetD} {us : List Value} {x : Option Nat} {base : Option Addr} {cap g : Nat} (h : w.ownsRow B e 4 (.slice base rs.length cap) rs.length (retsC rs us)) (hm : RetsM w B x rs us) (hr : RetsAtM w base g 0 rs) : LowZ w B g rs.length ∧ (rs.length ≠ 0 → B ≤ g) := by
  obtain ⟨_, h⟩ := h
  rcases h with ⟨_, h0⟩ | ⟨g', cap', cur, hv, hg, hh, h1, h2, h3, h4⟩
  · exact ⟨fun i hi => by omega, fun q => absurd h0 q⟩
  · injection hv with hv
    refine ⟨fun i hi a m c hc hm0 => ?_, fun q => ?_⟩
    · have hb := hr.base (by omega)
      rw [hv] at hb
      injection hb with hb
      injection hb with hb
      subst hb
      obtain ⟨_, _, _, d⟩ := retsC_get rs us i hm.len hi
      obtain ⟨ap, gp, cp, eu, hp, hq⟩ := hm.pairs i hi
      have hcc : w.cell? ⟨g', i * 4 + 3, none⟩ = (retsC rs us)[i * 4 + 3]? := by
        rw [← h4, List.getElem?_take, if_pos (by omega)]
        simp [World.cell?, hh]
      rw [hcc, d, eu] at hc
      injection hc with hc
      injection hc with q1 q2 q3
      subst q1
      exact ⟨gp, 0, hp.base (by omega), (hq (by omega)).1⟩
    · have hb := hr.base q
      rw [hv] at hb
      injection hb with hb
      injection hb with hb
      omega
theorem owns_keptB {w w' : World} {B sz : Nat} {e : TypeId} {v : Value} {n : Nat} {xs : List Value} (h : w.ownsRow B e sz v n xs) (hk : ∀ k, B ≤ k → k < w.heap.size → w'.heap[k]? = w.heap[k]?) : w'.ownsRow B e sz v n xs := by
  obtain ⟨h0, h⟩ := h
  rcases h with h | ⟨g, cap, cur, hv, hg, hh, h1, h2, h3, h4⟩
  · exact ⟨h0, Or.inl h⟩
  · have hl : g < w.heap.size := (Array.getElem?_eq_some_iff.1 hh).1
    exact ⟨h0, Or.inr ⟨g, cap, cur, hv, hg, by rw [hk g hg hl]; exact hh, h1, h2, h3, h4⟩⟩
theorem RetsM.keptB {w w' : World} {B : Nat} {x : Option Nat} {rs : List RetD} {us : List Value} (h : RetsM w B x rs us) (hs : w.heap.size ≤ w'.heap.size) (hk : ∀ k, B ≤ k → k < w.heap.size → w'.heap[k]? = w.heap[k]?) : RetsM w' B x rs us :=
  ⟨h.len, fun i hi => by obtain ⟨a, g, c, e, hp, hq⟩ := h.pairs i hi; exact ⟨a, g, c, e, hp.high hs hk (fun q => (hq q).1), hq⟩⟩
set_option maxRecDepth 100000 in
set_option maxHeartbeats 4000000 in
theorem rRun7_ok (t : Int) (x : SX) (s : SD) (ob : Option Addr) (bo oo co : Nat) (ops : List OpD) (w : World) (h : StAt w x s) (hop : OpsAt w ob bo oo ops) (he : sErr t s = 0) (hks : ksN t ops = true) (hv : s.vals.length ≤ 100000000) (hp : s.prs.length ≤ 100000000) (ho : ops.length ≤ 100000000) :
    Calls Tryd.prog 15 #[.int .i64 t, x.v s, .slice ob ops.length co] w (RRunP t s ops w) := by
  have E0 : rnErr t s ops = 0 := rnErr_zero.2 ⟨he, hks⟩
  have EL : sRunD t s ops = sRun t s ops := if_pos E0
  have ER : sRetsD t s ops = sRets t s ops := if_pos E0
  unfold RRunP
  rw [E0, EL, ER]
  have lO := hop.len
  unfold maxLen at lO
  obtain ⟨r0, hr0, hy0, hy1, hy2⟩ := info_parts rt_info
  have HOP : Hid (OpsAt w ob bo oo ops) := hop
  have HA : Hid (StAt w x s) := h
  obtain ⟨W0, hW0⟩ : ∃ W0, W0 = (w.alloc (.cells #[.slice x.va s.vals.length x.vc, .slice x.pa s.prs.length x.pc] 25)).alloc (.cells #[.slice none 0 0, .slice none 0 0] 25) := ⟨_, rfl⟩
  have B0 : Hid (Below w.heap.size w W0) := by show Below _ _ _; rw [hW0]; exact two_blocks _ _ _ _ _
  have z0 : W0.heap.size = w.heap.size + 2 := by rw [hW0]; simp
  have R0 : Hid (W0.heap[w.heap.size]? = some (.cells #[.slice x.va s.vals.length x.vc, .slice x.pa s.prs.length x.pc] 25)) := by
    show W0.heap[w.heap.size]? = _
    rw [hW0]; exact (heap_alloc_old _ _ (by simp)).trans (heap_alloc_at _ _ _ rfl)
  have R1 : Hid (W0.heap[w.heap.size + 1]? = some cS0) := by
    show W0.heap[w.heap.size + 1]? = _
    rw [hW0]; exact heap_alloc_at _ _ _ (by simp)
  have CK : Hid (Calls Tryd.prog 14 #[.int .i64 t, .agg #[.slice x.va s.vals.length x.vc, .slice x.pa s.prs.length x.pc]] W0 fun e w' => e = .returned (.int .i64 0) ∧ Below W0.heap.size W0 w') := by
    have := rcheck7_any t x s W0 (h.below B0.out)
    rw [he] at this
    exact this
  have KI : Hid (∀ i, i < ops.length → kOk t (opAt ops i).kind = true) := ksN_iff.1 hks
  have HE : Hid (sErr t s = 0) := he
  obtain ⟨⟨a0, _⟩, ⟨a1, _⟩⟩ := cells2 R0.out
  unfold SX.v
  clear h hop he hks E0 EL ER
  go_enter Tryd.func15, Tryd.ntmps15
  go_upto_region 1 with fail
  rw [← hW0]
  clear hW0
  go_wp2_with (first | (go_at_call 14; refine CK.out.mono ?_; rintro e w1 ⟨rfl, hb1⟩; have B1 : Hid (Below W0.heap.size W0 w1) := hb1; have z1 := hb1.size; clear hb1))
  go_loopw [10] (fun i wr => ∃ j : Nat, j ≤ ops.length ∧ i = .int .i64 j ∧ w1 = wr) (fun i _ => ops.length - (intOf i).toNat)
  case atStart => exact ⟨0, Nat.zero_le _, rfl, rfl⟩
  case round =>
    obtain ⟨j, hj, rfl, rfl⟩ := hrel
    by_cases hlt : j < ops.length
    · obtain rfl : ob = some ⟨bo, oo, none⟩ := HOP.out.base (by omega)
      obtain ⟨c0, _, _, _⟩ := (HOP.out.below (B0.out.trans (B1.out.mono B0.out.size))).cells j hlt
      have j0 : (0 : Int) ≤ (j : Int) := Int.natCast_nonneg _
      have j1 : (j : Int) < (ops.length : Int) := by omega
      have KK : Hid (Calls Tryd.prog 55 #[.int .i64 t, .int .i64 (opAt ops j).kind] w1 fun e w' => e = .returned (.bool true) ∧ w1 = w') := by
        have := rkind7_any t (opAt ops j).kind w1
        rw [KI.out j hlt] at this
        exact this
      go_wp2_with (first | (go_at_call 55; refine KK.out.mono ?_; rintro e w2 ⟨rfl, rfl⟩))
      exact ⟨⟨j + 1, by omega, by go_num, trivial⟩, by simp [intOf]; omega⟩
    · clear hj
      go_wp2_with fail
      clear hlt
      go_loopw [11, 12] (fun v i wr => ∃ (j : Nat) (us : List Value) (x' : SX), j ≤ ops.length ∧ i = .int .i64 j ∧ RL w W0 wr t s ops j us x' v) (fun _ i _ => ops.length - (intOf i).toNat)
      case atStart =>
        refine ⟨0, [], x, Nat.zero_le _, rfl, B0.out.trans (B1.out.mono B0.out.size), z1, (B1.out.block _ (by omega)).trans R0.out, (B1.out.block _ (by omega)).trans R1.out, (HA.out.below B0.out).below B1.out, fun q => .inl (HA.out.vals.lt q), fun q => .inl (HA.out.prs.lt q), ⟨rfl, fun i hi => by simp [sRets] at hi⟩, World.ownsRow_nil _ _ _ _, fun q => absurd rfl q⟩
      case round =>
        obtain ⟨j, us, x', hj, rfl, hRL⟩ := hrel
        rename World => wr
        by_cases hlt : j < ops.length
        · obtain rfl : ob = some ⟨bo, oo, none⟩ := HOP.out.base (by omega)
          have RL1 : Hid (RL w W0 wr t s ops j us x' _) := hRL
          obtain ⟨c0, c1, c2, c3⟩ := (HOP.out.below hRL.b).cells j hlt
          have hbz : bo < wr.heap.size := Nat.lt_of_lt_of_le (HOP.out.lt (by omega)) hRL.b.size
          have hNz : w.heap.size < wr.heap.size := by have := hRL.z; omega
          obtain ⟨⟨d0, _⟩, ⟨d1, _⟩⟩ := cells2 hRL.bx
          have j0 : (0 : Int) ≤ (j : Int) := Int.natCast_nonneg _
          have j1 : (j : Int) < (ops.length : Int) := by omega
          obtain ⟨S, hS⟩ : ∃ S, S = sRun t s (ops.take j) := ⟨_, rfl⟩
          obtain ⟨o, ho'⟩ : ∃ o, o = opAt ops j := ⟨_, rfl⟩
          obtain ⟨S', hS'⟩ : ∃ S', S' = sStep t S o := ⟨_, rfl⟩
          obtain ⟨r, hr⟩ : ∃ r, r = sRet t S o := ⟨_, rfl⟩
          have HS : Hid (S = sRun t s (ops.take j)) := hS
          have HO : Hid (o = opAt ops j) := ho'
          have HS' : Hid (S' = sStep t S o) := hS'
          have HR : Hid (r = sRet t S o) := hr
          have st := hRL.st
          rw [← hS] at d0 d1 st
          rw [← ho'] at c0 c1 c2 c3
          have DO : Hid (∀ W, Below wr.heap.size wr W → Calls Tryd.prog 56 #[.int .i64 t, .agg #[.slice x'.va S.vals.length x'.vc, .slice x'.pa S.prs.length x'.pc], .agg #[.int .i64 o.kind, .int .i64 o.key, .int .i64 o.val, .int .i64 o.hi]] W fun e w' => ∃ x1 a2 g2 c2, e = .returned (.tuple #[.agg #[.slice x1.va S'.vals.length x1.vc, .slice x1.pa S'.prs.length x1.pc], .agg #[.bool r.ok, .int .i64 r.key, .int .i64 r.val, .slice a2 r.pairs.length c2]]) ∧ Below W.heap.size W w' ∧ StNew w' W.heap.size x1 S' ∧ PairsAt w' a2 g2 0 r.pairs ∧ (r.pairs.length ≠ 0 → W.heap.size ≤ g2) ∧ (a2 = none → c2 = 0)) := fun W hW => by
            have hz := sRun_len t (ops.take j) s
            have hl : (ops.take j).length ≤ ops.length := List.length_take_le' _ _
            have := rdo_any t x' S o W (st.below hW) (by rw [hS]; exact sErr_zero.2 ⟨(sErr_zero.1 HE.out).1, inFm_run _ (sErr_zero.1 HE.out).2⟩) (by rw [ho']; exact KI.out j hlt) (by rw [hS]; omega) (by rw [hS]; omega)
            unfold RdP at this
            rw [← hS', ← hr] at this
            exact this
          have KS : Hid (∀ w', Below wr.heap.size wr w' → (w'.cell? ⟨w.heap.size, 0, none⟩ = some (.slice x'.va S.vals.length x'.vc) ∧ w'.cell? ⟨w.heap.size, 1, none⟩ = some (.slice x'.pa S.prs.length x'.pc) ∧ w'.cell? ⟨bo, oo + j * 4, none⟩ = some (.int .i64 o.kind) ∧ w'.cell? ⟨bo, oo + j * 4 + 1, none⟩ = some (.int .i64 o.key) ∧ w'.cell? ⟨bo, oo + j * 4 + 2, none⟩ = some (.int .i64 o.val) ∧ w'.cell? ⟨bo, oo + j * 4 + 3, none⟩ = some (.int .i64 o.hi))) := fun w' hb => ⟨(hb.cell (p := ⟨_, 0, none⟩) hNz).trans d0, (hb.cell (p := ⟨_, 1, none⟩) hNz).trans d1, (hb.cell (p := ⟨_, _, none⟩) hbz).trans c0, (hb.cell (p := ⟨_, _, none⟩) hbz).trans c1, (hb.cell (p := ⟨_, _, none⟩) hbz).trans c2, (hb.cell (p := ⟨_, _, none⟩) hbz).trans c3⟩
          clear hRL hS ho' hS' hr st
          go_upto_region 13 with fail
          go_cut [13, 14] from 37 to 57 (fun v13 v14 wx => RunB wr S' r v13 v14 wx)
          case first =>
            go_region_held3 (fun w' => w'.cell? ⟨w.heap.size, 0, none⟩ = some (.slice x'.va S.vals.length x'.vc) ∧ w'.cell? ⟨w.heap.size, 1, none⟩ = some (.slice x'.pa S.prs.length x'.pc) ∧ w'.cell? ⟨bo, oo + j * 4, none⟩ = some (.int .i64 o.kind) ∧ w'.cell? ⟨bo, oo + j * 4 + 1, none⟩ = some (.int .i64 o.key) ∧ w'.cell? ⟨bo, oo + j * 4 + 2, none⟩ = some (.int .i64 o.val) ∧ w'.cell? ⟨bo, oo + j * 4 + 3, none⟩ = some (.int .i64 o.hi))
              (first | (refine KS.out _ ?_; (repeat' (first | with_reducible exact Below.refl _ _ | with_reducible exact B1.out | with_reducible refine Below.drew ?_ | with_reducible refine Below.alloc ?_ ?_ _ | with_reducible refine Below.setCell ?_ ?_ _)) <;> (first | (simp; done) | (simp; omega) | (show _ ≤ _; omega))) | fail)
              (first | (go_at_call 56; refine (DO.out _ (by (repeat' (first | with_reducible exact Below.refl _ _ | with_reducible refine Below.drew ?_ | with_reducible refine Below.alloc ?_ ?_ _)) <;> simp)).mono ?_; rintro e w1 ⟨x1, a2, g2, c2, rfl, hb1, hs1, hp1, hlo, hnl⟩; (first | ((with_reducible have K := kb0 (wr := wr) hb1); have B1 : Hid (Below wr.heap.size wr w1) := K.1) | ((with_reducible have K := kbA (wr := wr) hb1); have B1 : Hid (Below wr.heap.size wr w1) := K.1; have z2 := K.2.2.2; first | (obtain ⟨⟨y0, y1⟩, ⟨y2, y3⟩⟩ := cells2 K.2.2.1) | (obtain ⟨⟨y0, y1⟩, ⟨y2, y3⟩, ⟨y4, y5⟩, ⟨y6, y7⟩⟩ := cells4 K.2.2.1)) | ((with_reducible have K := kbAB (wr := wr) hb1); have B1 : Hid (Below wr.heap.size wr w1) := K.1; have z2 := K.2.2.2.2.1; have z3 := K.2.2.2.2.2; first | (obtain ⟨⟨y0, y1⟩, ⟨y2, y3⟩⟩ := cells2 K.2.2.1; obtain ⟨⟨u0, u1⟩, ⟨u2, u3⟩, ⟨u4, u5⟩, ⟨u6, u7⟩⟩ := cells4 K.2.2.2.1) | (obtain ⟨⟨u0, u1⟩, ⟨u2, u3⟩⟩ := cells2 K.2.2.2.1; obtain ⟨⟨y0, y1⟩, ⟨y2, y3⟩, ⟨y4, y5⟩, ⟨y6, y7⟩⟩ := cells4 K.2.2.1))); have hz1 : wr.heap.size ≤ w1.heap.size := B1.out.size; have KK : Hid _ := K; have HS1 : Hid _ := hs1; have HP1 : Hid (_ ∧ _ ∧ _) := ⟨hp1, hlo, hnl⟩; clear K hb1 hs1 hp1 hlo hnl))
            all_goals go_wp2_with fail
            all_goals go_meet
            all_goals first | with_reducible exact runB_1 B1.out HS1.out HP1.out KK.out.2 | with_reducible exact runB_2 B1.out HS1.out HP1.out KK.out.2 | with_reducible exact runB_3 B1.out HS1.out HP1.out KK.out.2.1 KK.out.2.2.2 KK.out.2.2.1 | with_reducible exact runB_5 B1.out HS1.out HP1.out KK.out.2.1 KK.out.2.2.2 KK.out.2.2.1 | with_reducible exact runB_4 B1.out HS1.out HP1.out KK.out.2.1 KK.out.2.2.1 KK.out.2.2.2.1 | with_reducible exact runB_6 B1.out HS1.out HP1.out KK.out.2.1 KK.out.2.2.1 KK.out.2.2.2.1
          case rest =>
            obtain ⟨x1, a2, e2, b13, b14, rfl, rfl, hb, h13, h14, l13, l14, hne, hs1, hp1⟩ := hcut
            have HBC : Hid (Below wr.heap.size wr wc) := hb
            have HS1 : Hid (StNew wc wr.heap.size x1 S') := hs1
            have HP1 : Hid (OwnPM wc wr.heap.size r.pairs (.slice a2 r.pairs.length e2)) := hp1
            have zc := hb.size
            have hbN := (hb.block (w.heap.size) (by omega)).trans RL1.out.bx
            obtain ⟨⟨n0, n1⟩, ⟨n2, n3⟩⟩ := cells2 hbN
            obtain ⟨⟨y0, _⟩, ⟨y1, _⟩⟩ := cells2 h13
            have x1' : b14 ≠ w.heap.size := by omega
            have H14 : Hid _ := h14
            have HN : Hid _ := hbN
            obtain ⟨W5, hW5⟩ : ∃ W5, W5 = (wc.setCell ⟨w.heap.size, 0, none⟩ (.slice x1.va S'.vals.length x1.vc)).setCell ⟨w.heap.size, 1, none⟩ (.slice x1.pa S'.prs.length x1.pc) := ⟨_, rfl⟩
            have H5 : Hid (∀ k, k ≠ w.heap.size → W5.heap[k]? = wc.heap[k]?) := fun k hk => by rw [hW5]; exact heap_two _ hk _ _ _ _
            have z5 : W5.heap.size = wc.heap.size := by rw [hW5]; simp
            have R5 : Hid (W5.heap[w.heap.size]? = some (.cells #[.slice x1.va S'.vals.length x1.vc, .slice x1.pa S'.prs.length x1.pc] 25)) := by show W5.heap[_]? = _; rw [hW5]; exact set2_at HN.out _ _
            obtain ⟨⟨u0, _⟩, ⟨u1, _⟩, ⟨u2, _⟩, ⟨u3, _⟩⟩ := cells4 ((H5.out b14 x1').trans h14)
            have SM5 : Hid (Sam wc W5) := by show Sam wc W5; rw [hW5]; exact ⟨rfl, rfl, rfl⟩
            have hW0z := RL1.out.z
            have KW : Hid (∀ k, W0.heap.size ≤ k → k < wr.heap.size → W5.heap[k]? = wr.heap[k]?) := fun k h1 h2 => (H5.out k (by omega)).trans (HBC.out.block k h2)
            have O5 : Hid (W5.ownsRow W0.heap.size 45 4 _ j (retsC (sRets t s (ops.take j)) us)) := owns_keptB RL1.out.own KW.out
            have M5 : Hid (RetsM W5 W0.heap.size _ (sRets t s (ops.take j)) us) := RL1.out.rm.keptB (by omega) KW.out
            have OL : Hid (∀ k, Value.ownBlock _ = some k → W0.heap.size ≤ k ∧ k < wr.heap.size) := owns_ltM RL1.out.own
            have S5 : Hid (StNew W5 wr.heap.size x1 S') := HS1.out.high (by omega) (fun k h1 _ => H5.out k (by omega))
            have P5 : Hid (OwnPM W5 wr.heap.size r.pairs (.slice a2 r.pairs.length e2)) := HP1.out.hig ⟨by omega, fun k h1 _ => H5.out k (by omega)⟩
            have B5 : Hid (Below w.heap.size w W5) := by
              show Below _ _ _
              have hbw := RL1.out.b.trans (HBC.out.mono RL1.out.b.size)
              exact ⟨SM5.out.1.trans hbw.os, SM5.out.2.1.trans hbw.tape, SM5.out.2.2.trans hbw.output, by have := hbw.size; omega, fun k hk => (H5.out k (by omega)).trans (hbw.block k hk)⟩
            have Q5 : Hid (W5.heap[w.heap.size + 1]? = some cS0) := (H5.out _ (by omega)).trans ((HBC.out.block _ (by omega)).trans RL1.out.rx)
            have Z5 : Hid (W5.heap.size = wc.heap.size) := z5
            have q1 : j + 1 ≤ maxLen := by unfold maxLen; omega
            have q2 : (j + 1) * 48 ≤ 140737488355328 := by omega
            have NS : Hid (sRun t s (ops.take (j + 1)) = S') := by show _ = _; rw [sRun_next hlt, ← HS.out, ← HO.out, HS'.out]
            have NR : Hid (sRets t s (ops.take (j + 1)) = sRets t s (ops.take j) ++ [r]) := by show _ = _; rw [sRets_next hlt, ← HS.out, ← HO.out, HR.out]
            have hzW : wr.heap.size ≤ W5.heap.size := by omega
            have Z0 : Hid (W0.heap.size = w.heap.size + 2) := z0
            have LR : Hid ((sRets t s (ops.take j)).length = j) := by show _ = _; rw [sRets_length, List.length_take]; omega
            clear hb hs1 hp1 hbN h13 h14 DO KS
            go_upto_region 15 with fail
            rw [← hW5]
            clear hW5 n0 n1 n2 n3 y0 y1 z5 z0 SM5
            go_wp2_with (first | (at_builtin; go_loud (refine wpList_append_lies _ (by rfl) _ _ _ (by rfl) W0.heap.size 45 r0 _ 4 48 rts_under hr0 hy0 hy1 hy2 rfl (by omega) _ j _ (by rfl) (O5.out.alloc _) ⟨W5.heap.size, 0, none⟩ 1 1 [.bool r.ok, .int .i64 r.key, .int .i64 r.val, .slice a2 r.pairs.length e2] (by rfl) (by rfl) (World.news_of_block (cs := #[.bool r.ok, .int .i64 r.key, .int .i64 r.val, .slice a2 r.pairs.length e2]) (t := 45) (fr := (0, 0)) (heap_alloc_at _ _ _ rfl)) (by simp [Value.oneCell']) Nat.one_pos q1 q2 (by simp; omega) (W5.heap.size + 1) (by simp) ?_); intro gg cap w5 hown5 hgrow hat hlt5))
            have hz5 := hgrow.size
            rw [World.size_alloc] at hz5
            have old : ∀ k, k < W5.heap.size → (∀ b, Value.ownBlock u11 = some b → b ≠ k) → w5.heap[k]? = W5.heap[k]? := fun k h1 h2 => (hgrow.block k (by simp; omega) (fun q => h2 k q.symm rfl)).trans (heap_alloc_old _ _ h1)
            have nw : ∀ k, wr.heap.size ≤ k → k < W5.heap.size → w5.heap[k]? = W5.heap[k]? := fun k h1 h2 => old k h2 (fun b hb => by have := (OL.out b hb).2; omega)
            refine ⟨⟨j + 1, us ++ [.slice a2 r.pairs.length e2], x1, by omega, by go_num, ?_⟩, by simp [intOf]; omega⟩
            have NS' := NS.out
            have z0' := Z0.out
            refine ⟨Below.grown (B5.out.alloc B5.out.size _) hgrow (Nat.le_trans B5.out.size (by simp)) (fun k hk => by have := (OL.out k hk).1; have := B0.out.size; omega), by omega, ?_, ?_, ?_, ?_, ?_, ?_, ?_, ?_⟩
            · rw [NS']
              exact (old _ (by omega) (fun b hb => by have := (OL.out b hb).1; have := B0.out.size; omega)).trans R5.out
            · exact (old _ (by omega) (fun b hb => by have := (OL.out b hb).1; omega)).trans Q5.out
            · rw [NS']
              exact (S5.out.high (by omega) nw).at_
            · rw [NS']
              intro q
              exact .inr (Nat.le_trans hW0z (S5.out.vB q))
            · rw [NS']
              intro q
              exact .inr (Nat.le_trans hW0z (S5.out.pB q))
            · rw [NR.out]
              exact (M5.out.below (below_alloc _ _)).snoc hgrow (fun k hk => by cases hk; rcases hat with q | q; exact Or.inl q; exact Or.inr (by simp; omega)) (P5.out.below (below_alloc _ _)) hW0z (fun k hk => (OL.out k hk).2)
            · rw [NR.out, retsC_snoc _ _ _ _ M5.out.len]
              exact hown5
            · rw [NS']
              exact fun _ => (S5.out.high (by omega) nw).down hW0z
        · have hje : j = ops.length := by omega
          have LR : (sRets t s ops).length = ops.length := sRets_length _ _ _
          have EQ : Hid (ops.take j = ops) := by show ops.take j = ops; rw [hje, List.take_length]
          have RL1 : Hid (RL w W0 wr t s ops j us x' _) := hRL
          have HO2 := hRL.own
          have HM2 := hRL.rm
          have hbx := hRL.bx
          have hst := hRL.st
          have hpN := hRL.pN
          have hvN := hRL.vN
          rw [EQ.out] at HO2 HM2 hbx hst hpN hvN
          rw [show j = (sRets t s ops).length by omega] at HO2
          have B9 : Hid (Below w.heap.size w wr) := hRL.b
          have hz9 := hRL.z
          have O9 : Hid (wr.ownsRow W0.heap.size 45 4 u11 (sRets t s ops).length (retsC (sRets t s ops) us)) := HO2
          have M9 : Hid (RetsM wr W0.heap.size (Value.ownBlock u11) (sRets t s ops) us) := HM2
          have S9 : Hid (StAt wr x' (sRun t s ops)) := hst
          have NW9 : Hid (ops.length ≠ 0 → StNew wr W0.heap.size x' (sRun t s ops)) := fun q => by have := hRL.nw (by omega); rw [EQ.out] at this; exact this
          have N9 : Hid (((sRun t s ops).vals.length ≠ 0 → x'.vg < w.heap.size ∨ W0.heap.size ≤ x'.vg) ∧ ((sRun t s ops).prs.length ≠ 0 → x'.pg < w.heap.size ∨ W0.heap.size ≤ x'.pg)) := ⟨hvN, hpN⟩
          obtain ⟨⟨d0, _⟩, ⟨d1, _⟩⟩ := cells2 hbx
          obtain ⟨⟨p0, p1⟩, ⟨p2, p3⟩⟩ := cells2 hRL.rx
          have x4 : w.heap.size + 1 < wr.heap.size := by omega
          have Z0 : Hid (W0.heap.size = w.heap.size + 2) := z0
          have LM : Hid ((sRets t s ops).length ≤ maxLen) := by show _ ≤ _; rw [LR]; exact HOP.out.len
          clear hRL HO2 HM2 hbx hst hpN hvN hje LR z0 RL1
          go_wp2_with fail
          have keep : ∀ k, k ≠ w.heap.size + 1 → ((wr.setCell ⟨w.heap.size + 1, 0, none⟩ (.slice x'.va (sRun t s ops).vals.length x'.vc)).setCell ⟨w.heap.size + 1, 1, none⟩ (.slice x'.pa (sRun t s ops).prs.length x'.pc)).heap[k]? = wr.heap[k]? := fun k hk => heap_two _ hk _ _ _ _
          have z0' := Z0.out
          have OF := owns_keptB O9.out (fun k h1 _ => keep k (by omega))
          have MF := M9.out.keptB (w' := ((wr.setCell ⟨w.heap.size + 1, 0, none⟩ (.slice x'.va (sRun t s ops).vals.length x'.vc)).setCell ⟨w.heap.size + 1, 1, none⟩ (.slice x'.pa (sRun t s ops).prs.length x'.pc))) (by simp) (fun k h1 _ => keep k (by omega))
          obtain ⟨ra, rc, rg, hv', hrt⟩ := rets_of_owns (owns_keptB O9.out (fun k h1 _ => keep k (by omega))) (M9.out.keptB (by simp) (fun k h1 _ => keep k (by omega))) LM.out
          subst hv'
          obtain ⟨hlow, hlo2⟩ := rets_low7 OF MF hrt
          refine bodyPost_ret (v := .tuple #[.agg #[.slice x'.va (sRun t s ops).vals.length x'.vc, .slice x'.pa (sRun t s ops).prs.length x'.pc], .slice ra (sRets t s ops).length rc, .int .i64 0]) ?_ rfl ⟨x', ra, rg, rc, rfl, ?_, ?_, hrt, LowZ.down hlow (by omega), fun q => ((NW9.out q).high (by simp) (fun k h1 _ => keep k (by omega))).down (by omega), fun q => Nat.le_trans (by omega) (hlo2 q)⟩
          · rw [results_ctt rfl]; go_simp
          · exact (B9.out.setCell (p := ⟨w.heap.size + 1, 0, none⟩) (show w.heap.size ≤ w.heap.size + 1 by omega) _).setCell (p := ⟨w.heap.size + 1, 1, none⟩) (show w.heap.size ≤ w.heap.size + 1 by omega) _
          · refine S9.out.same (by simp) (fun q => keep _ ?_) (fun q => keep _ ?_)
            · have := N9.out.1 q; omega
            · have := N9.out.2 q; omega
end Go.Proofs.YtcphajjonecmbaaDoor

namespace Go.Proofs.YtcphajjonecmbaaDoor

open Go.RowKit Go.Deep

attribute [local go_sem ↓] Go.wp_at_zero Go.wp_at_succ

set_option maxRecDepth 100000 in
set_option maxHeartbeats 4000000 in
theorem rRun7_bad (t : Int) (x : SX) (s : SD) (ob : Option Addr) (bo oo co : Nat) (ops : List OpD) (w : World) (h : StAt w x s) (hop : OpsAt w ob bo oo ops) (hE : rnErr t s ops ≠ 0) :
    Calls Tryd.prog 15 #[.int .i64 t, x.v s, .slice ob ops.length co] w fun e w' => e = .returned (.tuple #[.agg #[.slice none 0 0, .slice none 0 0], .slice none 0 0, .int .i64 (rnErr t s ops)]) ∧ Below w.heap.size w w' := by
  have lO := hop.len
  unfold maxLen at lO
  have HOP : Hid (OpsAt w ob bo oo ops) := hop
  obtain ⟨W0, hW0⟩ : ∃ W0, W0 = (w.alloc (.cells #[.slice x.va s.vals.length x.vc, .slice x.pa s.prs.length x.pc] 25)).alloc (.cells #[.slice none 0 0, .slice none 0 0] 25) := ⟨_, rfl⟩
  have B0 : Hid (Below w.heap.size w W0) := by show Below _ _ _; rw [hW0]; exact two_blocks _ _ _ _ _
  have z0 : W0.heap.size = w.heap.size + 2 := by rw [hW0]; simp
  have R0 : Hid (W0.heap[w.heap.size]? = some (.cells #[.slice x.va s.vals.length x.vc, .slice x.pa s.prs.length x.pc] 25)) := by
    show W0.heap[w.heap.size]? = _
    rw [hW0]; exact (heap_alloc_old _ _ (by simp)).trans (heap_alloc_at _ _ _ rfl)
  have R1 : Hid (W0.heap[w.heap.size + 1]? = some cS0) := by
    show W0.heap[w.heap.size + 1]? = _
    rw [hW0]; exact heap_alloc_at _ _ _ (by simp)
  have CK : Hid (Calls Tryd.prog 14 #[.int .i64 t, .agg #[.slice x.va s.vals.length x.vc, .slice x.pa s.prs.length x.pc]] W0 fun e w' => e = .returned (.int .i64 (sErr t s)) ∧ Below W0.heap.size W0 w') := rcheck7_any t x s W0 (h.below B0.out)
  obtain ⟨⟨a0, _⟩, ⟨a1, _⟩⟩ := cells2 R0.out
  unfold SX.v
  have FIN : Hid (∀ wc, Below W0.heap.size W0 wc → Below w.heap.size w ((wc.setCell ⟨w.heap.size + 1, 0, none⟩ (.slice none 0 0)).setCell ⟨w.heap.size + 1, 1, none⟩ (.slice none 0 0))) := fun wc hb => ((B0.out.trans (hb.mono B0.out.size)).setCell (p := ⟨w.heap.size + 1, 0, none⟩) (show w.heap.size ≤ w.heap.size + 1 by omega) _).setCell (p := ⟨w.heap.size + 1, 1, none⟩) (show w.heap.size ≤ w.heap.size + 1 by omega) _
  by_cases he : sErr t s = 0
  · have hk : ksN t ops ≠ true := fun q => hE (rnErr_zero.2 ⟨he, q⟩)
    have E5 : rnErr t s ops = 5 := by unfold rnErr; rw [if_pos he, if_neg hk]
    have HK : Hid (ksN t ops ≠ true) := hk
    rw [E5]
    rw [he] at CK
    clear h hop he hE hk E5
    go_enter Tryd.func15, Tryd.ntmps15
    go_upto_region 1 with fail
    rw [← hW0]
    clear hW0
    go_wp2_with (first | (go_at_call 14; refine CK.out.mono ?_; rintro e w1 ⟨rfl, hb1⟩; have B1 : Hid (Below W0.heap.size W0 w1) := hb1; have z1 := hb1.size; obtain ⟨⟨p0, p1⟩, ⟨p2, p3⟩⟩ := cells2 ((hb1.block _ (by omega)).trans R1.out); clear hb1))
    have x4 : w.heap.size + 1 < w1.heap.size := by omega
    go_loopw [10] (fun i wr => ∃ j : Nat, j ≤ ops.length ∧ i = .int .i64 j ∧ (∀ k, k < j → kOk t (opAt ops k).kind = true) ∧ w1 = wr) (fun i _ => ops.length - (intOf i).toNat)
    case atStart => exact ⟨0, Nat.zero_le _, rfl, fun k q => by omega, rfl⟩
    case round =>
      obtain ⟨j, hj, rfl, hall, rfl⟩ := hrel
      have HAL : Hid (∀ k, k < j → kOk t (opAt ops k).kind = true) := hall
      clear hall
      by_cases hlt : j < ops.length
      · obtain rfl : ob = some ⟨bo, oo, none⟩ := HOP.out.base (by omega)
        obtain ⟨c0, _, _, _⟩ := (HOP.out.below (B0.out.trans (B1.out.mono B0.out.size))).cells j hlt
        have j0 : (0 : Int) ≤ (j : Int) := Int.natCast_nonneg _
        have j1 : (j : Int) < (ops.length : Int) := by omega
        have KK : Hid (Calls Tryd.prog 55 #[.int .i64 t, .int .i64 (opAt ops j).kind] w1 fun e w' => e = .returned (.bool (kOk t (opAt ops j).kind)) ∧ w1 = w') := rkind7_any t (opAt ops j).kind w1
        cases hF : kOk t (opAt ops j).kind with
        | true =>
          rw [hF] at KK
          have NX : Hid (∀ k, k < j + 1 → kOk t (opAt ops k).kind = true) := fun k hk => by
            by_cases e : k = j
            · subst e; exact hF
            · exact HAL.out k (by omega)
          clear hF
          go_wp2_with (first | (go_at_call 55; refine KK.out.mono ?_; rintro e w2 ⟨rfl, rfl⟩))
          exact ⟨⟨j + 1, by omega, by go_num, NX.out, trivial⟩, by simp [intOf]; omega⟩
        | false =>
          rw [hF] at KK
          clear hF
          go_wp2_with (first | (go_at_call 55; refine KK.out.mono ?_; rintro e w2 ⟨rfl, rfl⟩))
          refine bodyPost_ret (v := .tuple #[.agg #[.slice none 0 0, .slice none 0 0], .slice none 0 0, .int .i64 5]) ?_ rfl ⟨rfl, FIN.out _ B1.out⟩
          rw [results_ctt rfl]; go_simp
      · exact absurd (ksN_iff.2 (fun i hi => HAL.out i (by omega))) HK.out
  · have E5 : rnErr t s ops = sErr t s := by unfold rnErr; rw [if_neg he]
    rw [E5]
    have q1 : (sErr t s != 0) = true := by simp [he]
    generalize sErr t s = E at *
    clear h hop he hE E5
    go_enter Tryd.func15, Tryd.ntmps15
    go_upto_region 1 with fail
    rw [← hW0]
    clear hW0
    go_wp2_with (first | (go_at_call 14; refine CK.out.mono ?_; rintro e w1 ⟨rfl, hb1⟩; have B1 : Hid (Below W0.heap.size W0 w1) := hb1; have z1 := hb1.size; obtain ⟨⟨p0, p1⟩, ⟨p2, p3⟩⟩ := cells2 ((hb1.block _ (by omega)).trans R1.out); have x4 : w.heap.size + 1 < w1.heap.size := (by omega); clear hb1))
    refine bodyPost_ret (v := .tuple #[.agg #[.slice none 0 0, .slice none 0 0], .slice none 0 0, .int .i64 E]) ?_ rfl ⟨rfl, FIN.out _ B1.out⟩
    rw [results_ctt rfl]; go_simp
theorem StAt.zero (w : World) : StAt w ⟨none, 0, 0, 0, none, 0, 0, 0⟩ SD.zero := (StNew.zero w 0).at_
theorem rRun7_any (t : Int) (x : SX) (s : SD) (ob : Option Addr) (bo oo co : Nat) (ops : List OpD) (w : World) (h : StAt w x s) (hop : OpsAt w ob bo oo ops) (hv : s.vals.length ≤ 100000000) (hp : s.prs.length ≤ 100000000) (ho : ops.length ≤ 100000000) :
    Calls Tryd.prog 15 #[.int .i64 t, x.v s, .slice ob ops.length co] w (RRunP t s ops w) := by
  by_cases hE : rnErr t s ops = 0
  · exact rRun7_ok t x s ob bo oo co ops w h hop (rnErr_zero.1 hE).1 (rnErr_zero.1 hE).2 hv hp ho
  · refine (rRun7_bad t x s ob bo oo co ops w h hop hE).mono ?_
    rintro e w' ⟨rfl, hb⟩
    have EL : sRunD t s ops = SD.zero := if_neg hE
    have ER : sRetsD t s ops = [] := if_neg hE
    refine ⟨⟨none, 0, 0, 0, none, 0, 0, 0⟩, none, 0, 0, ?_, hb, ?_, ?_, ?_, ?_, ?_⟩
    · rw [EL, ER]; rfl
    · rw [EL]; exact StAt.zero _
    · rw [ER]; exact RetsAtM.empty _ _ _ _
    · rw [ER]; exact fun i hi => by simp at hi
    · rw [EL]; exact fun _ => StNew.zero _ _
    · rw [ER]; exact fun q => absurd rfl q
/-- What the document's Do leaves. -/
def RDoP (t : Int) (s : SD) (o : OpD) (w : World) (e : Ending) (w' : World) : Prop :=
  ∃ x a2 g2 p2 c2, e = .returned (.tuple #[x.v (sRunD t s [o]), .agg #[.bool (sDoR t s o).ok, .int .i64 (sDoR t s o).key, .int .i64 (sDoR t s o).val, .slice a2 (sDoR t s o).pairs.length c2], .int .i64 (rnErr t s [o])]) ∧ Below w.heap.size w w' ∧ StAt w' x (sRunD t s [o]) ∧ PairsAt w' a2 g2 p2 (sDoR t s o).pairs
set_option maxRecDepth 100000 in
set_option maxHeartbeats 4000000 in
theorem rDo7_any (t : Int) (x : SX) (s : SD) (o : OpD) (w : World) (h : StAt w x s) (hv : s.vals.length ≤ 100000000) (hp : s.prs.length ≤ 100000000) :
    Calls Tryd.prog 20 #[.int .i64 t, x.v s, .agg #[.int .i64 o.kind, .int .i64 o.key, .int .i64 o.val, .int .i64 o.hi]] w (RDoP t s o w) := by
  obtain ⟨W0, hW0, BX⟩ := bx7 w x s o
  have HX : Hid (Bx7 w W0 x s o) := BX
  have z0 := BX.z
  obtain ⟨⟨a0, _⟩, ⟨a1, _⟩⟩ := cells2 BX.r0
  obtain ⟨⟨b0, _⟩, ⟨b1, _⟩, ⟨b2, _⟩, ⟨b3, _⟩⟩ := cells4 BX.r1
  have BA : Hid (Below W0.heap.size W0 (W0.alloc (.cells #[.int .i64 o.kind, .int .i64 o.key, .int .i64 o.val, .int .i64 o.hi] 43))) := below_alloc _ _
  have OPA : OpsAt (W0.alloc (.cells #[.int .i64 o.kind, .int .i64 o.key, .int .i64 o.val, .int .i64 o.hi] 43)) (some ⟨W0.heap.size, 0, none⟩) W0.heap.size 0 [o] := ops_one7 (heap_alloc_at _ _ _ rfl)
  have RN := rRun7_any t x s _ _ 0 1 [o] _ ((h.below BX.b).below BA.out) OPA hv hp (by simp)
  unfold RRunP at RN
  unfold RDoP
  unfold SX.v
  by_cases hE : rnErr t s [o] = 0
  · have EL : sRunD t s [o] = sStep t s o := if_pos hE
    have ER : sRetsD t s [o] = [sRet t s o] := if_pos hE
    have ED : sDoR t s o = sRet t s o := if_pos hE
    rw [hE, EL, ER] at RN
    rw [hE, EL, ED]
    obtain ⟨S, hS⟩ : ∃ S, S = sStep t s o := ⟨_, rfl⟩
    obtain ⟨r, hr⟩ : ∃ r, r = sRet t s o := ⟨_, rfl⟩
    rw [← hS, ← hr] at RN
    rw [← hS, ← hr]
    have RU : Hid (Calls Tryd.prog 15 #[.int .i64 t, .agg #[.slice x.va s.vals.length x.vc, .slice x.pa s.prs.length x.pc], .slice (some ⟨w.heap.size + 4, 0, none⟩) 1 1] (W0.alloc (.cells #[.int .i64 o.kind, .int .i64 o.key, .int .i64 o.val, .int .i64 o.hi] 43)) fun e w' => ∃ y rg rk pa pg po pc, e = .returned (.tuple #[.agg #[.slice y.va S.vals.length y.vc, .slice y.pa S.prs.length y.pc], .slice (some ⟨rg, 0, none⟩) 1 rk, .int .i64 0]) ∧ Below W0.heap.size W0 w' ∧ StNew w' W0.heap.size y S ∧ rg < w'.heap.size ∧ W0.heap.size ≤ rg ∧ w'.cell? ⟨rg, 0, none⟩ = some (.bool r.ok) ∧ w'.cell? ⟨rg, 1, none⟩ = some (.int .i64 r.key) ∧ w'.cell? ⟨rg, 2, none⟩ = some (.int .i64 r.val) ∧ w'.cell? ⟨rg, 3, none⟩ = some (.slice pa r.pairs.length pc) ∧ PairsAt w' pa pg po r.pairs ∧ (r.pairs.length ≠ 0 → W0.heap.size ≤ pg)) := by
      show Calls _ _ _ _ _
      rw [← z0]
      refine RN.mono ?_
      rintro e w' ⟨y, ra, rg, rk, rfl, hb2, hs2, hr2, hlz2, hsn, hrz2⟩
      obtain ⟨pa, pg, po, pc, rfl, hl, c0, c1, c2, c3, hpp⟩ := hr2.one
      have hzz := BA.out.size
      refine ⟨y, rg, rk, pa, pg, po, pc, rfl, BA.out.trans (hb2.mono hzz), (hsn (by simp)).down hzz, hl, Nat.le_trans hzz (hrz2 (by simp)), c0, c1, c2, c3, hpp, fun hn => ?_⟩
      obtain ⟨k, p, e, hk⟩ := hlz2 0 (by simp) pa _ pc c3 hn
      have := hpp.base hn
      rw [e] at this
      injection this with this
      injection this with this _ _
      omega
    clear RN h BX hE EL ER ED OPA hS hr BA
    go_enter Tryd.func20, Tryd.ntmps20
    go_upto_region 1 with fail
    rw [← hW0]
    clear hW0
    go_wp2_with (first | (go_at_call 15; refine RU.out.mono ?_; rintro e w1 ⟨y, rg, rk, pa, pg, po, pc, rfl, hb1, hs1, hl, hrl, c0, c1, c2, c3, hpp, hlo⟩; have B1 : Hid (Below W0.heap.size W0 w1) := hb1; have S1 : Hid (StNew w1 W0.heap.size y S) := hs1; have P1 : Hid (PairsAt w1 pa pg po r.pairs ∧ (r.pairs.length ≠ 0 → W0.heap.size ≤ pg)) := ⟨hpp, hlo⟩; have z1 := hb1.size; have x3 : w.heap.size + 1 + 1 < w1.heap.size := (by omega); have x4 : w.heap.size + 1 + 1 + 1 < w1.heap.size := (by omega); have x5 : rg ≠ w.heap.size + 1 + 1 := (by omega); have x6 : rg ≠ w.heap.size + 1 + 1 + 1 := (by omega); have x7 : rg ≠ w1.heap.size := (by omega); have G2 := (hb1.block (w.heap.size + 1 + 1) (by omega)).trans HX.out.r2; have G3 := (hb1.block (w.heap.size + 1 + 1 + 1) (by omega)).trans HX.out.r3; obtain ⟨⟨p0, p1⟩, ⟨p2, p3⟩⟩ := cells2 G2; obtain ⟨⟨s0, s1⟩, ⟨s2, s3⟩, ⟨s4, s5⟩, ⟨s6, s7⟩⟩ := cells4 G3; clear hb1 hs1 hpp hlo G2 G3))
    go_region
    go_wp2_with fail
    have BW : Below w.heap.size w w1 := HX.out.b.trans (B1.out.mono (by omega))
    refine bodyPost_ret (v := .tuple #[.agg #[.slice y.va S.vals.length y.vc, .slice y.pa S.prs.length y.pc], .agg #[.bool r.ok, .int .i64 r.key, .int .i64 r.val, .slice pa r.pairs.length pc], .int .i64 0]) ?_ rfl ⟨y, pa, pg, po, pc, rfl, ?_, ?_, ?_⟩
    · rw [results_cct rfl]; go_simp
    · exact ((below_six BW (by omega) (by omega) _ _ _ _ _ _).alloc (by simp; omega) _).drew
    · refine (S1.out.high (B := W0.heap.size) (by simp) (fun k hk hl => ?_)).at_
      show (World.alloc _ _).heap[k]? = _
      rw [heap_alloc_old _ _ (by simpa using hl), heap_four _ (by omega), heap_two _ (by omega)]
    · refine P1.out.1.high (B := W0.heap.size) (by simp) (fun k hk hl => ?_) P1.out.2
      show (World.alloc _ _).heap[k]? = _
      rw [heap_alloc_old _ _ (by simpa using hl), heap_four _ (by omega), heap_two _ (by omega)]
  · have EL : sRunD t s [o] = SD.zero := if_neg hE
    have ER : sRetsD t s [o] = [] := if_neg hE
    have ED : sDoR t s o = RetD.zero := if_neg hE
    rw [EL, ER] at RN
    rw [EL, ED]
    obtain ⟨E, hE'⟩ : ∃ E, E = rnErr t s [o] := ⟨_, rfl⟩
    rw [← hE'] at RN hE ⊢
    have q1 : (E != 0) = true := by simp [hE]
    have RU : Hid (Calls Tryd.prog 15 #[.int .i64 t, .agg #[.slice x.va s.vals.length x.vc, .slice x.pa s.prs.length x.pc], .slice (some ⟨w.heap.size + 4, 0, none⟩) 1 1] (W0.alloc (.cells #[.int .i64 o.kind, .int .i64 o.key, .int .i64 o.val, .int .i64 o.hi] 43)) fun e w' => ∃ va vc pa pc ra rk, e = .returned (.tuple #[.agg #[.slice va 0 vc, .slice pa 0 pc], .slice ra 0 rk, .int .i64 E]) ∧ Below W0.heap.size W0 w') := by
      show Calls _ _ _ _ _
      rw [← z0]
      refine RN.mono ?_
      rintro e w' ⟨y, ra, rg, rk, rfl, hb2, -⟩
      exact ⟨_, _, _, _, _, _, rfl, BA.out.trans (hb2.mono BA.out.size)⟩
    clear RN h BX hE EL ER ED OPA hE' BA
    go_enter Tryd.func20, Tryd.ntmps20
    go_upto_region 1 with fail
    rw [← hW0]
    clear hW0
    go_wp2_with (first | (go_at_call 15; refine RU.out.mono ?_; rintro e w1 ⟨va, vc, pa, pc, ra, rk, rfl, hb1⟩; have B1 : Hid (Below W0.heap.size W0 w1) := hb1; have z1 := hb1.size; have x3 : w.heap.size + 1 + 1 < w1.heap.size := (by omega); have x4 : w.heap.size + 1 + 1 + 1 < w1.heap.size := (by omega); have G2 := (hb1.block (w.heap.size + 1 + 1) (by omega)).trans HX.out.r2; have G3 := (hb1.block (w.heap.size + 1 + 1 + 1) (by omega)).trans HX.out.r3; obtain ⟨⟨p0, p1⟩, ⟨p2, p3⟩⟩ := cells2 G2; obtain ⟨⟨s0, s1⟩, ⟨s2, s3⟩, ⟨s4, s5⟩, ⟨s6, s7⟩⟩ := cells4 G3; clear hb1 G2 G3))
    have BW : Below w.heap.size w w1 := HX.out.b.trans (B1.out.mono (by omega))
    refine bodyPost_ret (v := .tuple #[.agg #[.slice none 0 0, .slice none 0 0], .agg #[.bool false, .int .i64 0, .int .i64 0, .slice none 0 0], .int .i64 E]) ?_ rfl ⟨⟨none, 0, 0, 0, none, 0, 0, 0⟩, none, 0, 0, 0, rfl, ?_, StAt.zero _, pairs_empty _ _ _ _⟩
    · rw [results_cct rfl]; go_simp
    · exact (below_six BW (by omega) (by omega) _ _ _ _ _ _).alloc (by simp; omega) _
end Go.Proofs.YtcphajjonecmbaaDoor


namespace Go.Proofs.YtcphajjonecmbaaDoor

open Go.RowKit Go.Deep

attribute [local go_sem ↓] Go.wp_at_zero Go.wp_at_succ

set_option maxRecDepth 100000 in
theorem to_any (x : SX) (s : SD) (w : World) : Calls Tryd.prog 13 #[.agg #[.slice x.va s.vals.length x.vc, .slice x.pa s.prs.length x.pc]] w fun e w' => e = .returned (.agg #[.slice x.va s.vals.length x.vc, .slice x.pa s.prs.length x.pc]) ∧ Below w.heap.size w w' := by
  generalize s.vals.length = n
  generalize s.prs.length = m
  go_enter Tryd.func13, Tryd.ntmps13
  go_wp2_with fail
  refine bodyPost_ret (v := .agg #[.slice x.va n x.vc, .slice x.pa m x.pc]) ?_ rfl ⟨rfl, two_blocks _ _ _ _ _⟩
  rw [results_cell1 rfl]; go_simp
set_option maxRecDepth 100000 in
theorem from_any (x : SX) (s : SD) (w : World) : Calls Tryd.prog 18 #[.agg #[.slice x.va s.vals.length x.vc, .slice x.pa s.prs.length x.pc]] w fun e w' => e = .returned (.agg #[.slice x.va s.vals.length x.vc, .slice x.pa s.prs.length x.pc]) ∧ Below w.heap.size w w' := by
  generalize s.vals.length = n
  generalize s.prs.length = m
  go_enter Tryd.func18, Tryd.ntmps18
  go_wp2_with fail
  refine bodyPost_ret (v := .agg #[.slice x.va n x.vc, .slice x.pa m x.pc]) ?_ rfl ⟨rfl, two_blocks _ _ _ _ _⟩
  rw [results_cell1 rfl]; go_simp
theorem plain7_any (a : Int) (w : World) : Calls Tryd.prog 11 #[.int .i64 a, .int .i64 a] w fun e w' => e = .returned (.bool true) ∧ Below w.heap.size w w' := by
  go_enter Tryd.func11, Tryd.ntmps11
  go_wp2_with fail
  go_ret
  exact ⟨by simp, Below.refl _ _⟩
/-- A state's and an answer's boxes behind a call. -/
def BoxB (wr : World) (T : TypeId) (S : SD) (r : RetD) (v13 v14 : Value) (wx : World) : Prop :=
  ∃ (x' : SX) (a2 : Option Addr) (c2 b13 b14 : Nat), v13 = .pointer (some ⟨b13, 0, none⟩) ∧ v14 = .pointer (some ⟨b14, 0, none⟩) ∧ Below wr.heap.size wr wx ∧
    wx.heap[b13]? = some (.cells #[.slice x'.va S.vals.length x'.vc, .slice x'.pa S.prs.length x'.pc] T) ∧ wx.heap[b14]? = some (.cells #[.bool r.ok, .int .i64 r.key, .int .i64 r.val, .slice a2 r.pairs.length c2] 45) ∧ StAt wx x' S ∧ ∃ g p, PairsAt wx a2 g p r.pairs
theorem BoxB.fin {wr w2 F : World} {T : TypeId} {Bz b13 b14 c2 g2 p2 : Nat} {S : SD} {r : RetD} {x' : SX} {a2 : Option Addr} (hs : StNew w2 Bz x' S) (hp : PairsAt w2 a2 g2 p2 r.pairs ∧ (r.pairs.length ≠ 0 → Bz ≤ g2)) (hb : Below wr.heap.size wr F) (h13 : F.heap[b13]? = some (.cells #[.slice x'.va S.vals.length x'.vc, .slice x'.pa S.prs.length x'.pc] T)) (h14 : F.heap[b14]? = some (.cells #[.bool r.ok, .int .i64 r.key, .int .i64 r.val, .slice a2 r.pairs.length c2] 45)) (hh : Hig Bz w2 F) :
    BoxB wr T S r (.pointer (some ⟨b13, 0, none⟩)) (.pointer (some ⟨b14, 0, none⟩)) F :=
  ⟨x', a2, c2, b13, b14, rfl, rfl, hb, h13, h14, (hs.hig hh).at_, g2, p2, hp.1.high hh.1 hh.2 hp.2⟩
section

variable {wr w2 : World} {T : TypeId} {Bz c2 g2 p2 : Nat} {S : SD} {r : RetD} {x' : SX} {a2 : Option Addr} (B1 : Below wr.heap.size wr w2) (hs : StNew w2 Bz x' S) (hp : PairsAt w2 a2 g2 p2 r.pairs ∧ (r.pairs.length ≠ 0 → Bz ≤ g2))

include B1 hs hp

theorem boxB_1 : BoxB wr T S r (.pointer (some ⟨w2.heap.size, 0, none⟩)) (.pointer (some ⟨w2.heap.size + 1, 0, none⟩)) ((w2.alloc (.cells #[.slice x'.va S.vals.length x'.vc, .slice x'.pa S.prs.length x'.pc] T)).alloc (.cells #[.bool r.ok, .int .i64 r.key, .int .i64 r.val, .slice a2 r.pairs.length c2] 45)) := by
  have hs1 := B1.size
  exact BoxB.fin hs hp ((B1.alloc hs1 _).alloc (by simp; omega) _) ((heap_alloc_old _ _ (by simp)).trans (heap_alloc_at _ _ _ rfl)) (heap_alloc_at _ _ _ (by simp)) (((Hig.refl _ _).alloc _).alloc _)
theorem boxB_2 : BoxB wr T S r (.pointer (some ⟨w2.heap.size + 1, 0, none⟩)) (.pointer (some ⟨w2.heap.size, 0, none⟩)) ((w2.alloc (.cells #[.bool r.ok, .int .i64 r.key, .int .i64 r.val, .slice a2 r.pairs.length c2] 45)).alloc (.cells #[.slice x'.va S.vals.length x'.vc, .slice x'.pa S.prs.length x'.pc] T)) := by
  have hs1 := B1.size
  exact BoxB.fin hs hp ((B1.alloc hs1 _).alloc (by simp; omega) _) (heap_alloc_at _ _ _ (by simp)) ((heap_alloc_old _ _ (by simp)).trans (heap_alloc_at _ _ _ rfl)) (((Hig.refl _ _).alloc _).alloc _)
theorem boxB_3 {b : Nat} (hb : wr.heap.size ≤ b) (hz : b < Bz) (hl : b < w2.heap.size) (h0 : w2.heap[b]? = some (.cells #[.slice none 0 0, .slice none 0 0] T)) : BoxB wr T S r (.pointer (some ⟨b, 0, none⟩)) (.pointer (some ⟨w2.heap.size, 0, none⟩)) (((w2.setCell ⟨b, 0, none⟩ (.slice x'.va S.vals.length x'.vc)).setCell ⟨b, 1, none⟩ (.slice x'.pa S.prs.length x'.pc)).alloc (.cells #[.bool r.ok, .int .i64 r.key, .int .i64 r.val, .slice a2 r.pairs.length c2] 45)) := by
  have hs1 := B1.size
  exact BoxB.fin hs hp (((B1.setCell (p := ⟨b, 0, none⟩) hb _).setCell (p := ⟨b, 1, none⟩) hb _).alloc (by simp; omega) _) ((heap_alloc_old _ _ (by simp; omega)).trans (set2_at h0 _ _)) (heap_alloc_at _ _ _ (by simp)) ((((Hig.refl _ _).set hz _).set hz _).alloc _)
theorem boxB_4 {b d : Nat} (hb : wr.heap.size ≤ b) (hd : wr.heap.size ≤ d) (hzb : b < Bz) (hzd : d < Bz) (hne : b ≠ d) (h0 : w2.heap[b]? = some (.cells #[.slice none 0 0, .slice none 0 0] T)) (h1 : w2.heap[d]? = some (.cells #[.bool false, .int .i64 0, .int .i64 0, .slice none 0 0] 45)) : BoxB wr T S r (.pointer (some ⟨b, 0, none⟩)) (.pointer (some ⟨d, 0, none⟩)) ((((((w2.setCell ⟨b, 0, none⟩ (.slice x'.va S.vals.length x'.vc)).setCell ⟨b, 1, none⟩ (.slice x'.pa S.prs.length x'.pc)).setCell ⟨d, 0, none⟩ (.bool r.ok)).setCell ⟨d, 1, none⟩ (.int .i64 r.key)).setCell ⟨d, 2, none⟩ (.int .i64 r.val)).setCell ⟨d, 3, none⟩ (.slice a2 r.pairs.length c2)) := by
  exact BoxB.fin hs hp (below_six B1 hb hd _ _ _ _ _ _) ((heap_four _ hne _ _ _ _ _ _ _ _).trans (set2_at h0 _ _)) (cells4_set ((heap_two _ (Ne.symm hne) _ _ _ _).trans h1) _ _ _ _) ((((((((Hig.refl _ _).set hzb _).set hzb _).set hzd _).set hzd _).set hzd _).set hzd _))
theorem boxB_5 {d : Nat} (hd : wr.heap.size ≤ d) (hzd : d < Bz) (hl : d < w2.heap.size) (h0 : w2.heap[d]? = some (.cells #[.bool false, .int .i64 0, .int .i64 0, .slice none 0 0] 45)) : BoxB wr T S r (.pointer (some ⟨w2.heap.size, 0, none⟩)) (.pointer (some ⟨d, 0, none⟩)) (((((w2.setCell ⟨d, 0, none⟩ (.bool r.ok)).setCell ⟨d, 1, none⟩ (.int .i64 r.key)).setCell ⟨d, 2, none⟩ (.int .i64 r.val)).setCell ⟨d, 3, none⟩ (.slice a2 r.pairs.length c2)).alloc (.cells #[.slice x'.va S.vals.length x'.vc, .slice x'.pa S.prs.length x'.pc] T)) := by
  have hs1 := B1.size
  exact BoxB.fin hs hp ((below_four B1 hd _ _ _ _).alloc (by simp; omega) _) (heap_alloc_at _ _ _ (by simp)) ((heap_alloc_old _ _ (by simp; omega)).trans (cells4_set h0 _ _ _ _)) ((((((Hig.refl _ _).set hzd _).set hzd _).set hzd _).set hzd _).alloc _)
end

theorem kc0 {wr w1 : World} (hb : Below wr.heap.size wr w1) : Below wr.heap.size wr w1 := hb
theorem kcA {wr w1 : World} {C : Obj} (hb : Below (wr.alloc C).heap.size (wr.alloc C) w1) : Below wr.heap.size wr w1 ∧ (wr.alloc C).heap.size = wr.heap.size + 1 ∧ w1.heap[wr.heap.size]? = some C ∧ wr.heap.size < w1.heap.size := by
  have hz : (wr.alloc C).heap.size = wr.heap.size + 1 := World.size_alloc _ _
  exact ⟨(below_alloc wr _).trans (hb.mono (by omega)), hz, (hb.block _ (by omega)).trans (heap_alloc_at wr _ _ rfl), by have := hb.size; omega⟩
theorem kcAB {wr w1 : World} {C D : Obj} (hb : Below ((wr.alloc C).alloc D).heap.size ((wr.alloc C).alloc D) w1) : Below wr.heap.size wr w1 ∧ ((wr.alloc C).alloc D).heap.size = wr.heap.size + 1 + 1 ∧ w1.heap[wr.heap.size]? = some C ∧ w1.heap[wr.heap.size + 1]? = some D ∧ wr.heap.size < w1.heap.size ∧ wr.heap.size + 1 < w1.heap.size := by
  have hz : ((wr.alloc C).alloc D).heap.size = wr.heap.size + 1 + 1 := by simp
  have := hb.size
  exact ⟨((below_alloc wr _).alloc (by simp) _).trans (hb.mono (by omega)), hz, (hb.block _ (by omega)).trans ((heap_alloc_old _ _ (by simp)).trans (heap_alloc_at wr _ _ rfl)), (hb.block _ (by omega)).trans (heap_alloc_at _ _ _ (by simp)), by omega, by omega⟩
end Go.Proofs.YtcphajjonecmbaaDoor



namespace Go.Proofs.YtcphajjonecmbaaDoor

open Go.RowKit Go.Deep

attribute [local go_sem ↓] Go.wp_at_zero Go.wp_at_succ

set_option maxRecDepth 100000 in
set_option maxHeartbeats 4000000 in
theorem searchDoes_any (t : Int) (x : SX) (s : SD) (ob : Option Addr) (bo oo oc : Nat) (ops : List OpD) (w : World) (h : StAt w x s) (hkd : KdAt w) (hop : OpsAt w ob bo oo ops) (hv : s.vals.length ≤ 100000000) (hp : s.prs.length ≤ 100000000) (ho : ops.length ≤ 100000000) :
    Calls Tryd.prog 3 #[.int .i64 t, x.v s, .slice ob ops.length oc] w fun e w' => e = .returned (.bool true) ∧ Below w.heap.size w w' := by
  have lO := hop.len
  unfold maxLen at lO
  have HOP : Hid (OpsAt w ob bo oo ops) := hop
  have HA : Hid (StAt w x s) := h
  have HKD : Hid (KdAt w) := hkd
  obtain ⟨W0, hW0⟩ : ∃ W0, W0 = w.alloc (.cells #[.slice x.va s.vals.length x.vc, .slice x.pa s.prs.length x.pc] 25) := ⟨_, rfl⟩
  have B0 : Hid (Below w.heap.size w W0) := by show Below _ _ _; rw [hW0]; exact below_alloc _ _
  have z0 : W0.heap.size = w.heap.size + 1 := by rw [hW0]; simp
  have R0 : Hid (W0.heap[w.heap.size]? = some (.cells #[.slice x.va s.vals.length x.vc, .slice x.pa s.prs.length x.pc] 25)) := by
    show W0.heap[w.heap.size]? = _
    rw [hW0]; exact heap_alloc_at _ _ _ rfl
  have AW : Hid (∀ p : BelowBy W0, Calls Tryd.prog 10 #[] p.W fun e w' => e = .returned (.bool true) ∧ Below p.W.heap.size p.W w') := fun p => awake_any p.W ((hkd.below B0.out).below p.h)
  have TO : Hid (∀ W, Calls Tryd.prog 13 #[.agg #[.slice x.va s.vals.length x.vc, .slice x.pa s.prs.length x.pc]] W fun e w' => e = .returned (.agg #[.slice x.va s.vals.length x.vc, .slice x.pa s.prs.length x.pc]) ∧ Below W.heap.size W w') := fun W => to_any x s W
  have PC : Hid (∀ p : BelowBy W0, Calls Tryd.prog 12 #[.int .i64 t, .agg #[.slice x.va s.vals.length x.vc, .slice x.pa s.prs.length x.pc]] p.W fun e w' => e = .returned (.int .i64 (sErr t s)) ∧ Below p.W.heap.size p.W w') := fun p => scheck_any t x s p.W ((h.below B0.out).below p.h)
  have RC : Hid (∀ p : BelowBy W0, Calls Tryd.prog 14 #[.int .i64 t, .agg #[.slice x.va s.vals.length x.vc, .slice x.pa s.prs.length x.pc]] p.W fun e w' => e = .returned (.int .i64 (sErr t s)) ∧ Below p.W.heap.size p.W w') := fun p => rcheck7_any t x s p.W ((h.below B0.out).below p.h)
  have PL : Hid (∀ (a : Int) (W : World), Calls Tryd.prog 11 #[.int .i64 a, .int .i64 a] W fun e w' => e = .returned (.bool true) ∧ Below W.heap.size W w') := plain7_any
  have RR : Hid (∀ W, Below w.heap.size w W → Calls Tryd.prog 15 #[.int .i64 t, .agg #[.slice x.va s.vals.length x.vc, .slice x.pa s.prs.length x.pc], .slice ob ops.length oc] W (RRunP t s ops W)) := fun W hW => rRun7_any t x s ob bo oo oc ops W (h.below hW) (hop.below hW) hv hp ho
  have PR : Hid (∀ W, Below w.heap.size w W → Calls Tryd.prog 16 #[.int .i64 t, .agg #[.slice x.va s.vals.length x.vc, .slice x.pa s.prs.length x.pc], .slice ob ops.length oc] W (RunsP t s ops W)) := fun W hW => Run_any t x s ob bo oo oc ops W (h.below hW) (hkd.below hW) (hop.below hW) (by omega) (by omega) (by omega)
  have hNz : w.heap.size < W0.heap.size := by omega
  obtain ⟨⟨a0, _⟩, ⟨a1, _⟩⟩ := cells2 R0.out
  have y0 := BelowBy.cell hNz a0
  have y1 := BelowBy.cell hNz a1
  generalize sErr t s = E at *
  unfold SX.v
  clear h hkd hop
  go_enter Tryd.func3, Tryd.ntmps3
  go_upto_region 1 with fail
  rw [← hW0]
  clear hW0
  refine wp_region_below (by kernel_rfl) (by kernel_rfl) ?_
  repeat (go_big_quiet_step (first | (go_at_call 10; exact below_call (AW.out _)) | (go_at_call 13; exact below_call (TO.out _)) | (go_at_call 12; exact below_call (PC.out _)) | (go_at_call 14; exact below_call (RC.out _)) | (go_at_call 11; exact below_call (PL.out _ _))))
  refine wpQuiet_nil ?_
  rintro _ ⟨p, rfl⟩
  obtain ⟨W1, hW1⟩ : ∃ W1, W1 = p.W := ⟨_, rfl⟩
  have B1 : Hid (Below W0.heap.size W0 W1) := by show Below _ _ _; rw [hW1]; exact p.h
  rw [← hW1]
  have z1 : W0.heap.size ≤ W1.heap.size := B1.out.size
  have BW1 : Hid (Below w.heap.size w W1) := B0.out.trans (B1.out.mono B0.out.size)
  obtain ⟨⟨c0, _⟩, ⟨c1, _⟩⟩ := cells2 ((B1.out.block _ hNz).trans R0.out)
  clear hW1 y0 y1 a0 a1 AW PC RC
  obtain ⟨S, hS⟩ : ∃ S, S = sRunD t s ops := ⟨_, rfl⟩
  obtain ⟨rs, hrs⟩ : ∃ rs, rs = sRetsD t s ops := ⟨_, rfl⟩
  obtain ⟨E2, hE2⟩ : ∃ E2, E2 = rnErr t s ops := ⟨_, rfl⟩
  unfold RRunP at RR
  unfold RunsP at PR
  simp only [← hS, ← hrs, ← hE2, SX.v] at RR PR
  clear hS hrs hE2
  go_upto_region 5 with (first | (go_at_call 15; refine (RR.out _ BW1.out).mono ?_; rintro e w2 ⟨xr, ra, rg, rk, rfl, hb2, hs2, hr2, -⟩; have B2 : Hid (Below W1.heap.size W1 w2) := hb2; have S2 : Hid (StAt w2 xr S) := hs2; have RT2 : Hid (RetsAtM w2 ra rg 0 rs) := hr2; have z2 := hb2.size; have n2 : w.heap.size < w2.heap.size := (by omega); have BC : Hid (Below w.heap.size w (w2.alloc (.cells #[.slice xr.va S.vals.length xr.vc, .slice xr.pa S.prs.length xr.pc] 25))) := (BW1.out.trans (hb2.mono BW1.out.size)).alloc (Nat.le_trans BW1.out.size hb2.size) _; obtain ⟨⟨d0, _⟩, ⟨d1, _⟩⟩ := cells2 ((hb2.block _ (by omega)).trans ((B1.out.block _ hNz).trans R0.out)); clear hb2 hs2 hr2) | (go_at_call 13; refine (TO.out _).mono ?_; rintro e w3 ⟨rfl, hb3⟩; have B3 : Hid (Below (w2.alloc (.cells #[.slice xr.va S.vals.length xr.vc, .slice xr.pa S.prs.length xr.pc] 25)).heap.size (w2.alloc (.cells #[.slice xr.va S.vals.length xr.vc, .slice xr.pa S.prs.length xr.pc] 25)) w3) := hb3; have BW3 : Hid (Below w.heap.size w w3) := BC.out.trans (hb3.mono BC.out.size); clear hb3) | (go_at_call 16; refine (PR.out _ BW3.out).mono ?_; rintro e w4 ⟨xp, qa, qg, qk, rfl, hb4, hs4, hr4, -⟩; have B4 : Hid (Below w3.heap.size w3 w4) := hb4; have S4 : Hid (StNew w4 w3.heap.size xp S) := hs4; have RT4 : Hid (RetsAtM w4 qa qg 0 rs) := hr4; clear hb4 hs4 hr4))
  obtain ⟨W5, hW5⟩ : ∃ W5, W5 = w4.alloc (.cells #[.slice xp.va S.vals.length xp.vc, .slice xp.pa S.prs.length xp.pc] 31) := ⟨_, rfl⟩
  have b45 : Below w4.heap.size w4 W5 := by rw [hW5]; exact below_alloc _ _
  have z5 : W5.heap.size = w4.heap.size + 1 := by rw [hW5]; simp
  have z4 := B4.out.size
  have z3 := B3.out.size
  rw [World.size_alloc] at z3
  have BW5 : Hid (Below w.heap.size w W5) := (BW3.out.trans (B4.out.mono BW3.out.size)).trans (b45.mono (Nat.le_trans BW3.out.size z4))
  have U7 : Hid (W5.heap[w2.heap.size]? = some (.cells #[.slice xr.va S.vals.length xr.vc, .slice xr.pa S.prs.length xr.pc] 25)) := (b45.block _ (by omega)).trans ((B4.out.block _ (by omega)).trans ((B3.out.block _ (by simp)).trans (heap_alloc_at _ _ _ rfl)))
  have U10 : Hid (W5.heap[w4.heap.size]? = some (.cells #[.slice xp.va S.vals.length xp.vc, .slice xp.pa S.prs.length xp.pc] 31)) := by show W5.heap[_]? = _; rw [hW5]; exact heap_alloc_at _ _ _ rfl
  have b25 : Below w2.heap.size w2 W5 := (((below_alloc _ _).trans (B3.out.mono (by simp))).trans (B4.out.mono (by omega))).trans (b45.mono (by omega))
  have UN : Hid (W5.heap[w.heap.size]? = some (.cells #[.slice x.va s.vals.length x.vc, .slice x.pa s.prs.length x.pc] 25)) := (b25.block _ n2).trans ((B2.out.block _ (by omega)).trans ((B1.out.block _ hNz).trans R0.out))
  have SS : Hid (∀ p : BelowBy W5, Calls Tryd.prog 17 #[.agg #[.slice xp.va S.vals.length xp.vc, .slice xp.pa S.prs.length xp.pc], .agg #[.slice xr.va S.vals.length xr.vc, .slice xr.pa S.prs.length xr.pc]] p.W fun e w' => e = .returned (.bool true) ∧ Below p.W.heap.size p.W w') := fun p => by
    have := rSameS_any xp xr S S p.W ((S4.out.at_.below b45).below p.h) ((S2.out.below b25).below p.h)
    rw [sdEq_refl] at this
    exact this
  have SR : Hid (∀ p : BelowBy W5, Calls Tryd.prog 19 #[.slice qa rs.length qk, .slice ra rs.length rk] p.W fun e w' => e = .returned (.bool true) ∧ Below p.W.heap.size p.W w') := fun p => rSameR7_any qa ra qg 0 qk rg 0 rk rs p.W ((RT4.out.below b45).below p.h) ((RT2.out.below b25).below p.h)
  have FR : Hid (∀ W, Calls Tryd.prog 18 #[.agg #[.slice xp.va S.vals.length xp.vc, .slice xp.pa S.prs.length xp.pc]] W fun e w' => e = .returned (.agg #[.slice xp.va S.vals.length xp.vc, .slice xp.pa S.prs.length xp.pc]) ∧ Below W.heap.size W w') := fun W => from_any xp S W
  obtain ⟨⟨u0, _⟩, ⟨u1, _⟩⟩ := cells2 U7.out
  obtain ⟨⟨u2, _⟩, ⟨u3, _⟩⟩ := cells2 U10.out
  have y0 := BelowBy.cell (show w2.heap.size < W5.heap.size by omega) u0
  have y1 := BelowBy.cell (show w2.heap.size < W5.heap.size by omega) u1
  have y2 := BelowBy.cell (show w4.heap.size < W5.heap.size by omega) u2
  have y3 := BelowBy.cell (show w4.heap.size < W5.heap.size by omega) u3
  rw [← hW5]
  have n5 : w.heap.size < W5.heap.size := by omega
  clear hW5 b45 b25 d0 d1 c0 c1 u0 u1 u2 u3 z5 z4 z3 n2 z2 z1
  refine wp_region_below (by kernel_rfl) (by kernel_rfl) ?_
  repeat (go_big_quiet_step (first | (go_at_call 11; exact below_call (PL.out _ _)) | (go_at_call 18; exact below_call (FR.out _)) | (go_at_call 17; exact below_call (SS.out _)) | (go_at_call 19; exact below_call (SR.out _))))
  refine wpQuiet_nil ?_
  rintro _ ⟨p5, rfl⟩
  obtain ⟨W6, hW6⟩ : ∃ W6, W6 = p5.W := ⟨_, rfl⟩
  have B6 : Hid (Below W5.heap.size W5 W6) := by show Below _ _ _; rw [hW6]; exact p5.h
  rw [← hW6]
  have z6 : W5.heap.size ≤ W6.heap.size := B6.out.size
  have BW6 : Hid (Below w.heap.size w W6) := BW5.out.trans (B6.out.mono BW5.out.size)
  have UN6 : Hid (W6.heap[w.heap.size]? = some (.cells #[.slice x.va s.vals.length x.vc, .slice x.pa s.prs.length x.pc] 25)) := (B6.out.block _ n5).trans UN.out
  clear hW6 y0 y1 y2 y3
  go_wp2_with fail
  have DR : Hid (∀ (o : OpD) W, Below w.heap.size w W → Calls Tryd.prog 20 #[.int .i64 t, .agg #[.slice x.va s.vals.length x.vc, .slice x.pa s.prs.length x.pc], .agg #[.int .i64 o.kind, .int .i64 o.key, .int .i64 o.val, .int .i64 o.hi]] W (RDoP t s o W)) := fun o W hW => rDo7_any t x s o W (HA.out.below hW) hv hp
  have DP : Hid (∀ (o : OpD) W, Below w.heap.size w W → Calls Tryd.prog 21 #[.int .i64 t, .agg #[.slice x.va s.vals.length x.vc, .slice x.pa s.prs.length x.pc], .agg #[.int .i64 o.kind, .int .i64 o.key, .int .i64 o.val, .int .i64 o.hi]] W (DosP t s o W)) := fun o W hW => Do_any t x s o W (HA.out.below hW) (HKD.out.below hW) (by omega) (by omega)
  clear RR PR U7 U10 SS SR FR RT2 RT4 S2 S4 B3 B4 BC BW3 BW1 B2
  go_loopw [70] (fun i wr => ∃ j : Nat, j ≤ ops.length ∧ i = .int .i64 j ∧ Below w.heap.size w wr ∧ w.heap.size < wr.heap.size ∧ wr.heap[w.heap.size]? = some (.cells #[.slice x.va s.vals.length x.vc, .slice x.pa s.prs.length x.pc] 25)) (fun i _ => ops.length - (intOf i).toNat)
  case atStart => exact ⟨0, Nat.zero_le _, rfl, BW6.out, by omega, UN6.out⟩
  case round =>
    obtain ⟨j, hj, rfl, hbw, hnw, hun⟩ := hrel
    rename World => wr
    have BR : Hid (Below w.heap.size w wr) := hbw
    have HUN : Hid (wr.heap[w.heap.size]? = some (.cells #[.slice x.va s.vals.length x.vc, .slice x.pa s.prs.length x.pc] 25)) := hun
    by_cases hlt : j < ops.length
    · obtain rfl : ob = some ⟨bo, oo, none⟩ := HOP.out.base (by omega)
      obtain ⟨c0, c1, c2, c3⟩ := (HOP.out.below hbw).cells j hlt
      have hbz : bo < wr.heap.size := Nat.lt_of_lt_of_le (HOP.out.lt (by omega)) hbw.size
      obtain ⟨⟨d0, _⟩, ⟨d1, _⟩⟩ := cells2 hun
      have j0 : (0 : Int) ≤ (j : Int) := Int.natCast_nonneg _
      have j1 : (j : Int) < (ops.length : Int) := by omega
      generalize opAt ops j = o at c0 c1 c2 c3
      obtain ⟨S, hS⟩ : ∃ S, S = sRunD t s [o] := ⟨_, rfl⟩
      obtain ⟨r, hr⟩ : ∃ r, r = sDoR t s o := ⟨_, rfl⟩
      obtain ⟨E3, hE3⟩ : ∃ E3, E3 = rnErr t s [o] := ⟨_, rfl⟩
      have DRo := DR.out o
      have DPo := DP.out o
      unfold RDoP at DRo
      unfold DosP at DPo
      simp only [← hS, ← hr, ← hE3, SX.v] at DRo DPo
      have DR1 : Hid _ := DRo
      have DP1 : Hid _ := DPo
      have BA : Hid (Below w.heap.size w (wr.alloc (.cells #[.int .i64 o.kind, .int .i64 o.key, .int .i64 o.val, .int .i64 o.hi] 43))) := hbw.alloc hbw.size _
      clear hbw hun hS hr hE3 DRo DPo DR DP
      go_upto_region 11 with (first | (go_at_call 20; refine (DR1.out _ BA.out).mono ?_; rintro e w2 ⟨xr, ra, rg, rp, rk, rfl, hb2, hs2, hp2⟩; have B2 : Hid (Below (wr.alloc (.cells #[.int .i64 o.kind, .int .i64 o.key, .int .i64 o.val, .int .i64 o.hi] 43)).heap.size (wr.alloc (.cells #[.int .i64 o.kind, .int .i64 o.key, .int .i64 o.val, .int .i64 o.hi] 43)) w2) := hb2; have S2 : Hid (StAt w2 xr S) := hs2; have P2 : Hid (PairsAt w2 ra rg rp r.pairs) := hp2; clear hb2 hs2 hp2))
      obtain ⟨W7, hW7⟩ : ∃ W7, W7 = (w2.alloc (.cells #[.slice xr.va S.vals.length xr.vc, .slice xr.pa S.prs.length xr.pc] 25)).alloc (.cells #[.bool r.ok, .int .i64 r.key, .int .i64 r.val, .slice ra r.pairs.length rk] 45) := ⟨_, rfl⟩
      rw [← hW7]
      have z7 : W7.heap.size = w2.heap.size + 2 := by rw [hW7]; simp
      have z2 := B2.out.size
      rw [World.size_alloc] at z2
      have b27 : Below w2.heap.size w2 W7 := by rw [hW7]; exact two_blocks _ _ _ _ _
      have BW7 : Hid (Below w.heap.size w W7) := (BA.out.trans (B2.out.mono BA.out.size)).trans (b27.mono (by have := BR.out.size; omega))
      have U15 : Hid (W7.heap[w2.heap.size]? = some (.cells #[.slice xr.va S.vals.length xr.vc, .slice xr.pa S.prs.length xr.pc] 25)) := by
        show W7.heap[_]? = _
        rw [hW7]; exact (heap_alloc_old _ _ (by simp)).trans (heap_alloc_at _ _ _ rfl)
      have U16 : Hid (W7.heap[w2.heap.size + 1]? = some (.cells #[.bool r.ok, .int .i64 r.key, .int .i64 r.val, .slice ra r.pairs.length rk] 45)) := by
        show W7.heap[_]? = _
        rw [hW7]; exact heap_alloc_at _ _ _ (by simp)
      have UO : Hid (W7.heap[wr.heap.size]? = some (.cells #[.int .i64 o.kind, .int .i64 o.key, .int .i64 o.val, .int .i64 o.hi] 43)) := (b27.block _ (by omega)).trans ((B2.out.block _ (by simp)).trans (heap_alloc_at _ _ _ rfl))
      have UN7 : Hid (W7.heap[w.heap.size]? = some (.cells #[.slice x.va s.vals.length x.vc, .slice x.pa s.prs.length x.pc] 25)) := (b27.block _ (by omega)).trans ((B2.out.block _ (by simp; omega)).trans ((heap_alloc_old _ _ hnw).trans HUN.out))
      have S7 : Hid (StAt W7 xr S) := S2.out.below b27
      have P7 : Hid (PairsAt W7 ra rg rp r.pairs) := P2.out.below b27
      have n7 : w.heap.size < W7.heap.size := by omega
      have m7 : wr.heap.size < W7.heap.size := by omega
      have KS : Hid (∀ w', Below W7.heap.size W7 w' → (w'.cell? ⟨w.heap.size, 0, none⟩ = some (.slice x.va s.vals.length x.vc) ∧ w'.cell? ⟨w.heap.size, 1, none⟩ = some (.slice x.pa s.prs.length x.pc) ∧ w'.cell? ⟨wr.heap.size, 0, none⟩ = some (.int .i64 o.kind) ∧ w'.cell? ⟨wr.heap.size, 1, none⟩ = some (.int .i64 o.key) ∧ w'.cell? ⟨wr.heap.size, 2, none⟩ = some (.int .i64 o.val) ∧ w'.cell? ⟨wr.heap.size, 3, none⟩ = some (.int .i64 o.hi))) := fun w' hb => by
        obtain ⟨⟨e0, _⟩, ⟨e1, _⟩⟩ := cells2 ((hb.block _ n7).trans UN7.out)
        obtain ⟨⟨e2, _⟩, ⟨e3, _⟩, ⟨e4, _⟩, ⟨e5, _⟩⟩ := cells4 ((hb.block _ m7).trans UO.out)
        exact ⟨e0, e1, e2, e3, e4, e5⟩
      clear hW7 b27 c0 c1 c2 c3 d0 d1 z2 z7 S2 P2 B2
      go_cut [18, 19, 20] from 82 to 90 (fun v18 v19 v20 wx => v20 = .int .i64 E3 ∧ BoxB W7 31 S r v18 v19 wx)
      case first =>
        go_region_held3 (fun w' => w'.cell? ⟨w.heap.size, 0, none⟩ = some (.slice x.va s.vals.length x.vc) ∧ w'.cell? ⟨w.heap.size, 1, none⟩ = some (.slice x.pa s.prs.length x.pc) ∧ w'.cell? ⟨wr.heap.size, 0, none⟩ = some (.int .i64 o.kind) ∧ w'.cell? ⟨wr.heap.size, 1, none⟩ = some (.int .i64 o.key) ∧ w'.cell? ⟨wr.heap.size, 2, none⟩ = some (.int .i64 o.val) ∧ w'.cell? ⟨wr.heap.size, 3, none⟩ = some (.int .i64 o.hi))
          (first | (refine KS.out _ ?_; (repeat' (first | with_reducible exact Below.refl _ _ | with_reducible exact Q2.out | with_reducible exact B1.out | with_reducible refine Below.drew ?_ | with_reducible refine Below.alloc ?_ ?_ _ | with_reducible refine Below.setCell ?_ ?_ _)) <;> (first | (simp; done) | (simp; omega) | (show _ ≤ _; omega))) | fail)
          (first | (go_at_call 13; refine (TO.out _).mono ?_; rintro e z1 ⟨rfl, hb1⟩; (first | ((with_reducible have K := kb0 (wr := W7) hb1); have B1 : Hid (Below W7.heap.size W7 z1) := K.1) | ((with_reducible have K := kbA (wr := W7) hb1); have B1 : Hid (Below W7.heap.size W7 z1) := K.1; have F0 : Hid _ := K.2.2.1; have l0 := K.2.2.2; have ne01 : W7.heap.size ≠ z1.heap.size := (by omega); have ne10 : z1.heap.size ≠ W7.heap.size := (by omega)) | ((with_reducible have K := kbAB (wr := W7) hb1); have B1 : Hid (Below W7.heap.size W7 z1) := K.1; have F0 : Hid _ := K.2.2.1; have F1 : Hid _ := K.2.2.2.1; have l0 := K.2.2.2.2.1; have l1 := K.2.2.2.2.2)); have hz1 : W7.heap.size ≤ z1.heap.size := B1.out.size; have X1 : Hid (Below w.heap.size w z1) := BW7.out.trans (B1.out.mono BW7.out.size); clear K hb1) | (go_at_call 21; refine (DP1.out _ (by (repeat' (first | with_reducible exact X1.out | with_reducible refine Below.alloc ?_ ?_ _)) <;> (first | (have := X1.out.size; simp; done) | (have := X1.out.size; simp; omega) | (have := X1.out.size; omega)))).mono ?_; rintro e z2 ⟨xq, pa, pg, pc, rfl, hb2, hs2, ⟨po, hp2⟩, hlo2, -⟩; (first | ((with_reducible have K := kc0 (wr := z1) hb2); have Q1 : Hid (Below z1.heap.size z1 z2) := K; have HS2 : Hid (StNew z2 z1.heap.size xq S) := hs2; have HP2 : Hid (PairsAt z2 pa pg po r.pairs ∧ (r.pairs.length ≠ 0 → z1.heap.size ≤ pg)) := ⟨hp2, hlo2⟩) | ((with_reducible have K := kcA (wr := z1) hb2); have Q1 : Hid (Below z1.heap.size z1 z2) := K.1; have HS2 : Hid (StNew z2 (z1.heap.size + 1) xq S) := hs2.down (Nat.le_of_eq K.2.1.symm); have HP2 : Hid (PairsAt z2 pa pg po r.pairs ∧ (r.pairs.length ≠ 0 → z1.heap.size + 1 ≤ pg)) := ⟨hp2, fun q => by have := hlo2 q; omega⟩; have G0 : Hid _ := K.2.2.1; have m0 := K.2.2.2; (first | obtain ⟨⟨_, _⟩, ⟨_, _⟩, ⟨_, _⟩, ⟨_, _⟩⟩ := cells4 G0.out | obtain ⟨⟨_, _⟩, ⟨_, _⟩⟩ := cells2 G0.out)) | ((with_reducible have K := kcAB (wr := z1) hb2); have Q1 : Hid (Below z1.heap.size z1 z2) := K.1; have HS2 : Hid (StNew z2 (z1.heap.size + 1 + 1) xq S) := hs2.down (Nat.le_of_eq K.2.1.symm); have HP2 : Hid (PairsAt z2 pa pg po r.pairs ∧ (r.pairs.length ≠ 0 → z1.heap.size + 1 + 1 ≤ pg)) := ⟨hp2, fun q => by have := hlo2 q; omega⟩; have G0 : Hid _ := K.2.2.1; have G1 : Hid _ := K.2.2.2.1; have m0 := K.2.2.2.2.1; have m1 := K.2.2.2.2.2; (first | obtain ⟨⟨_, _⟩, ⟨_, _⟩, ⟨_, _⟩, ⟨_, _⟩⟩ := cells4 G0.out | obtain ⟨⟨_, _⟩, ⟨_, _⟩⟩ := cells2 G0.out); (first | obtain ⟨⟨_, _⟩, ⟨_, _⟩, ⟨_, _⟩, ⟨_, _⟩⟩ := cells4 G1.out | obtain ⟨⟨_, _⟩, ⟨_, _⟩⟩ := cells2 G1.out))); have hz2 : z1.heap.size ≤ z2.heap.size := Q1.out.size; have Q2 : Hid (Below W7.heap.size W7 z2) := B1.out.trans (Q1.out.mono hz1); (try (have H0 : Hid _ := (Q1.out.block _ l0).trans F0.out; have k0 : W7.heap.size < z2.heap.size := (by omega); first | obtain ⟨⟨_, _⟩, ⟨_, _⟩, ⟨_, _⟩, ⟨_, _⟩⟩ := cells4 H0.out | obtain ⟨⟨_, _⟩, ⟨_, _⟩⟩ := cells2 H0.out)); (try (have H1 : Hid _ := (Q1.out.block _ l1).trans F1.out; have k1 : W7.heap.size + 1 < z2.heap.size := (by omega); first | obtain ⟨⟨_, _⟩, ⟨_, _⟩, ⟨_, _⟩, ⟨_, _⟩⟩ := cells4 H1.out | obtain ⟨⟨_, _⟩, ⟨_, _⟩⟩ := cells2 H1.out)); clear K hb2 hs2 hp2 hlo2))
        all_goals go_wp2_with fail
        all_goals go_meet
        all_goals refine ⟨rfl, ?_⟩
        all_goals first | with_reducible exact boxB_1 Q2.out HS2.out HP2.out | with_reducible exact boxB_2 Q2.out HS2.out HP2.out | ((with_reducible refine boxB_3 Q2.out HS2.out HP2.out ?_ ?_ ?_ ?_) <;> first | omega | exact G0.out | exact H0.out) | ((with_reducible refine boxB_5 Q2.out HS2.out HP2.out ?_ ?_ ?_ ?_) <;> first | omega | exact G0.out | exact H0.out) | ((with_reducible refine boxB_4 Q2.out HS2.out HP2.out ?_ ?_ ?_ ?_ ?_ ?_ ?_) <;> first | omega | exact G0.out | exact G1.out | exact H0.out | exact H1.out)
      case rest =>
        obtain ⟨rfl, xq, pa, pc, b18, b19, rfl, rfl, hbq, h18, h19, hsq, gq, pq, hpq⟩ := hcut
        have BQ : Hid (Below W7.heap.size W7 wc) := hbq
        have zq := hbq.size
        have V15 := (hbq.block (w2.heap.size) (Array.getElem?_eq_some_iff.1 U15.out).1).trans U15.out
        have V16 := (hbq.block (w2.heap.size + 1) (Array.getElem?_eq_some_iff.1 U16.out).1).trans U16.out
        have SS : Hid (∀ p : BelowBy wc, Calls Tryd.prog 17 #[.agg #[.slice xq.va S.vals.length xq.vc, .slice xq.pa S.prs.length xq.pc], .agg #[.slice xr.va S.vals.length xr.vc, .slice xr.pa S.prs.length xr.pc]] p.W fun e w' => e = .returned (.bool true) ∧ Below p.W.heap.size p.W w') := fun p => by
          have := rSameS_any xq xr S S p.W (hsq.below p.h) ((S7.out.below hbq).below p.h)
          rw [sdEq_refl] at this
          exact this
        have SR : Hid (∀ p : BelowBy wc, Calls Tryd.prog 22 #[.agg #[.bool r.ok, .int .i64 r.key, .int .i64 r.val, .slice pa r.pairs.length pc], .agg #[.bool r.ok, .int .i64 r.key, .int .i64 r.val, .slice ra r.pairs.length rk]] p.W fun e w' => e = .returned (.bool true) ∧ Below p.W.heap.size p.W w') := fun p => by
          have := sameRet_anyM pa ra gq pq pc rg rp rk r r p.W (hpq.below p.h) ((P7.out.below hbq).below p.h)
          rw [retEq_reflM7] at this
          exact this
        have FR : Hid (∀ W, Calls Tryd.prog 18 #[.agg #[.slice xq.va S.vals.length xq.vc, .slice xq.pa S.prs.length xq.pc]] W fun e w' => e = .returned (.agg #[.slice xq.va S.vals.length xq.vc, .slice xq.pa S.prs.length xq.pc]) ∧ Below W.heap.size W w') := fun W => from_any xq S W
        obtain ⟨⟨u0, _⟩, ⟨u1, _⟩⟩ := cells2 V15
        obtain ⟨⟨u2, _⟩, ⟨u3, _⟩, ⟨u4, _⟩, ⟨u5, _⟩⟩ := cells4 V16
        obtain ⟨⟨u6, _⟩, ⟨u7, _⟩⟩ := cells2 h18
        obtain ⟨⟨u8, _⟩, ⟨u9, _⟩, ⟨v0, _⟩, ⟨v1, _⟩⟩ := cells4 h19
        have l15 := (Array.getElem?_eq_some_iff.1 V15).1
        have l16 := (Array.getElem?_eq_some_iff.1 V16).1
        have l18 := (Array.getElem?_eq_some_iff.1 h18).1
        have l19 := (Array.getElem?_eq_some_iff.1 h19).1
        have y0 := BelowBy.cell l15 u0
        have y1 := BelowBy.cell l15 u1
        have y2 := BelowBy.cell l16 u2
        have y3 := BelowBy.cell l16 u3
        have y4 := BelowBy.cell l16 u4
        have y5 := BelowBy.cell l16 u5
        have y6 := BelowBy.cell l18 u6
        have y7 := BelowBy.cell l18 u7
        have y8 := BelowBy.cell l19 u8
        have y9 := BelowBy.cell l19 u9
        have t0 := BelowBy.cell l19 v0
        have t1 := BelowBy.cell l19 v1
        clear u0 u1 u2 u3 u4 u5 u6 u7 u8 u9 v0 v1 hbq V15 V16 h18 h19 hsq hpq KS TO DP1 DR1
        go_wp2_with fail
        refine wp_region_below (by kernel_rfl) (by kernel_rfl) ?_
        repeat (go_big_quiet_step (first | (go_at_call 11; exact below_call (PL.out _ _)) | (go_at_call 18; exact below_call (FR.out _)) | (go_at_call 17; exact below_call (SS.out _)) | (go_at_call 22; exact below_call (SR.out _))))
        refine wpQuiet_nil ?_
        rintro _ ⟨p9, rfl⟩
        obtain ⟨W9, hW9⟩ : ∃ W9, W9 = p9.W := ⟨_, rfl⟩
        have B9 : Hid (Below wc.heap.size wc W9) := by show Below _ _ _; rw [hW9]; exact p9.h
        rw [← hW9]
        clear hW9 y0 y1 y2 y3 y4 y5 y6 y7 y8 y9 t0 t1
        go_wp2_with fail
        have B79 : Below W7.heap.size W7 W9 := BQ.out.trans (B9.out.mono zq)
        exact ⟨⟨j + 1, by omega, by go_num, BW7.out.trans (B79.mono BW7.out.size), by have := B79.size; omega, (B79.block _ n7).trans UN7.out⟩, by simp [intOf]; omega⟩
    · clear hbw hun hj
      go_wp2_with fail
      go_ret
      exact ⟨rfl, BR.out⟩
end Go.Proofs.YtcphajjonecmbaaDoor
