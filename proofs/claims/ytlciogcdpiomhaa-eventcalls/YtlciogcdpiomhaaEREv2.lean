/- Layer 5: for the reference's Events: the two rows of its second loop. No walk. -/
import Derived.Test.YtlciogcdpiomhaaEREv1
namespace Go.Proofs.Ytlciogcdpiomhaa
open Go.RowKit

theorem pairs_many {g : Nat} {base : Option Addr} {b o : Nat} {ps : PL} (hg : ps.length ≠ 0 → b ≠ g) : ∀ (vs : List Value) {W : World} {k : Nat}, PairsAt W base b o ps → PairsAt (setMany g W k vs) base b o ps
  | [], _, _, h => h
  | _ :: t, _, _, h => pairs_many hg t (pairs_set_any h hg)
theorem vals_many_other {g g' n : Nat} {f : Nat → Value} (hg : g ≠ g') : ∀ (vs : List Value) {W : World} {k : Nat}, Vals W g' n f → Vals (setMany g W k vs) g' n f
  | [], _, _, h => h
  | _ :: t, _, _, h => vals_many_other hg t (h.apart _ _ _ hg)
/-- The row of events, the row of bools behind it; lists of pairs in neither. -/
def TwoAt (w : World) (g n : Nat) (hs : List EvD) (B : Nat → Bool) : Prop := ∃ (F : Nat → Value) (qb : Nat → Option Addr) (qc qg qo : Nat → Nat), RowIn w g n hs F qb qc qg qo ∧ (∀ i, i < n → (evAt hs i).rt.pairs.length ≠ 0 → qg i ≠ g + 1) ∧ Vals w (g + 1) n (fun p => .bool (B p))
theorem TwoAt.below {w w' : World} {g n : Nat} {hs : List EvD} {B : Nat → Bool} (h : TwoAt w g n hs B) (hg : g + 1 < w.heap.size) (hb : Below w.heap.size w w') : TwoAt w' g n hs B := by
  obtain ⟨F, qb, qc, qg, qo, h1, h2, h3⟩ := h
  exact ⟨F, qb, qc, qg, qo, h1.below (by omega) hb, h2, h3.below hg hb⟩
theorem TwoAt.mark {w : World} {g n f : Nat} {hs : List EvD} {B B' : Nat → Bool} (h : TwoAt w g n hs B) (hB : ∀ p, B' p = if p = f then true else B p) : TwoAt (w.setCell ⟨g + 1, f, none⟩ (.bool true)) g n hs B' := by
  obtain ⟨F, qb, qc, qg, qo, ⟨h1, h2, h3⟩, h4, h5⟩ := h
  refine ⟨F, qb, qc, qg, qo, ⟨h1.apart _ _ _ (by omega), h2, fun i hi => ⟨(h3 i hi).1, pairs_set_any (h3 i hi).2.1 (h4 i hi), (h3 i hi).2.2⟩⟩, h4, (h5.set f (.bool true)).fn fun j hj => ?_⟩
  rw [hB j]
  by_cases e : j = f
  · subst e; rw [putV_same, if_pos rfl]
  · rw [putV_other _ _ _ _ e, if_neg e]
theorem TwoAt.put {w : World} {g n k : Nat} {hs : List EvD} {B : Nat → Bool} (h : TwoAt w g n hs B) (hn : hs.length = n) (hk : k < n) (e : EvD) (eb : Option Addr) (ec eg eo : Nat) (hp : PairsAt w eb eg eo e.rt.pairs) (hnil : eb = none → e.rt.pairs.length = 0 ∧ ec = 0) (hbig : e.rt.pairs.length * 16 ≤ 140737488355328) (ha : e.rt.pairs.length ≠ 0 → eg ≠ g ∧ eg ≠ g + 1) :
    TwoAt (setMany g w (k * 10) (evC e (.slice eb e.rt.pairs.length ec))) g n (hs.set k e) B := by
  obtain ⟨F, pb, pc, pg, po, ⟨hV, hF, hP⟩, h4, h5⟩ := h
  have hE : ∀ i, i < n → evAt (hs.set k e) i = if k = i then e else evAt hs i := by
    intro i hi
    have := evAt_put hs k e i (by omega)
    unfold putE at this
    rw [if_pos (by omega), Int.toNat_natCast] at this
    rw [this]
    by_cases q : k = i
    · rw [if_pos (by omega), if_pos q]
    · rw [if_neg (by omega), if_neg q]
  refine ⟨putMany F (k * 10) (evC e (.slice eb e.rt.pairs.length ec)), fun i => if k = i then eb else pb i, fun i => if k = i then ec else pc i, fun i => if k = i then eg else pg i, fun i => if k = i then eo else po i, ⟨setMany_vals _ hV, fun i hi j hj => ?_, fun i hi => ?_⟩, fun i hi => ?_, vals_many_other (by omega) _ h5⟩
  · rw [hE i hi]
    by_cases q : k = i
    · subst q
      simp only [if_true]
      exact putMany_in _ (by simpa [evC] using hj)
    · rw [if_neg q, putMany_out _ (by simp [evC]; omega)]
      simp only [if_neg q]
      exact hF i hi j hj
  · rw [hE i hi]
    by_cases q : k = i
    · subst q
      simp only [if_true]
      exact ⟨fun z => (ha z).1, pairs_many (fun z => (ha z).1) _ hp, hnil, hbig⟩
    · rw [if_neg q]
      simp only [if_neg q]
      obtain ⟨r1, r2, r3⟩ := hP i hi
      exact ⟨r1, pairs_many r1 _ r2, r3⟩
  · rw [hE i hi]
    by_cases q : k = i
    · subst q
      simp only [if_true]
      exact fun z => (ha z).2
    · rw [if_neg q]
      simp only [if_neg q]
      exact h4 i hi
theorem TwoAt.evs {w : World} {g n : Nat} {hs : List EvD} {B : Nat → Bool} (h : TwoAt w g n hs B) (hn : hs.length = n) (hg : g < w.heap.size) (hm : n ≤ maxLen) : ∃ pb pc pg po, EvsAt w (some ⟨g, 0, none⟩) g 0 hs pb pc pg po := by
  obtain ⟨F, qb, qc, qg, qo, h1, _, _⟩ := h
  exact ⟨_, _, _, _, h1.evs hn hg hm⟩
theorem TwoAt.made (w : World) (l : List CD) (n : Nat) (T T' : TypeId) : TwoAt ((w.alloc (.cells (madeCells #[.int .i64 0, .bool false, .int .i64 0, .int .i64 0, .int .i64 0, .int .i64 0, .bool false, .int .i64 0, .int .i64 0, .slice none 0 0] (n * 10)) T)).alloc (.cells (madeCells #[.bool false] n) T')) w.heap.size n (empties l) (tkB l 0) := by
  have h := (RowAt.made w w l n T).below (w' := (w.alloc (.cells (madeCells #[.int .i64 0, .bool false, .int .i64 0, .int .i64 0, .int .i64 0, .int .i64 0, .bool false, .int .i64 0, .int .i64 0, .slice none 0 0] (n * 10)) T)).alloc (.cells (madeCells #[.bool false] n) T')) (by simp) (below_alloc _ _)
  obtain ⟨F, qb, qc, qg, qo, h1, h2, h3⟩ := h
  have hz : ∀ i, (evAt (empties l) i).rt.pairs.length = 0 := fun i => by rw [evAt_empties]; rfl
  refine ⟨F, qb, qc, qg, qo, ⟨h1, h2, fun i hi => ⟨fun q => absurd (hz i) q, ⟨fun q => absurd (hz i) q, fun q => absurd (hz i) q, fun k hk => by rw [hz i] at hk; omega, (h3 i hi).1.len⟩, (h3 i hi).2⟩⟩, fun i hi q => absurd (hz i) q, ?_⟩
  have := Vals.made (w.alloc (.cells (madeCells #[.int .i64 0, .bool false, .int .i64 0, .int .i64 0, .int .i64 0, .int .i64 0, .bool false, .int .i64 0, .int .i64 0, .slice none 0 0] (n * 10)) T)) n T' (.bool false)
  have hs1 : (w.alloc (.cells (madeCells #[.int .i64 0, .bool false, .int .i64 0, .int .i64 0, .int .i64 0, .int .i64 0, .bool false, .int .i64 0, .int .i64 0, .slice none 0 0] (n * 10)) T)).heap.size = w.heap.size + 1 := by simp
  rw [hs1] at this
  exact this.fn fun j _ => by rw [tkB_zero]
theorem two_put {w0 w W3 : World} {B0 g n f : Nat} {hs : List EvD} {B B' : Nat → Bool} (h : TwoAt w g n hs B) (hn : hs.length = n) (hf : f < n) (hB : ∀ p, B' p = if p = f then true else B p) (e : EvD) (hz : e.rt = RetD.zero)
    (hW : W3 = setMany g (w.setCell ⟨g + 1, f, none⟩ (.bool true)) (f * 10) (evC e (.slice none 0 0))) (hb : Below B0 w0 w) (hB0 : B0 ≤ g) :
    TwoAt W3 g n (hs.set f e) B' ∧ W3.heap.size = w.heap.size ∧ Below B0 w0 W3 ∧ ∀ b i u, b ≠ g → b ≠ g + 1 → w.cell? ⟨b, i, none⟩ = some u → W3.cell? ⟨b, i, none⟩ = some u := by
  have hl : e.rt.pairs.length = 0 := by rw [hz]; rfl
  have hv : evC e (.slice none 0 0) = evC e (.slice none e.rt.pairs.length 0) := by rw [hl]
  subst hW
  refine ⟨?_, ?_, ?_, fun b i u h1 h2 hc => ?_⟩
  · rw [hv]
    exact (h.mark hB).put hn hf e none 0 0 0 ⟨fun q => absurd hl q, fun q => absurd hl q, fun i hi => by omega, by unfold maxLen; omega⟩ (fun _ => ⟨hl, rfl⟩) (by omega) (fun q => absurd hl q)
  · rw [setMany_size]; simp
  · exact setMany_below hB0 _ (hb.setCell (show B0 ≤ g + 1 by omega) _)
  · refine setMany_other h1 _ ?_
    rw [World.cell?_setCell_other _ _ _ _ (fun q => h2 (congrArg Addr.block q).symm)]
    exact hc
theorem TwoAt.hasV {w : World} {g n : Nat} {hs : List EvD} {B : Nat → Bool} (h : TwoAt w g n hs B) : (∃ F, Vals w g (n * 10) F) ∧ Vals w (g + 1) n (fun p => .bool (B p)) := by
  obtain ⟨F, _, _, _, _, h1, _, h3⟩ := h
  exact ⟨⟨F, h1.1⟩, h3⟩
theorem q1_false {l : List CD} {j : Nat} (h : q1B l j = false) : ∃ f : Nat, (cdAt l j).fr = f ∧ f < cntN l l.length := by
  unfold q1B at h
  simp only [Bool.or_eq_false_iff, decide_eq_false_iff_not, Int.not_lt, ge_iff_le, Int.not_le] at h
  exact ⟨(cdAt l j).fr.toNat, by omega, by omega⟩
end Go.Proofs.Ytlciogcdpiomhaa
