/- Layer 6: places and neighbours; the program's between. Layer 6: the reference's Same, SameRet, Check, Kind, look. Layer 6: the reference's Inside and with. Layer 6: the reference's with. Layer 6: append of a slice that may be nil; lists of pairs of one's own; slices.Clone. Layer 6: the program's Check, Kind, place. Layer 6: slices.BinarySearchFunc at pairs; the program's place. Layer 6: the blocks of the reference's Step. No walk. Layer 6: the reference's Step, kind by kind. Layer 6: the reference's Step, of the kinds that look at one key, and of ranges. Layer 6: the reference's Step, of the kinds that look at one key, and of ranges. Layer 6: the reference's Do. Layer 6: the program's pairAt and between; a clone that is an own row. -/
import Derived.Test.YtljidfaeljpnpaaMPure4
import Derived.Laws.StructEq
import Derived.Laws.OwnMore
import Derived.Lib.SmallJoins
import Derived.Shelf.SlicesE.Clone
import Derived.Deep.LoopGhost



namespace Go.Proofs.Ytljidfaeljpnpaa

open Go.RowKit

theorem below_allocM (w : World) (o : Obj) : Below w.heap.size w (w.alloc o) := (Below.refl _ _).alloc (Nat.le_refl _) _
theorem pair_neqM (a b c d : Int) (w : World) : (binOp .neq 46 (.agg #[.int .i64 a, .int .i64 b]) (.agg #[.int .i64 c, .int .i64 d])).run Try.prog w = .ok (.bool (!(decide (a = c) && decide (b = d)))) w := by
  have u3 := Try.underlying3
  have a3 := Try.isAgg3
  have z3 := Try.sizeOf3
  have hS : Try.prog.underlying 46 = some (.struct (Try.prog.fieldsOf 46)) := by kernel_rfl
  have hp : Try.prog.stoodInHeld 46 = false := by kernel_rfl
  rw [run_neq_struct, show (10000 : Nat) = 9999 + 1 from rfl, run_equalIn_agg w 9999 46 _ _ hS hp]
  simp only [Program.fieldsOf, Try.underlying46]
  go_simp
  by_cases h1 : a = c <;> by_cases h2 : b = d <;> simp [h1, h2]
def plEqM (a b : PL) : Bool := decide (a = b)
def retEqM (a b : RetD) : Bool := (a.ok == b.ok) && (decide (a.key = b.key) && (decide (a.val = b.val) && plEqM a.pairs b.pairs))

theorem pr_infoM : (Try.prog.info? 46).map (fun i => (i.zero, i.size, i.bytes)) = some (some (.agg #[.int .i64 0, .int .i64 0]), 2, 16) := by kernel_rfl
theorem prs_underM : Try.prog.underlying 40 = some (.slice 46) := by kernel_rfl


end Go.Proofs.Ytljidfaeljpnpaa

namespace Go.Proofs.Ytljidfaeljpnpaa

open Go.RowKit

theorem pair_snoc (ps : PL) (k v : Int) : pairCells (ps ++ [(k, v)]) = pairCells ps ++ [.int .i64 k, .int .i64 v] := by rw [pairCells_append]; rfl

end Go.Proofs.Ytljidfaeljpnpaa

namespace Go.Proofs.Ytljidfaeljpnpaa

open Go.RowKit

theorem withN_step (ps : PL) (key val : Int) (drop : Bool) (j : Nat) {L : PL} {d : Bool} (h : withN ps key val drop j = (L, d)) :
    withN ps key val drop (j + 1) = (let t : PL × Bool := if d = false ∧ key ≤ keyAt ps j then (L ++ [(key, val)], true) else (L, d); if keyAt ps j = key then t else (t.1 ++ [(keyAt ps j, valAt ps j)], t.2)) := by
  simp only [withN, h]
theorem own_snoc {w1 w : World} {T : TypeId} {v : Value} {L : PL} {k x : Int} {m : Nat} (h : w1.ownsRow w.heap.size T 2 v (L.length + m) (pairCells L ++ [.int .i64 k, .int .i64 x])) (hm : m = 1 := by rfl) : Hid (w1.ownsRow w.heap.size T 2 v (L ++ [(k, x)]).length (pairCells (L ++ [(k, x)]))) := by
  show w1.ownsRow _ _ _ _ _ _
  subst hm
  rw [List.length_append, pair_snoc]
  exact h
theorem withN_len {ps : PL} {key val : Int} {drop : Bool} {j : Nat} {L : PL} {d : Bool} (h : withN ps key val drop j = (L, d)) : L.length ≤ j + 1 := by
  have := (withN_le ps key val drop j).1
  rw [h] at this
  simp only at this
  split at this <;> omega

end Go.Proofs.Ytljidfaeljpnpaa



namespace Go.Proofs.Ytljidfaeljpnpaa

open Go.RowKit

theorem pairs_noneM (w : World) : PairsAt w none 0 0 [] := ⟨fun h => absurd rfl h, fun h => absurd rfl h, fun i hi => by simp at hi, by simp⟩
theorem grown_reflM (w : World) (r : Option Nat) : w.grownBy w r := by constructor <;> simp

/-- append of a slice, nil or not, empty or not, to an own row. -/
theorem wpList_append_allM {P : Program} {w : World} {ops : Array Oper} {rest : List Oper} {o : Oper} {a : Act} {Q : Exit → Act → World → Prop} (hgd : o.guard = none) (s x : Operand) (t : TypeId)
    (ho : o.op = .call { callee := .builtin .append, args := #[s, x], argTypes := #[t, t] })
    (base : Nat) (e : TypeId) (i : TypeInfo) (z : Value) (size bytes : Nat) (ht : P.underlying t = some (.slice e)) (hi : P.info? e = some i) (hz : i.zero = some z)
    (hsize : i.size = size) (hby : i.bytes = bytes) (hzs : z.cells.size = size) (hsz : 0 < size)
    (v : Value) (n : Nat) (xs : List Value) (hs : a.eval s = v) (hown : w.ownsRow base e size v n xs)
    (sd : Option Addr) (m c : Nat) (news : List Value) (hx : a.eval x = .slice sd m c) (hnone : sd = none → m = 0 ∧ c = 0) (hl : news.length = m * size) (hnews : ∀ ad, sd = some ad → ∀ j u, news[j]? = some u → w.cell? (ad.add j) = some u) (h1 : ∀ u ∈ news, u.oneCell' = true)
    (h63 : n + m ≤ maxLen) (hbytes : (n + m) * bytes ≤ 140737488355328) (hbase : base ≤ w.heap.size)
    (h : ∀ v' w', w'.ownsRow base e size v' (n + m) (xs ++ news) → w.grownBy w' v.ownBlock → (v' = .slice none 0 0 ↔ v = .slice none 0 0 ∧ m = 0) → wpList P ops Q rest (a.put o.dst v') w') : wpList P ops Q (o :: rest) a w := by
  refine wpList_plain hgd fun K hK => ?_
  cases sd with
  | none =>
    obtain ⟨rfl, rfl⟩ := hnone rfl
    have hrun := run_append_owned_none (P := P) (w := w) base t o.type e i size ht hi v n xs hown
    obtain rfl : news = [] := List.length_eq_zero_iff.1 (by simpa using hl)
    unfold Oper.wp
    simp [execOp, ho, resolve, invoke, builtin, hs, hx, hrun, Result.andThen]
    exact hK _ _ (h v w (by simpa using hown) (grown_reflM _ _) (by simp))
  | some ad =>
    obtain ⟨v', w', hr, h2, h3, h4, _⟩ := run_append_own_at (P := P) w base t o.type e i z size bytes ht hi hz hsize hby hzs hsz v n xs hown ad m c news hl (hnews ad rfl) h1 h63 hbytes hbase
    unfold Oper.wp
    simp [execOp, ho, resolve, invoke, builtin, hs, hx, hr, Result.andThen]
    exact hK _ _ (h v' w' h2 h3 h4)


theorem pairCells_atM (ps : PL) (j : Nat) (u : Value) (h : (pairCells ps)[j]? = some u) : j / 2 < ps.length ∧ (j % 2 = 0 → u = .int .i64 (keyAt ps (j / 2))) ∧ (j % 2 = 1 → u = .int .i64 (valAt ps (j / 2))) := by
  have hl : j < ps.length * 2 := by
    obtain ⟨q, _⟩ := List.getElem?_eq_some_iff.1 h
    rwa [pairCells_length] at q
  have hj : j / 2 < ps.length := by omega
  obtain ⟨a, b⟩ := pairCells_get ps (j / 2) hj
  refine ⟨hj, fun e => ?_, fun e => ?_⟩
  · rw [show j / 2 * 2 = j by omega, h] at a; exact Option.some.inj a
  · rw [show j / 2 * 2 + 1 = j by omega, h] at b; exact Option.some.inj b
theorem addr_add'M (b o i : Nat) : (⟨b, o, none⟩ : Addr).add i = ⟨b, o + i, none⟩ := by
  unfold Addr.add
  by_cases h : i = 0 <;> simp [h]
theorem pairs_newsM {w : World} {base : Option Addr} {b o : Nat} {ps : PL} (h : PairsAt w base b o ps) : ∀ ad, base = some ad → ∀ j u, (pairCells ps)[j]? = some u → w.cell? (ad.add j) = some u := by
  intro ad had j u hu
  obtain ⟨hj, h0, h1⟩ := pairCells_atM ps j u hu
  have hb := h.base (by omega)
  rw [had] at hb
  cases hb
  rw [addr_add'M]
  obtain ⟨a, c⟩ := h.cells (j / 2) hj
  rcases Nat.mod_two_eq_zero_or_one j with e | e
  · rw [h0 e, ← a, show o + j / 2 * 2 = o + j by omega]
  · rw [h1 e, ← c, show o + j / 2 * 2 + 1 = o + j by omega]
theorem pairCells_oneM (ps : PL) : ∀ u ∈ pairCells ps, u.oneCell' = true := by
  induction ps with
  | nil => simp [pairCells]
  | cons p t ih => intro u hu; simp [pairCells] at hu; rcases hu with rfl | rfl | hu; rfl; rfl; exact ih u hu

theorem owned_pairsM {w : World} {B : Nat} {e : TypeId} {v : Value} {ps : PL} (h : w.ownsRow B e 2 v (0 + ps.length) ([] ++ pairCells ps)) (hv : v ≠ .slice none 0 0) :
    ∃ g cap, v = .slice (some ⟨g, 0, none⟩) ps.length cap ∧ B ≤ g ∧ g < w.heap.size ∧ (ps.length ≤ maxLen → PairsAt w (some ⟨g, 0, none⟩) g 0 ps) := by
  rw [Nat.zero_add, List.nil_append] at h
  obtain ⟨_, h⟩ := h
  rcases h with ⟨h, _⟩ | ⟨g, cap, cur, rfl, hg, hh, h1, h2, h3, h4⟩
  · exact absurd h hv
  · refine ⟨g, cap, rfl, hg, (Array.getElem?_eq_some_iff.1 hh).1, fun hn => ⟨fun _ => rfl, fun _ => (Array.getElem?_eq_some_iff.1 hh).1, fun i hi => ?_, hn⟩⟩
    have hc : ∀ j, j < ps.length * 2 → w.cell? ⟨g, j, none⟩ = (pairCells ps)[j]? := by
      intro j hj
      rw [← h4, List.getElem?_take, if_pos hj]
      simp [World.cell?, hh]
    obtain ⟨a, b⟩ := pairCells_get ps i hi
    exact ⟨by rw [Nat.zero_add, hc _ (by omega)]; exact a, by rw [Nat.zero_add, hc _ (by omega)]; exact b⟩
theorem grown_cellsM {W w1 : World} {g : Nat} {n c : Nat} (h : W.grownBy w1 (Value.ownBlock (.slice (some ⟨g, 0, none⟩) n c))) : (∀ b o, b < W.heap.size → b ≠ g → w1.cell? ⟨b, o, none⟩ = W.cell? ⟨b, o, none⟩) ∧ (∀ b o, b < W.heap.size → b ≠ g → w1.frozen? ⟨b, o, none⟩ = W.frozen? ⟨b, o, none⟩) :=
  ⟨fun b o hb hn => h.cell_far ⟨b, o, none⟩ hb (fun q => hn (by simpa [Value.ownBlock] using q)), fun b o hb hn => h.frozen_far ⟨b, o, none⟩ hb (fun q => hn (by simpa [Value.ownBlock] using q))⟩

theorem PairsAt.apartM {w : World} {base : Option Addr} {b o : Nat} {ps : PL} (h : PairsAt w base b o ps) {g j : Nat} {v : Value} (hg : g < b) : PairsAt (w.setCell ⟨g, j, none⟩ v) base b o ps := by
  refine ⟨h.base, fun hn => by simpa using h.lt hn, fun i hi => ?_, h.len⟩
  exact ⟨by rw [World.cell?_setCell_other _ _ _ _ (fun q => by have := congrArg Addr.block q; simp at this; omega)]; exact (h.cells i hi).1, by rw [World.cell?_setCell_other _ _ _ _ (fun q => by have := congrArg Addr.block q; simp at this; omega)]; exact (h.cells i hi).2⟩
theorem PairsAt.apartM' {w : World} {base : Option Addr} {b o : Nat} {ps : PL} (h : PairsAt w base b o ps) {g j : Nat} {v : Value} (hg : g ≠ b) : PairsAt (w.setCell ⟨g, j, none⟩ v) base b o ps := by
  refine ⟨h.base, fun hn => by simpa using h.lt hn, fun i hi => ?_, h.len⟩
  exact ⟨by rw [World.cell?_setCell_other _ _ _ _ (fun q => hg (congrArg Addr.block q))]; exact (h.cells i hi).1, by rw [World.cell?_setCell_other _ _ _ _ (fun q => hg (congrArg Addr.block q))]; exact (h.cells i hi).2⟩
def OwnPM (w : World) (B : Nat) (ps : PL) (v : Value) : Prop := ∃ a g cap, v = .slice a ps.length cap ∧ (ps.length ≠ 0 → B ≤ g) ∧ PairsAt w a g 0 ps ∧ (a = none → cap = 0)
theorem OwnPM.below {w w' : World} {B : Nat} {ps : PL} {v : Value} (h : OwnPM w B ps v) (hb : Below w.heap.size w w') : OwnPM w' B ps v := by
  obtain ⟨a, g, cap, e, h1, h2, h3⟩ := h
  exact ⟨a, g, cap, e, h1, h2.below hb, h3⟩
theorem OwnPM.set {w : World} {B : Nat} {ps : PL} {v : Value} (h : OwnPM w B ps v) {g j : Nat} {u : Value} (hg : g < B) : OwnPM (w.setCell ⟨g, j, none⟩ u) B ps v := by
  obtain ⟨a, g', cap, e, h1, h2, h3⟩ := h
  refine ⟨a, g', cap, e, h1, ?_, h3⟩
  by_cases hn : ps.length = 0
  · exact ⟨fun q => absurd hn q, fun q => absurd hn q, fun i hi => by omega, h2.len⟩
  · exact h2.apartM' (by have := h1 hn; omega)
theorem OwnPM.down {w : World} {B B' : Nat} {ps : PL} {v : Value} (h : OwnPM w B ps v) (hB : B' ≤ B) : OwnPM w B' ps v := by
  obtain ⟨a, g, cap, e, h1, h2, h3⟩ := h
  exact ⟨a, g, cap, e, fun q => Nat.le_trans hB (h1 q), h2, h3⟩

set_option maxRecDepth 100000 in
set_option maxHeartbeats 1000000 in
theorem clone_anyM (bp : Option Addr) (gp op cp : Nat) (ps : PL) (w : World) (h : PairsAt w bp gp op ps) (hnil : bp = none → ps.length = 0 ∧ cp = 0) (hbig : ps.length * 16 ≤ 140737488355328) :
    Calls Try.prog 56 #[.slice bp ps.length cp] w fun e w' => ∃ v, e = .returned v ∧ OwnPM w' w.heap.size ps v ∧ Below w.heap.size w w' := by
  have hlen := h.len
  have qn : ∀ (w : World) (a : Option Addr) (n c n' c' : Nat), (binOp .eql 40 (.slice a n c) (.slice none n' c')).run Try.prog w = .ok (.bool a.isNone) w := fun w a n c n' c' => Lib.run_eql_slice_nil w _ _ a n c n' c' prs_underM
  cases bp with
  | none =>
    obtain ⟨h0, rfl⟩ := hnil rfl
    clear hnil h
    obtain rfl : ps = [] := List.length_eq_zero_iff.1 h0
    clear hlen h0 hbig
    show Calls Try.prog 56 #[.slice none 0 0] w _
    go_enter Try.func56, Try.ntmps56
    go_wp2_with fail
    go_ret
    exact ⟨_, rfl, ⟨none, 0, 0, rfl, fun h => absurd rfl h, ⟨fun h => absurd rfl h, fun h => absurd rfl h, fun i hi => by simp at hi, by simp⟩, fun _ => rfl⟩, Below.refl _ _⟩
  | some ad =>
    obtain ⟨i0, hi0, hz0, hz1, hz2⟩ := info_parts pr_infoM
    have HA : Hid _ := h
    clear hnil h
    have ho : (w.alloc (.cells #[] 46)).ownsRow w.heap.size 46 2 (.slice (some ⟨w.heap.size, 0, none⟩) 0 0) 0 [] := ⟨rfl, Or.inr ⟨w.heap.size, 0, #[], rfl, Nat.le_refl _, heap_alloc_at _ _ _ rfl, Nat.le_refl _, by unfold maxLen; omega, rfl, rfl⟩⟩
    have HO : Hid (World.ownsRow _ _ _ _ _ _ _) := ho
    have hnews : ∀ a, some ad = some a → ∀ j u, (pairCells ps)[j]? = some u → (w.alloc (.cells #[] 46)).cell? (a.add j) = some u := pairs_newsM (HA.out.below (below_allocM _ _))
    have HW : Hid _ := hnews
    clear ho hnews
    go_enter Try.func56, Try.ntmps56
    go_wp2_with (first | (at_builtin; (refine wpList_append_allM (by rfl) _ _ _ (by rfl) w.heap.size 46 i0 _ 2 16 prs_underM hi0 hz0 hz1 hz2 rfl (by omega) _ 0 [] (by rfl) HO.out (some ad) ps.length cp (pairCells ps) (by rfl) (fun h => by cases h) (pairCells_length _) HW.out (pairCells_oneM _) (by omega) (by omega) (by simp) ?_); intro v' w1 hown1 hgrow hnl))
    go_ret
    obtain ⟨g, cap, rfl, hg, hgl, hpa⟩ := owned_pairsM hown1 (fun q => by cases (hnl.1 q).1)
    exact ⟨_, rfl, ⟨_, g, cap, rfl, fun _ => hg, hpa hlen, (fun q => by cases q)⟩, Below.grown (below_allocM _ _) hgrow (by simp) (by intro k hk; simp [Value.ownBlock] at hk; omega)⟩
end Go.Proofs.Ytljidfaeljpnpaa


namespace Go.Proofs.Ytljidfaeljpnpaa

open Go.RowKit

set_option maxRecDepth 100000 in
set_option maxHeartbeats 1000000 in
theorem pcheck_any (base : Option Addr) (b o c : Nat) (ps : PL) (w : World) (h : PairsAt w base b o ps) :
    Calls Try.prog 77 #[.slice base ps.length c] w fun e w' => e = .returned (.int .i64 (ckErr ps)) ∧ Below w.heap.size w w' := by
  have hl := h.len
  unfold maxLen at hl
  have HA : Hid _ := h
  clear h
  go_enter Try.func77, Try.ntmps77
  go_wp2_with fail
  go_loopw [3] (fun i wr => ∃ j : Nat, 1 ≤ j ∧ (j ≤ ps.length ∨ j = 1) ∧ i = .int .i64 j ∧ rises ps j = true ∧ Below w.heap.size w wr) (fun i _ => ps.length - (intOf i).toNat)
  case atStart => exact ⟨1, Nat.le_refl _, Or.inr rfl, rfl, rfl, Below.refl _ _⟩
  case round =>
    obtain ⟨j, hj1, hj, rfl, hr, hbw⟩ := hrel
    have HR : Hid _ := hr
    clear hr
    by_cases hlt : j < ps.length
    · obtain rfl : base = some ⟨b, o, none⟩ := HA.out.base (by omega)
      obtain ⟨k, rfl⟩ : ∃ k, j = k + 1 := ⟨j - 1, by omega⟩
      obtain ⟨c0, _⟩ := (HA.out.below hbw).cells (k + 1) hlt
      obtain ⟨c1, _⟩ := (HA.out.below hbw).cells k (by omega)
      have j0 : (0 : Int) ≤ ((k + 1 : Nat) : Int) := Int.natCast_nonneg _
      have j1 : ((k + 1 : Nat) : Int) < (ps.length : Int) := by omega
      have k0 : (0 : Int) ≤ (k : Int) := Int.natCast_nonneg _
      have k1 : (k : Int) < (ps.length : Int) := by omega
      have hw : IntKind.i64.wrap (((k + 1 : Nat) : Int) - 1) = (k : Int) := by rw [show ((k + 1 : Nat) : Int) - 1 = (k : Int) by omega, IntKind.wrap_i64] <;> omega
      have HW : Hid _ := hbw
      clear hbw
      generalize hq : k + 1 = q at *
      by_cases hd : keyAt ps q ≤ keyAt ps k
      · have hd1 : decide (keyAt ps q ≤ keyAt ps k) = true := decide_eq_true hd
        have F : Hid (ckErr ps = 11) := by
          show ckErr ps = 11
          unfold ckErr
          rw [rises_not (j := k) (by omega) (by rw [hq]; omega)]
          rfl
        clear hd
        go_wp2_with fail
        go_quiet (fail)
        go_wp2_with fail
        go_ret
        exact ⟨by rw [F.out]; rfl, below_drewN HW.out _⟩
      · have hd1 : decide (keyAt ps q ≤ keyAt ps k) = false := decide_eq_false hd
        have R2 : Hid (rises ps (q + 1) = true) := by
          show rises ps (q + 1) = true
          subst hq
          show (rises ps (k + 1) && decide (keyAt ps k < keyAt ps (k + 1))) = true
          rw [HR.out, Bool.true_and]
          exact decide_eq_true (by omega)
        clear hd
        go_wp2_with fail
        go_quiet (fail)
        go_wp2_with fail
        exact ⟨⟨q + 1, by omega, Or.inl (by omega), by go_num, R2.out, below_drewN HW.out _⟩, by simp [intOf]; omega⟩
    · have F : Hid (ckErr ps = 0) := by
        show ckErr ps = 0
        unfold ckErr
        rcases hj with q | q
        · have : j = ps.length := by omega
          rw [← this, HR.out]; rfl
        · have : ps.length = 0 ∨ ps.length = 1 := by omega
          rcases this with z | z <;> rw [z] <;> rfl
      go_wp2_with fail
      go_ret
      exact ⟨by rw [F.out]; rfl, hbw⟩

theorem pkind_any (k : Int) (w : World) : Calls Try.prog 45 #[.int .i64 k] w fun e w' => e = .returned (.int .i64 (kdErr k)) ∧ w = w' := by
  unfold kdErr
  by_cases h1 : k < 1
  · rw [if_pos (Or.inl h1)]
    go_enter Try.func45, Try.ntmps45
    go_wp2_with fail
    go_ret
    exact ⟨rfl, rfl⟩
  · by_cases h2 : 9 < k
    · rw [if_pos (Or.inr h2)]
      go_enter Try.func45, Try.ntmps45
      go_wp2_with fail
      go_ret
      exact ⟨rfl, rfl⟩
    · rw [if_neg (by omega)]
      go_enter Try.func45, Try.ntmps45
      go_wp2_with fail
      go_ret
      exact ⟨rfl, rfl⟩


theorem nan_any (a : Int) (w : World) : Calls Try.prog 84 #[.int .i64 a] w fun e w' => e = .returned (.bool false) ∧ w = w' := by
  go_enter Try.func84, Try.ntmps84
  go_wp2_with fail
  go_ret
  exact ⟨by simp, rfl⟩
def cmpI (a b : Int) : Int := if a < b then -1 else if b < a then 1 else 0
theorem cmp_any (a b : Int) (w : World) : Calls Try.prog 71 #[.int .i64 a, .int .i64 b] w fun e w' => e = .returned (.int .i64 (cmpI a b)) ∧ w = w' := by
  unfold cmpI
  by_cases h1 : a < b
  · rw [if_pos h1]
    go_enter Try.func71, Try.ntmps71
    go_wp2_with fail
    refine (nan_any a _).mono ?_
    rintro e w1 ⟨rfl, rfl⟩
    go_wp2_with fail
    refine (nan_any b _).mono ?_
    rintro e w1 ⟨rfl, rfl⟩
    go_wp2_with fail
    go_ret
    exact ⟨rfl, rfl⟩
  · rw [if_neg h1]
    by_cases h2 : b < a
    · rw [if_pos h2]
      go_enter Try.func71, Try.ntmps71
      go_wp2_with fail
      refine (nan_any a _).mono ?_
      rintro e w1 ⟨rfl, rfl⟩
      go_wp2_with fail
      refine (nan_any b _).mono ?_
      rintro e w1 ⟨rfl, rfl⟩
      go_wp2_with fail
      go_ret
      exact ⟨rfl, rfl⟩
    · rw [if_neg h2]
      go_enter Try.func71, Try.ntmps71
      go_wp2_with fail
      refine (nan_any a _).mono ?_
      rintro e w1 ⟨rfl, rfl⟩
      go_wp2_with fail
      refine (nan_any b _).mono ?_
      rintro e w1 ⟨rfl, rfl⟩
      go_wp2_with fail
      go_ret
      exact ⟨rfl, rfl⟩
theorem clo_any (k v key : Int) (w : World) : Calls Try.prog 97 #[.agg #[.int .i64 k, .int .i64 v], .int .i64 key] w fun e w' => e = .returned (.int .i64 (cmpI k key)) ∧ Below w.heap.size w w' := by
  go_enter Try.func97, Try.ntmps97
  go_wp2_with fail
  refine (cmp_any k key _).mono ?_
  rintro e w1 ⟨rfl, rfl⟩
  go_wp2_with fail
  go_ret
  exact ⟨rfl, below_allocM _ _⟩
theorem cmpI_neg {a b : Int} : cmpI a b < 0 ↔ a < b := by unfold cmpI; split <;> (try split) <;> omega
theorem cmpI_zero {a b : Int} : cmpI a b = 0 ↔ a = b := by unfold cmpI; split <;> (try split) <;> omega
end Go.Proofs.Ytljidfaeljpnpaa

namespace Go.Proofs.Ytljidfaeljpnpaa

open Go.RowKit

set_option maxRecDepth 100000 in
set_option maxHeartbeats 2000000 in
theorem bsf_any (base : Option Addr) (b o c : Nat) (ps : PL) (key : Int) (w : World) (h : PairsAt w base b o ps) (hs : Srt ps) :
    Calls Try.prog 96 #[.slice base ps.length c, .int .i64 key, .func (.func 97) #[] #[]] w fun e w' => e = .returned (.tuple #[.int .i64 (posL key ps : Nat), .bool (getK key ps).isSome]) ∧ Below w.heap.size w w' := by
  have hl := h.len
  unfold maxLen at hl
  have HA : Hid _ := h
  have HS : Hid _ := (below_take key hs).2
  have HG : Hid _ := getK_pos key hs
  have HPL : Hid (posL key ps ≤ ps.length) := by show posL key ps ≤ ps.length; unfold posL; exact List.length_filter_le _ _
  clear h hs
  go_enter Try.func96, Try.ntmps96
  go_wp2_with fail
  go_loopw [9, 10] (fun x y wr => ∃ lo hi : Nat, x = .int .i64 lo ∧ y = .int .i64 hi ∧ lo ≤ hi ∧ hi ≤ ps.length ∧ lo ≤ posL key ps ∧ posL key ps ≤ hi ∧ Below w.heap.size w wr) (fun x y _ => (intOf y).toNat - (intOf x).toNat)
  case atStart => exact ⟨0, ps.length, rfl, rfl, Nat.zero_le _, Nat.le_refl _, Nat.zero_le _, HPL.out, Below.refl _ _⟩
  case round =>
    obtain ⟨lo, hi, rfl, rfl, h1, h2, h3, h4, hbw⟩ := hrel
    have HB : Hid _ := hbw
    have H3 : Hid _ := h3
    have H4 : Hid _ := h4
    have s2 := hbw.size
    clear hbw h3 h4
    by_cases hlt : lo < hi
    · obtain rfl : base = some ⟨b, o, none⟩ := HA.out.base (by omega)
      obtain ⟨m, hm⟩ : ∃ m, m = (lo + hi) / 2 := ⟨_, rfl⟩
      obtain ⟨c0, c1⟩ := (HA.out.below HB.out).cells m (by omega)
      have q1 : wrap64 (IntKind.u64.wrap (wrap64 ((lo : Int) + (hi : Int))) / 2) = (m : Int) := by
        have e : IntKind.u64.wrap (wrap64 ((lo : Int) + (hi : Int))) = (lo : Int) + (hi : Int) := by
          simp only [IntKind.wrap, IntKind.bits, IntKind.signed, wrap64]; simp; omega
        rw [e]; unfold wrap64; omega
      have m0 : (0 : Int) ≤ (m : Int) := Int.natCast_nonneg _
      have m1 : (m : Int) < (ps.length : Int) := by omega
      have KM : Hid _ := HS.out m (by omega)
      have hmlo : lo ≤ m := by omega
      have hmhi : m < hi := by omega
      clear hm
      go_wp2_with fail
      refine (clo_any _ _ key _).mono ?_
      rintro e w2 ⟨rfl, hb2⟩
      have B2 : Hid (Below w.heap.size w w2) := HB.out.trans (hb2.mono s2)
      clear hb2 c0 c1
      by_cases hk : keyAt ps m < key
      · have hd : decide (cmpI (keyAt ps m) key < 0) = true := decide_eq_true (cmpI_neg.2 hk)
        have P : Hid (m + 1 ≤ posL key ps) := KM.out.2 hk
        clear hk
        go_wp2_with fail
        exact ⟨⟨m + 1, hi, by go_num, rfl, by omega, h2, P.out, H4.out, B2.out⟩, by simp [intOf]; omega⟩
      · have hd : decide (cmpI (keyAt ps m) key < 0) = false := decide_eq_false (fun q => hk (cmpI_neg.1 q))
        have P : Hid (posL key ps ≤ m) := Nat.le_of_not_lt (fun q => hk (KM.out.1 q))
        clear hk
        go_wp2_with fail
        exact ⟨⟨lo, m, rfl, rfl, by omega, by omega, H3.out, P.out, B2.out⟩, by simp [intOf]; omega⟩
    · have hp : posL key ps = lo := by have := H3.out; have := H4.out; omega
      have HP : Hid _ := hp
      rw [hp] at HG
      by_cases hx : lo < ps.length
      · obtain rfl : base = some ⟨b, o, none⟩ := HA.out.base (by omega)
        obtain ⟨c0, c1⟩ := (HA.out.below HB.out).cells lo (by omega)
        have m0 : (0 : Int) ≤ (lo : Int) := Int.natCast_nonneg _
        have m1 : (lo : Int) < (ps.length : Int) := by omega
        have F : Hid ((getK key ps).isSome = (cmpI (keyAt ps lo) key == 0)) := by
          show (getK key ps).isSome = _
          rw [HG.out]
          by_cases q : keyAt ps lo = key
          · rw [if_pos ⟨hx, q⟩, cmpI_zero.2 q]; rfl
          · rw [if_neg (fun z => q z.2)]; exact (beq_eq_false_iff_ne.2 (fun z => q (cmpI_zero.1 z))).symm
        clear hp
        go_wp2_with fail
        refine (clo_any _ _ key _).mono ?_
        rintro e w2 ⟨rfl, hb2⟩
        have B2 : Hid (Below w.heap.size w w2) := HB.out.trans (hb2.mono s2)
        clear hb2 c0 c1
        go_wp2_with fail
        go_ret2
        exact ⟨by rw [HP.out, F.out]; rfl, B2.out⟩
      · have F : Hid ((getK key ps).isSome = false) := by
          show (getK key ps).isSome = _
          rw [HG.out, if_neg (fun z => hx z.1)]; rfl
        clear hp
        go_wp2_with fail
        go_ret2
        exact ⟨by rw [HP.out, F.out]; rfl, HB.out⟩

theorem place_any (base : Option Addr) (b o c : Nat) (ps : PL) (key : Int) (w : World) (h : PairsAt w base b o ps) (hs : Srt ps) :
    Calls Try.prog 78 #[.slice base ps.length c, .int .i64 key] w fun e w' => e = .returned (.tuple #[.int .i64 (posL key ps : Nat), .bool (getK key ps).isSome]) ∧ Below w.heap.size w w' := by
  have H : Hid (Calls _ _ _ _ _) := bsf_any base b o c ps key w h hs
  clear h hs
  go_enter Try.func78, Try.ntmps78
  go_wp2_with fail
  refine H.out.mono ?_
  rintro e w1 ⟨rfl, hb⟩
  go_wp2_with fail
  go_ret2
  exact ⟨rfl, hb⟩
end Go.Proofs.Ytljidfaeljpnpaa

namespace Go.Proofs.Ytljidfaeljpnpaa

open Go.RowKit

theorem cell_newM (w : World) (cs : Array Value) (T : TypeId) (k : Nat) : (w.alloc (.cells cs T)).cell? ⟨w.heap.size, k, none⟩ = cs[k]? := by
  simp only [World.cell?, heap_alloc_at w (.cells cs T) w.heap.size rfl]
  rfl
theorem frozen_newM (w : World) (cs : Array Value) (T : TypeId) (k : Nat) : (w.alloc (.cells cs T)).frozen? ⟨w.heap.size, k, none⟩ = false := by
  simp only [World.frozen?, heap_alloc_at w (.cells cs T) w.heap.size rfl]
  simp
/-- The operation, the answer to be, the answer so far, in the three blocks behind w. -/
structure StA (wr w : World) (o : OpD) (r : RetD) (v : Value) : Prop where
  below : Below w.heap.size w wr
  size : w.heap.size + 2 < wr.heap.size
  op : wr.cell? ⟨w.heap.size, 0, none⟩ = some (.int .i64 o.kind) ∧ wr.cell? ⟨w.heap.size, 1, none⟩ = some (.int .i64 o.key) ∧ wr.cell? ⟨w.heap.size, 2, none⟩ = some (.int .i64 o.val) ∧ wr.cell? ⟨w.heap.size, 3, none⟩ = some (.int .i64 o.hi)
  res : wr.cell? ⟨w.heap.size + 1, 0, none⟩ = some (.bool false) ∧ wr.cell? ⟨w.heap.size + 1, 1, none⟩ = some (.int .i64 0) ∧ wr.cell? ⟨w.heap.size + 1, 2, none⟩ = some (.int .i64 0) ∧ wr.cell? ⟨w.heap.size + 1, 3, none⟩ = some (.slice none 0 0)
  ret : wr.cell? ⟨w.heap.size + 2, 0, none⟩ = some (.bool r.ok) ∧ wr.cell? ⟨w.heap.size + 2, 1, none⟩ = some (.int .i64 r.key) ∧ wr.cell? ⟨w.heap.size + 2, 2, none⟩ = some (.int .i64 r.val) ∧ wr.cell? ⟨w.heap.size + 2, 3, none⟩ = some v
  free : ∀ i, wr.frozen? ⟨w.heap.size + 1, i, none⟩ = false ∧ wr.frozen? ⟨w.heap.size + 2, i, none⟩ = false
theorem StA.low {wr wr' w : World} {o : OpD} {r : RetD} {v : Value} {B : Nat} (h : StA wr w o r v) (hb : Below B wr wr') (hB : w.heap.size + 2 < B) : StA wr' w o r v := by
  have hs := h.size
  have hz := hb.size
  have q : ∀ i, wr'.cell? ⟨w.heap.size, i, none⟩ = wr.cell? ⟨w.heap.size, i, none⟩ := fun i => hb.cell (p := ⟨w.heap.size, i, none⟩) (show w.heap.size < B by omega)
  have q1 : ∀ i, wr'.cell? ⟨w.heap.size + 1, i, none⟩ = wr.cell? ⟨w.heap.size + 1, i, none⟩ := fun i => hb.cell (p := ⟨w.heap.size + 1, i, none⟩) (show w.heap.size + 1 < B by omega)
  have q2 : ∀ i, wr'.cell? ⟨w.heap.size + 2, i, none⟩ = wr.cell? ⟨w.heap.size + 2, i, none⟩ := fun i => hb.cell (p := ⟨w.heap.size + 2, i, none⟩) (show w.heap.size + 2 < B by omega)
  refine ⟨h.below.trans (hb.mono (by omega)), by omega, ?_, ?_, ?_, fun i => ⟨(hb.frozen (p := ⟨w.heap.size + 1, i, none⟩) (show w.heap.size + 1 < B by omega)).trans (h.free i).1, (hb.frozen (p := ⟨w.heap.size + 2, i, none⟩) (show w.heap.size + 2 < B by omega)).trans (h.free i).2⟩⟩
  · simp only [q]; exact h.op
  · simp only [q1]; exact h.res
  · simp only [q2]; exact h.ret
theorem StA.store {wr w : World} {o : OpD} {r : RetD} {v : Value} (h : StA wr w o r v) (a : Bool) (x y : Int) (ps : PL) (u : Value) : StA ((((wr.setCell ⟨w.heap.size + 2, 0, none⟩ (.bool a)).setCell ⟨w.heap.size + 2, 1, none⟩ (.int .i64 x)).setCell ⟨w.heap.size + 2, 2, none⟩ (.int .i64 y)).setCell ⟨w.heap.size + 2, 3, none⟩ u) w o ⟨a, x, y, ps⟩ u := by
  have hs := h.size
  obtain ⟨a0, a1, a2, a3⟩ := h.op
  obtain ⟨b0, b1, b2, b3⟩ := h.res
  obtain ⟨c0, c1, c2, c3⟩ := h.ret
  have hn : ∀ {i j : Nat}, i ≠ j → (⟨w.heap.size + 2, i, none⟩ : Addr) ≠ ⟨w.heap.size + 2, j, none⟩ := fun e q => e (congrArg Addr.off q)
  have hk : ∀ {i j : Nat}, (⟨w.heap.size + 2, i, none⟩ : Addr) ≠ ⟨w.heap.size + 1, j, none⟩ := fun q => absurd (congrArg Addr.block q) (by simp)
  have hm : ∀ {i j : Nat}, (⟨w.heap.size + 2, i, none⟩ : Addr) ≠ ⟨w.heap.size, j, none⟩ := fun q => absurd (congrArg Addr.block q) (by simp)
  refine ⟨(((h.below.setCell (show w.heap.size ≤ w.heap.size + 2 by omega) _).setCell (show w.heap.size ≤ w.heap.size + 2 by omega) _).setCell (show w.heap.size ≤ w.heap.size + 2 by omega) _).setCell (show w.heap.size ≤ w.heap.size + 2 by omega) _, by simp; omega, ⟨?_, ?_, ?_, ?_⟩, ⟨?_, ?_, ?_, ?_⟩, ⟨?_, ?_, ?_, ?_⟩, fun i => ⟨by simpa using (h.free i).1, by simpa using (h.free i).2⟩⟩
  · rw [World.cell?_setCell_other _ _ _ _ hm, World.cell?_setCell_other _ _ _ _ hm, World.cell?_setCell_other _ _ _ _ hm, World.cell?_setCell_other _ _ _ _ hm]; exact a0
  · rw [World.cell?_setCell_other _ _ _ _ hm, World.cell?_setCell_other _ _ _ _ hm, World.cell?_setCell_other _ _ _ _ hm, World.cell?_setCell_other _ _ _ _ hm]; exact a1
  · rw [World.cell?_setCell_other _ _ _ _ hm, World.cell?_setCell_other _ _ _ _ hm, World.cell?_setCell_other _ _ _ _ hm, World.cell?_setCell_other _ _ _ _ hm]; exact a2
  · rw [World.cell?_setCell_other _ _ _ _ hm, World.cell?_setCell_other _ _ _ _ hm, World.cell?_setCell_other _ _ _ _ hm, World.cell?_setCell_other _ _ _ _ hm]; exact a3
  · rw [World.cell?_setCell_other _ _ _ _ hk, World.cell?_setCell_other _ _ _ _ hk, World.cell?_setCell_other _ _ _ _ hk, World.cell?_setCell_other _ _ _ _ hk]; exact b0
  · rw [World.cell?_setCell_other _ _ _ _ hk, World.cell?_setCell_other _ _ _ _ hk, World.cell?_setCell_other _ _ _ _ hk, World.cell?_setCell_other _ _ _ _ hk]; exact b1
  · rw [World.cell?_setCell_other _ _ _ _ hk, World.cell?_setCell_other _ _ _ _ hk, World.cell?_setCell_other _ _ _ _ hk, World.cell?_setCell_other _ _ _ _ hk]; exact b2
  · rw [World.cell?_setCell_other _ _ _ _ hk, World.cell?_setCell_other _ _ _ _ hk, World.cell?_setCell_other _ _ _ _ hk, World.cell?_setCell_other _ _ _ _ hk]; exact b3
  · rw [World.cell?_setCell_other _ _ _ _ (hn (by omega)), World.cell?_setCell_other _ _ _ _ (hn (by omega)), World.cell?_setCell_other _ _ _ _ (hn (by omega)), World.cell?_setCell_same _ _ _ c0]
  · rw [World.cell?_setCell_other _ _ _ _ (hn (by omega)), World.cell?_setCell_other _ _ _ _ (hn (by omega))]
    exact World.cell?_setCell_same _ _ _ (by rw [World.cell?_setCell_other _ _ _ _ (hn (by omega))]; exact c1)
  · rw [World.cell?_setCell_other _ _ _ _ (hn (by omega))]
    exact World.cell?_setCell_same _ _ _ (by rw [World.cell?_setCell_other _ _ _ _ (hn (by omega)), World.cell?_setCell_other _ _ _ _ (hn (by omega))]; exact c2)
  · exact World.cell?_setCell_same _ _ _ (by rw [World.cell?_setCell_other _ _ _ _ (hn (by omega)), World.cell?_setCell_other _ _ _ _ (hn (by omega)), World.cell?_setCell_other _ _ _ _ (hn (by omega))]; exact c3)
theorem StA.made (w : World) (o : OpD) (T U V : TypeId) : StA (((w.alloc (.cells #[.int .i64 o.kind, .int .i64 o.key, .int .i64 o.val, .int .i64 o.hi] T)).alloc (.cells #[.bool false, .int .i64 0, .int .i64 0, .slice none 0 0] U)).alloc (.cells #[.bool false, .int .i64 0, .int .i64 0, .slice none 0 0] V)) w o RetD.zero (.slice none 0 0) := by
  generalize hA : Obj.cells #[.int .i64 o.kind, .int .i64 o.key, .int .i64 o.val, .int .i64 o.hi] T = A
  generalize hB : Obj.cells #[.bool false, .int .i64 0, .int .i64 0, .slice none 0 0] U = B
  generalize hC : Obj.cells #[.bool false, .int .i64 0, .int .i64 0, .slice none 0 0] V = C
  have z1 : (w.alloc A).heap.size = w.heap.size + 1 := by simp
  have z2 : ((w.alloc A).alloc B).heap.size = w.heap.size + 2 := by simp
  have z3 : (((w.alloc A).alloc B).alloc C).heap.size = w.heap.size + 3 := by simp
  have b1 : Below (w.alloc A).heap.size (w.alloc A) ((w.alloc A).alloc B) := below_allocM _ _
  have b2 : Below ((w.alloc A).alloc B).heap.size ((w.alloc A).alloc B) (((w.alloc A).alloc B).alloc C) := below_allocM _ _
  have ca : ∀ k, (((w.alloc A).alloc B).alloc C).cell? ⟨w.heap.size, k, none⟩ = (#[.int .i64 o.kind, .int .i64 o.key, .int .i64 o.val, .int .i64 o.hi] : Array Value)[k]? := fun k => by
    rw [b2.cell (p := ⟨w.heap.size, k, none⟩) (show w.heap.size < _ by omega), b1.cell (p := ⟨w.heap.size, k, none⟩) (show w.heap.size < _ by omega), ← hA]
    exact cell_newM w _ T k
  have cb : ∀ k, (((w.alloc A).alloc B).alloc C).cell? ⟨w.heap.size + 1, k, none⟩ = (#[.bool false, .int .i64 0, .int .i64 0, .slice none 0 0] : Array Value)[k]? := fun k => by
    rw [b2.cell (p := ⟨w.heap.size + 1, k, none⟩) (show w.heap.size + 1 < _ by omega), ← z1, ← hB]
    exact cell_newM (w.alloc A) _ U k
  have cc : ∀ k, (((w.alloc A).alloc B).alloc C).cell? ⟨w.heap.size + 2, k, none⟩ = (#[.bool false, .int .i64 0, .int .i64 0, .slice none 0 0] : Array Value)[k]? := fun k => by
    rw [← z2, ← hC]
    exact cell_newM ((w.alloc A).alloc B) _ V k
  refine ⟨((below_allocM _ _).alloc (by simp) _).alloc (by simp; omega) _, by omega, ⟨ca 0, ca 1, ca 2, ca 3⟩, ⟨cb 0, cb 1, cb 2, cb 3⟩, ⟨cc 0, cc 1, cc 2, cc 3⟩, fun i => ⟨?_, ?_⟩⟩
  · rw [b2.frozen (p := ⟨w.heap.size + 1, i, none⟩) (show w.heap.size + 1 < _ by omega), ← z1, ← hB]
    exact frozen_newM (w.alloc A) _ U i
  · rw [← z2, ← hC]
    exact frozen_newM ((w.alloc A).alloc B) _ V i
/-- The answer stored into the result. -/
theorem StA.fin {wr w : World} {o : OpD} {r : RetD} {v : Value} (h : StA wr w o r v) (a : Bool) (x y : Int) (u : Value) :
    let W := (((wr.setCell ⟨w.heap.size + 1, 0, none⟩ (.bool a)).setCell ⟨w.heap.size + 1, 1, none⟩ (.int .i64 x)).setCell ⟨w.heap.size + 1, 2, none⟩ (.int .i64 y)).setCell ⟨w.heap.size + 1, 3, none⟩ u
    (W.cell? ⟨w.heap.size + 1, 0, none⟩ = some (.bool a) ∧ W.cell? ⟨w.heap.size + 1, 1, none⟩ = some (.int .i64 x) ∧ W.cell? ⟨w.heap.size + 1, 2, none⟩ = some (.int .i64 y) ∧ W.cell? ⟨w.heap.size + 1, 3, none⟩ = some u) ∧ Below w.heap.size w W ∧ ∀ B ps z, w.heap.size + 1 < B → OwnPM wr B ps z → OwnPM W B ps z := by
  intro W
  obtain ⟨b0, b1, b2, b3⟩ := h.res
  have hn : ∀ {i j : Nat}, i ≠ j → (⟨w.heap.size + 1, i, none⟩ : Addr) ≠ ⟨w.heap.size + 1, j, none⟩ := fun e q => e (congrArg Addr.off q)
  refine ⟨⟨?_, ?_, ?_, ?_⟩, (((h.below.setCell (show w.heap.size ≤ w.heap.size + 1 by omega) _).setCell (show w.heap.size ≤ w.heap.size + 1 by omega) _).setCell (show w.heap.size ≤ w.heap.size + 1 by omega) _).setCell (show w.heap.size ≤ w.heap.size + 1 by omega) _, fun B ps z hB ho => (((ho.set hB).set hB).set hB).set hB⟩
  · show World.cell? (World.setCell _ _ _) _ = _
    rw [World.cell?_setCell_other _ _ _ _ (hn (by omega)), World.cell?_setCell_other _ _ _ _ (hn (by omega)), World.cell?_setCell_other _ _ _ _ (hn (by omega)), World.cell?_setCell_same _ _ _ b0]
  · show World.cell? (World.setCell _ _ _) _ = _
    rw [World.cell?_setCell_other _ _ _ _ (hn (by omega)), World.cell?_setCell_other _ _ _ _ (hn (by omega))]
    exact World.cell?_setCell_same _ _ _ (by rw [World.cell?_setCell_other _ _ _ _ (hn (by omega))]; exact b1)
  · show World.cell? (World.setCell _ _ _) _ = _
    rw [World.cell?_setCell_other _ _ _ _ (hn (by omega))]
    exact World.cell?_setCell_same _ _ _ (by rw [World.cell?_setCell_other _ _ _ _ (hn (by omega)), World.cell?_setCell_other _ _ _ _ (hn (by omega))]; exact b2)
  · exact World.cell?_setCell_same _ _ _ (by rw [World.cell?_setCell_other _ _ _ _ (hn (by omega)), World.cell?_setCell_other _ _ _ _ (hn (by omega)), World.cell?_setCell_other _ _ _ _ (hn (by omega))]; exact b3)
end Go.Proofs.Ytljidfaeljpnpaa

namespace Go.Proofs.Ytljidfaeljpnpaa

open Go.RowKit
end Go.Proofs.Ytljidfaeljpnpaa

namespace Go.Proofs.Ytljidfaeljpnpaa

open Go.RowKit

theorem StA.made3 (w : World) (o : OpD) (T U V : TypeId) (a : Bool) (x y : Int) (qs : PL) (u : Value) : StA (((w.alloc (.cells #[.int .i64 o.kind, .int .i64 o.key, .int .i64 o.val, .int .i64 o.hi] T)).alloc (.cells #[.bool false, .int .i64 0, .int .i64 0, .slice none 0 0] U)).alloc (.cells #[.bool a, .int .i64 x, .int .i64 y, u] V)) w o ⟨a, x, y, qs⟩ u := by
  generalize hA : Obj.cells #[.int .i64 o.kind, .int .i64 o.key, .int .i64 o.val, .int .i64 o.hi] T = A
  generalize hB : Obj.cells #[.bool false, .int .i64 0, .int .i64 0, .slice none 0 0] U = B
  generalize hC : Obj.cells #[.bool a, .int .i64 x, .int .i64 y, u] V = C
  have z1 : (w.alloc A).heap.size = w.heap.size + 1 := by simp
  have z2 : ((w.alloc A).alloc B).heap.size = w.heap.size + 2 := by simp
  have z3 : (((w.alloc A).alloc B).alloc C).heap.size = w.heap.size + 3 := by simp
  have b1 : Below (w.alloc A).heap.size (w.alloc A) ((w.alloc A).alloc B) := below_allocM _ _
  have b2 : Below ((w.alloc A).alloc B).heap.size ((w.alloc A).alloc B) (((w.alloc A).alloc B).alloc C) := below_allocM _ _
  have ca : ∀ k, (((w.alloc A).alloc B).alloc C).cell? ⟨w.heap.size, k, none⟩ = (#[.int .i64 o.kind, .int .i64 o.key, .int .i64 o.val, .int .i64 o.hi] : Array Value)[k]? := fun k => by
    rw [b2.cell (p := ⟨w.heap.size, k, none⟩) (show w.heap.size < _ by omega), b1.cell (p := ⟨w.heap.size, k, none⟩) (show w.heap.size < _ by omega), ← hA]
    exact cell_newM w _ T k
  have cb : ∀ k, (((w.alloc A).alloc B).alloc C).cell? ⟨w.heap.size + 1, k, none⟩ = (#[.bool false, .int .i64 0, .int .i64 0, .slice none 0 0] : Array Value)[k]? := fun k => by
    rw [b2.cell (p := ⟨w.heap.size + 1, k, none⟩) (show w.heap.size + 1 < _ by omega), ← z1, ← hB]
    exact cell_newM (w.alloc A) _ U k
  have cc : ∀ k, (((w.alloc A).alloc B).alloc C).cell? ⟨w.heap.size + 2, k, none⟩ = (#[.bool a, .int .i64 x, .int .i64 y, u] : Array Value)[k]? := fun k => by
    rw [← z2, ← hC]
    exact cell_newM ((w.alloc A).alloc B) _ V k
  refine ⟨((below_allocM _ _).alloc (by simp) _).alloc (by simp; omega) _, by omega, ⟨ca 0, ca 1, ca 2, ca 3⟩, ⟨cb 0, cb 1, cb 2, cb 3⟩, ⟨cc 0, cc 1, cc 2, cc 3⟩, fun i => ⟨?_, ?_⟩⟩
  · rw [b2.frozen (p := ⟨w.heap.size + 1, i, none⟩) (show w.heap.size + 1 < _ by omega), ← z1, ← hB]
    exact frozen_newM (w.alloc A) _ U i
  · rw [← z2, ← hC]
    exact frozen_newM ((w.alloc A).alloc B) _ V i

end Go.Proofs.Ytljidfaeljpnpaa

namespace Go.Proofs.Ytljidfaeljpnpaa

open Go.RowKit
end Go.Proofs.Ytljidfaeljpnpaa

namespace Go.Proofs.Ytljidfaeljpnpaa

open Go.RowKit

/-- The operation and the answer to be, in the two blocks behind w. -/
structure StB (wr w : World) (o : OpD) : Prop where
  below : Below w.heap.size w wr
  size : w.heap.size + 1 < wr.heap.size
  op : wr.cell? ⟨w.heap.size, 0, none⟩ = some (.int .i64 o.kind) ∧ wr.cell? ⟨w.heap.size, 1, none⟩ = some (.int .i64 o.key) ∧ wr.cell? ⟨w.heap.size, 2, none⟩ = some (.int .i64 o.val) ∧ wr.cell? ⟨w.heap.size, 3, none⟩ = some (.int .i64 o.hi)
  res : wr.cell? ⟨w.heap.size + 1, 0, none⟩ = some (.bool false) ∧ wr.cell? ⟨w.heap.size + 1, 1, none⟩ = some (.int .i64 0) ∧ wr.cell? ⟨w.heap.size + 1, 2, none⟩ = some (.int .i64 0) ∧ wr.cell? ⟨w.heap.size + 1, 3, none⟩ = some (.slice none 0 0)
  free : ∀ i, wr.frozen? ⟨w.heap.size + 1, i, none⟩ = false
theorem StB.low {wr wr' w : World} {o : OpD} {B : Nat} (h : StB wr w o) (hb : Below B wr wr') (hB : w.heap.size + 1 < B) : StB wr' w o := by
  have hs := h.size
  have hz := hb.size
  have q : ∀ i, wr'.cell? ⟨w.heap.size, i, none⟩ = wr.cell? ⟨w.heap.size, i, none⟩ := fun i => hb.cell (p := ⟨w.heap.size, i, none⟩) (show w.heap.size < B by omega)
  have q1 : ∀ i, wr'.cell? ⟨w.heap.size + 1, i, none⟩ = wr.cell? ⟨w.heap.size + 1, i, none⟩ := fun i => hb.cell (p := ⟨w.heap.size + 1, i, none⟩) (show w.heap.size + 1 < B by omega)
  refine ⟨h.below.trans (hb.mono (by omega)), by omega, ?_, ?_, fun i => (hb.frozen (p := ⟨w.heap.size + 1, i, none⟩) (show w.heap.size + 1 < B by omega)).trans (h.free i)⟩
  · simp only [q]; exact h.op
  · simp only [q1]; exact h.res
theorem StB.made (w : World) (o : OpD) (T U : TypeId) : StB ((w.alloc (.cells #[.int .i64 o.kind, .int .i64 o.key, .int .i64 o.val, .int .i64 o.hi] T)).alloc (.cells #[.bool false, .int .i64 0, .int .i64 0, .slice none 0 0] U)) w o := by
  generalize hA : Obj.cells #[.int .i64 o.kind, .int .i64 o.key, .int .i64 o.val, .int .i64 o.hi] T = A
  generalize hB : Obj.cells #[.bool false, .int .i64 0, .int .i64 0, .slice none 0 0] U = B
  have z1 : (w.alloc A).heap.size = w.heap.size + 1 := by simp
  have z2 : ((w.alloc A).alloc B).heap.size = w.heap.size + 2 := by simp
  have b1 : Below (w.alloc A).heap.size (w.alloc A) ((w.alloc A).alloc B) := below_allocM _ _
  have ca : ∀ k, ((w.alloc A).alloc B).cell? ⟨w.heap.size, k, none⟩ = (#[.int .i64 o.kind, .int .i64 o.key, .int .i64 o.val, .int .i64 o.hi] : Array Value)[k]? := fun k => by
    rw [b1.cell (p := ⟨w.heap.size, k, none⟩) (show w.heap.size < _ by omega), ← hA]
    exact cell_newM w _ T k
  have cb : ∀ k, ((w.alloc A).alloc B).cell? ⟨w.heap.size + 1, k, none⟩ = (#[.bool false, .int .i64 0, .int .i64 0, .slice none 0 0] : Array Value)[k]? := fun k => by
    rw [← z1, ← hB]
    exact cell_newM (w.alloc A) _ U k
  refine ⟨(below_allocM _ _).alloc (by simp) _, by omega, ⟨ca 0, ca 1, ca 2, ca 3⟩, ⟨cb 0, cb 1, cb 2, cb 3⟩, fun i => ?_⟩
  rw [← z1, ← hB]
  exact frozen_newM (w.alloc A) _ U i
theorem StB.fin {wr w : World} {o : OpD} (h : StB wr w o) (a : Bool) (x y : Int) (u : Value) :
    let W := (((wr.setCell ⟨w.heap.size + 1, 0, none⟩ (.bool a)).setCell ⟨w.heap.size + 1, 1, none⟩ (.int .i64 x)).setCell ⟨w.heap.size + 1, 2, none⟩ (.int .i64 y)).setCell ⟨w.heap.size + 1, 3, none⟩ u
    (W.cell? ⟨w.heap.size + 1, 0, none⟩ = some (.bool a) ∧ W.cell? ⟨w.heap.size + 1, 1, none⟩ = some (.int .i64 x) ∧ W.cell? ⟨w.heap.size + 1, 2, none⟩ = some (.int .i64 y) ∧ W.cell? ⟨w.heap.size + 1, 3, none⟩ = some u) ∧ Below w.heap.size w W ∧ ∀ B ps z, w.heap.size + 1 < B → OwnPM wr B ps z → OwnPM W B ps z := by
  intro W
  obtain ⟨b0, b1, b2, b3⟩ := h.res
  have hn : ∀ {i j : Nat}, i ≠ j → (⟨w.heap.size + 1, i, none⟩ : Addr) ≠ ⟨w.heap.size + 1, j, none⟩ := fun e q => e (congrArg Addr.off q)
  refine ⟨⟨?_, ?_, ?_, ?_⟩, (((h.below.setCell (show w.heap.size ≤ w.heap.size + 1 by omega) _).setCell (show w.heap.size ≤ w.heap.size + 1 by omega) _).setCell (show w.heap.size ≤ w.heap.size + 1 by omega) _).setCell (show w.heap.size ≤ w.heap.size + 1 by omega) _, fun B ps z hB ho => (((ho.set hB).set hB).set hB).set hB⟩
  · show World.cell? (World.setCell _ _ _) _ = _
    rw [World.cell?_setCell_other _ _ _ _ (hn (by omega)), World.cell?_setCell_other _ _ _ _ (hn (by omega)), World.cell?_setCell_other _ _ _ _ (hn (by omega)), World.cell?_setCell_same _ _ _ b0]
  · show World.cell? (World.setCell _ _ _) _ = _
    rw [World.cell?_setCell_other _ _ _ _ (hn (by omega)), World.cell?_setCell_other _ _ _ _ (hn (by omega))]
    exact World.cell?_setCell_same _ _ _ (by rw [World.cell?_setCell_other _ _ _ _ (hn (by omega))]; exact b1)
  · show World.cell? (World.setCell _ _ _) _ = _
    rw [World.cell?_setCell_other _ _ _ _ (hn (by omega))]
    exact World.cell?_setCell_same _ _ _ (by rw [World.cell?_setCell_other _ _ _ _ (hn (by omega)), World.cell?_setCell_other _ _ _ _ (hn (by omega))]; exact b2)
  · exact World.cell?_setCell_same _ _ _ (by rw [World.cell?_setCell_other _ _ _ _ (hn (by omega)), World.cell?_setCell_other _ _ _ _ (hn (by omega)), World.cell?_setCell_other _ _ _ _ (hn (by omega))]; exact b3)

/-- The error of an operation on a list; what is answered beside it. -/
def doErr (ps : PL) (o : OpD) : Int := if ckErr ps = 0 then kdErr o.kind else 11
def doL (ps : PL) (o : OpD) : PL := if doErr ps o = 0 then stepL ps o else []
def doR (ps : PL) (o : OpD) : RetD := if doErr ps o = 0 then stepR ps o else RetD.zero
theorem OwnPM.nil (w : World) (B : Nat) : OwnPM w B [] (.slice none 0 0) := ⟨none, 0, 0, rfl, fun q => absurd rfl q, pairs_noneM _, fun _ => rfl⟩
def DoP (f : FuncId) (base : Option Addr) (c : Nat) (ps : PL) (o : OpD) (w : World) : Prop :=
  Calls Try.prog f #[.slice base ps.length c, .agg #[.int .i64 o.kind, .int .i64 o.key, .int .i64 o.val, .int .i64 o.hi]] w fun e w' => ∃ v1 a2 n2 c2, e = .returned (.tuple #[v1, .agg #[.bool (doR ps o).ok, .int .i64 (doR ps o).key, .int .i64 (doR ps o).val, .slice a2 n2 c2], .int .i64 (doErr ps o)]) ∧ Below w.heap.size w w' ∧ OwnPM w' w.heap.size (doL ps o) v1 ∧ OwnPM w' w.heap.size (doR ps o).pairs (.slice a2 n2 c2)

end Go.Proofs.Ytljidfaeljpnpaa


namespace Go.Proofs.Ytljidfaeljpnpaa

open Go.RowKit

/-- The pair at a place, if there is such a place. -/
def pAt (ps : PL) (i : Int) : Option (Int × Int) := if 0 ≤ i ∧ i < (ps.length : Int) then some (keyAt ps i.toNat, valAt ps i.toNat) else none
theorem store4 {wr : World} {N : Nat} {x0 x1 x2 x3 : Value} (b0 : wr.cell? ⟨N, 0, none⟩ = some x0) (b1 : wr.cell? ⟨N, 1, none⟩ = some x1) (b2 : wr.cell? ⟨N, 2, none⟩ = some x2) (b3 : wr.cell? ⟨N, 3, none⟩ = some x3) (v0 v1 v2 v3 : Value) :
    let W := (((wr.setCell ⟨N, 0, none⟩ v0).setCell ⟨N, 1, none⟩ v1).setCell ⟨N, 2, none⟩ v2).setCell ⟨N, 3, none⟩ v3
    W.cell? ⟨N, 0, none⟩ = some v0 ∧ W.cell? ⟨N, 1, none⟩ = some v1 ∧ W.cell? ⟨N, 2, none⟩ = some v2 ∧ W.cell? ⟨N, 3, none⟩ = some v3 := by
  intro W
  have hn : ∀ {i j : Nat}, i ≠ j → (⟨N, i, none⟩ : Addr) ≠ ⟨N, j, none⟩ := fun e q => e (congrArg Addr.off q)
  refine ⟨?_, ?_, ?_, ?_⟩
  · show World.cell? (World.setCell _ _ _) _ = _
    rw [World.cell?_setCell_other _ _ _ _ (hn (by omega)), World.cell?_setCell_other _ _ _ _ (hn (by omega)), World.cell?_setCell_other _ _ _ _ (hn (by omega)), World.cell?_setCell_same _ _ _ b0]
  · show World.cell? (World.setCell _ _ _) _ = _
    rw [World.cell?_setCell_other _ _ _ _ (hn (by omega)), World.cell?_setCell_other _ _ _ _ (hn (by omega))]
    exact World.cell?_setCell_same _ _ _ (by rw [World.cell?_setCell_other _ _ _ _ (hn (by omega))]; exact b1)
  · show World.cell? (World.setCell _ _ _) _ = _
    rw [World.cell?_setCell_other _ _ _ _ (hn (by omega))]
    exact World.cell?_setCell_same _ _ _ (by rw [World.cell?_setCell_other _ _ _ _ (hn (by omega)), World.cell?_setCell_other _ _ _ _ (hn (by omega))]; exact b2)
  · exact World.cell?_setCell_same _ _ _ (by rw [World.cell?_setCell_other _ _ _ _ (hn (by omega)), World.cell?_setCell_other _ _ _ _ (hn (by omega)), World.cell?_setCell_other _ _ _ _ (hn (by omega))]; exact b3)
theorem below4 {w wr : World} {B N : Nat} (h : Below B w wr) (hN : B ≤ N) (v0 v1 v2 v3 : Value) : Below B w ((((wr.setCell ⟨N, 0, none⟩ v0).setCell ⟨N, 1, none⟩ v1).setCell ⟨N, 2, none⟩ v2).setCell ⟨N, 3, none⟩ v3) :=
  (((h.setCell hN _).setCell hN _).setCell hN _).setCell hN _

set_option maxRecDepth 100000 in
set_option maxHeartbeats 1000000 in
theorem pairAt_any (base : Option Addr) (b o c : Nat) (ps : PL) (i : Int) (w : World) (h : PairsAt w base b o ps) :
    Calls Try.prog 79 #[.slice base ps.length c, .int .i64 i] w fun e w' => e = .returned (.agg #[.bool (tellR (pAt ps i)).ok, .int .i64 (tellR (pAt ps i)).key, .int .i64 (tellR (pAt ps i)).val, .slice none 0 0]) ∧ Below w.heap.size w w' := by
  have HA : Hid _ := h
  clear h
  by_cases h1 : i < 0
  · have E : Hid (pAt ps i = none) := by show pAt ps i = none; unfold pAt; rw [if_neg (by omega)]
    go_enter Try.func79, Try.ntmps79
    go_wp2_with fail
    refine bodyPost_ret (v := .agg #[.bool false, .int .i64 0, .int .i64 0, .slice none 0 0]) (by simp [results, Try.results79, go_sem]) rfl ⟨by rw [E.out]; rfl, below_allocM _ _⟩
  · by_cases h2 : i < (ps.length : Int)
    · obtain ⟨j, rfl⟩ : ∃ j : Nat, i = (j : Int) := ⟨i.toNat, by omega⟩
      have E : Hid (pAt ps (j : Int) = some (keyAt ps j, valAt ps j)) := by show pAt ps (j : Int) = _; unfold pAt; rw [if_pos (by omega)]; rfl
      obtain rfl : base = some ⟨b, o, none⟩ := HA.out.base (by omega)
      have HA2 := HA.out.below (below_allocM w (.cells #[.bool false, .int .i64 0, .int .i64 0, .slice none 0 0] 42))
      obtain ⟨c0, c1⟩ := HA2.cells j (by omega)
      have zb : b < w.heap.size := HA.out.lt (by omega)
      have hd : decide ((ps.length : Int) ≤ (j : Int)) = false := decide_eq_false (by omega)
      have j0 : (0 : Int) ≤ (j : Int) := Int.natCast_nonneg _
      clear HA2
      go_enter Try.func79, Try.ntmps79
      go_wp2_with fail
      go_region
      go_wp2_with fail
      refine bodyPost_ret (v := .agg #[.bool true, .int .i64 (keyAt ps j), .int .i64 (valAt ps j), .slice none 0 0]) (by simp [results, Try.results79, go_sem]) rfl ⟨by rw [E.out]; rfl, (below_allocM _ _).drew⟩
    · have E : Hid (pAt ps i = none) := by show pAt ps i = none; unfold pAt; rw [if_neg (by omega)]
      have hd : decide ((ps.length : Int) ≤ i) = true := decide_eq_true (by omega)
      go_enter Try.func79, Try.ntmps79
      go_wp2_with fail
      refine bodyPost_ret (v := .agg #[.bool false, .int .i64 0, .int .i64 0, .slice none 0 0]) (by simp [results, Try.results79, go_sem]) rfl ⟨by rw [E.out]; rfl, below_allocM _ _⟩
end Go.Proofs.Ytljidfaeljpnpaa

namespace Go.Proofs.Ytljidfaeljpnpaa

open Go.RowKit

theorem posL_zero {key : Int} {t : PL} (h : ∀ x ∈ t, ¬ x.1 < key) : posL key t = 0 := by
  unfold posL
  rw [List.length_eq_zero_iff, List.filter_eq_nil_iff]
  intro x hx
  simpa using h x hx
theorem posL_succ (key : Int) : ∀ {ps : PL}, Srt ps → posL (key + 1) ps = posL key ps + hasK key ps
  | [], _ => by simp [posL, hasK, getK]
  | p :: t, h => by
    obtain ⟨h1, h2⟩ := List.pairwise_cons.1 h
    rw [posL_cons _ h, posL_cons _ h]
    by_cases q : p.1 < key
    · rw [if_pos (by omega), if_pos q, hasK_ne (by omega), posL_succ key h2]; omega
    · rw [if_neg q]
      by_cases q2 : p.1 = key
      · rw [if_pos (by omega), hasK_eq q2, posL_zero (fun x hx => by have := h1 x hx; omega)]
      · rw [if_neg (by omega), hasK_ne q2, hasK_none (fun x hx => by have := h1 x hx; omega)]
theorem hasK_some (key : Int) (ps : PL) : hasK key ps = if (getK key ps).isSome then 1 else 0 := by
  unfold hasK
  cases getK key ps <;> rfl
def NilOk (a : Option Addr) (n c : Nat) : Prop := a = none → n = 0 ∧ c = 0
theorem nb_next (ps : PL) (key : Int) (h : Srt ps) : nbN ps 5 key ps.length = pAt ps ((posL (key + 1) ps : Nat) : Int) := by
  rw [nbN_next ps key _ (Nat.le_refl _), List.take_length]
  have e : (ps.filter fun p => decide (key < p.1)) = ps.filter fun p => decide (key + 1 ≤ p.1) := by
    apply List.filter_congr
    intro x _
    by_cases q : key < x.1 <;> simp [q] <;> omega
  rw [e, filter_from (key + 1) h]
  unfold pAt
  have hl := posL_le (key + 1) ps
  by_cases q : posL (key + 1) ps < ps.length
  · rw [if_pos (by omega), List.head?_drop, pair_eta ps _ q]; rfl
  · rw [if_neg (by omega), List.drop_eq_nil_of_le (by omega)]; rfl
theorem nb_back (ps : PL) (key : Int) (h : Srt ps) : nbN ps 6 key ps.length = pAt ps (((posL key ps : Nat) : Int) - 1) := by
  rw [nbN_back ps key _ (Nat.le_refl _), List.take_length, (below_take key h).1]
  unfold pAt
  have hl := posL_le key ps
  rw [List.getLast?_eq_getElem?, List.length_take, Nat.min_eq_left hl]
  by_cases q : posL key ps = 0
  · rw [if_neg (by omega), q]; simp
  · rw [if_pos (by omega), List.getElem?_take, if_pos (by omega), show (((posL key ps : Nat) : Int) - 1).toNat = posL key ps - 1 by omega, pair_eta ps _ (by omega)]
theorem nb_min (ps : PL) (key : Int) : nbN ps 7 key ps.length = pAt ps 0 := by
  rw [law_min]
  unfold pAt
  by_cases q : ps.length = 0
  · rw [if_neg (by omega), List.getElem?_eq_none (by omega)]
  · rw [if_pos (by omega), pair_eta ps 0 (by omega)]; rfl
theorem nb_max (ps : PL) (key : Int) : nbN ps 8 key ps.length = pAt ps ((ps.length : Int) - 1) := by
  rw [law_max]
  unfold pAt
  by_cases q : ps.length = 0
  · rw [if_neg (by omega), List.getElem?_eq_none (by omega)]
  · rw [if_pos (by omega), show ((ps.length : Int) - 1).toNat = ps.length - 1 by omega, pair_eta ps _ (by omega)]
theorem key_sub (ps : PL) (f t i : Nat) (hi : f + i < t) : keyAt ((ps.take t).drop f) i = keyAt ps (f + i) ∧ valAt ((ps.take t).drop f) i = valAt ps (f + i) := by
  simp [keyAt, valAt, List.getD_eq_getElem?_getD, hi]
/-- A piece of the pairs. -/
theorem PairsAt.sub {w : World} {b o : Nat} {ps : PL} {A : Option Addr} (h : PairsAt w (some ⟨b, o, none⟩) b o ps) (f t : Nat) (ht : t ≤ ps.length) (hA : f < t → A = some ⟨b, o + f * 2, none⟩) : PairsAt w A b (o + f * 2) ((ps.take t).drop f) := by
  have hl : ((ps.take t).drop f).length = t - f := by simp; omega
  refine ⟨fun q => hA (by omega), fun q => h.lt (by omega), fun i hi => ?_, ?_⟩
  · obtain ⟨k, v⟩ := key_sub ps f t i (by omega)
    obtain ⟨c0, c1⟩ := h.cells (f + i) (by omega)
    rw [k, v, show o + f * 2 + i * 2 = o + (f + i) * 2 by omega]
    exact ⟨c0, c1⟩
  · have := h.len; omega

set_option maxRecDepth 100000 in
set_option maxHeartbeats 1000000 in
theorem between_any (base : Option Addr) (b o c : Nat) (ps : PL) (lo hi : Int) (w : World) (h : PairsAt w base b o ps) (hs : Srt ps) (hnil : base = none → ps.length = 0 ∧ c = 0) (hcap : ps.length ≤ c) (hcm : c ≤ maxLen) :
    Calls Try.prog 80 #[.slice base ps.length c, .int .i64 lo, .int .i64 hi] w fun e w' => ∃ a o' c', e = .returned (.slice a (inL lo hi ps).length c') ∧ Below w.heap.size w w' ∧ PairsAt w' a b o' (inL lo hi ps) ∧ NilOk a (inL lo hi ps).length c' := by
  unfold maxLen at hcm
  have HA : Hid _ := h
  have HS : Hid _ := hs
  have HNIL : Hid _ := hnil
  clear h hs hnil
  by_cases hlh : hi < lo
  · have E : Hid (inL lo hi ps = []) := by
      show inL lo hi ps = []
      unfold inL
      rw [List.filter_eq_nil_iff]
      intro x _
      simp; omega
    go_enter Try.func80, Try.ntmps80
    go_wp2_with fail
    go_ret
    exact ⟨none, 0, 0, by rw [E.out]; rfl, Below.refl _ _, by rw [E.out]; exact ⟨fun h => absurd rfl h, fun h => absurd rfl h, fun i hi => by simp at hi, by simp⟩, fun _ => ⟨by rw [E.out]; rfl, rfl⟩⟩
  · have P1 : Hid (∀ W, PairsAt W base b o ps → Calls Try.prog 78 #[.slice base ps.length c, .int .i64 lo] W fun e w' => e = .returned (.tuple #[.int .i64 (posL lo ps : Nat), .bool (getK lo ps).isSome]) ∧ Below W.heap.size W w') := fun W hW => place_any base b o c ps lo W hW HS.out
    have P2 : Hid (∀ W, PairsAt W base b o ps → Calls Try.prog 78 #[.slice base ps.length c, .int .i64 hi] W fun e w' => e = .returned (.tuple #[.int .i64 (posL hi ps : Nat), .bool (getK hi ps).isSome]) ∧ Below W.heap.size W w') := fun W hW => place_any base b o c ps hi W hW HS.out
    have f1 := posL_mono (show lo ≤ hi by omega) ps
    have f2 := posL_le (hi + 1) ps
    have f3 := posL_succ hi HS.out
    rw [hasK_some] at f3
    have F4 : Hid (inL lo hi ps = (ps.take (posL (hi + 1) ps)).drop (posL lo ps)) := inL_pos lo hi HS.out
    obtain ⟨f, hf⟩ : ∃ f, f = posL lo ps := ⟨_, rfl⟩
    obtain ⟨t, ht⟩ : ∃ t, t = posL (hi + 1) ps := ⟨_, rfl⟩
    obtain ⟨m, hm⟩ : ∃ m, m = posL hi ps := ⟨_, rfl⟩
    obtain ⟨q, hq⟩ : ∃ q, q = (getK hi ps).isSome := ⟨_, rfl⟩
    obtain ⟨q', hq'⟩ : ∃ q', q' = (getK lo ps).isSome := ⟨_, rfl⟩
    rw [← hf, ← ht] at F4
    rw [← ht, ← hm, ← hq] at f3
    rw [← hf, ← hm] at f1
    rw [← ht] at f2
    rw [← hf, ← hq'] at P1
    rw [← hm, ← hq] at P2
    clear hf ht hm hq hq'
    have HL : Hid ((inL lo hi ps).length = t - f) := by show (inL lo hi ps).length = _; rw [F4.out]; simp; omega
    have t0 : (0 : Int) ≤ (f : Int) := Int.natCast_nonneg _
    have SUBS : Hid (∀ W A, PairsAt W base b o ps → base = some ⟨b, o, none⟩ → (f < t → A = some ⟨b, o + f * 2, none⟩) → PairsAt W A b (o + f * 2) (inL lo hi ps)) := by
      intro W A hW hb hA
      rw [F4.out]
      subst hb
      exact hW.sub f t f2 hA
    have END : Hid (∀ W A C, Below w.heap.size w W → (A = base ∧ c = f ∧ C = 0 ∨ A = base.map (fun x => x.add (f * 2)) ∧ C = c - f) → ∃ a o' c', Ending.returned (.slice A (t - f) C) = .returned (.slice a (inL lo hi ps).length c') ∧ Below w.heap.size w W ∧ PairsAt W a b o' (inL lo hi ps) ∧ NilOk a (inL lo hi ps).length c') := by
      intro W A C hb hA
      have hW := HA.out.below hb
      refine ⟨A, o + f * 2, C, by rw [HL.out], hb, ?_, ?_⟩
      · by_cases hz : f < t
        · have hbs := HA.out.base (by omega)
          refine SUBS.out W A hW hbs (fun _ => ?_)
          rcases hA with ⟨_, h2, _⟩ | ⟨h1, _⟩
          · omega
          · rw [h1, hbs]; simp [addr_add'M]
        · exact ⟨fun q => absurd (by rw [HL.out]; omega) q, fun q => absurd (by rw [HL.out]; omega) q, fun i hi => by rw [HL.out] at hi; omega, by rw [HL.out]; have := HA.out.len; omega⟩
      · intro hn
        rw [HL.out]
        have hbn : base = none := by
          rcases hA with ⟨h1, _⟩ | ⟨h1, _⟩
          · rw [← h1]; exact hn
          · rw [h1] at hn; simpa using hn
        obtain ⟨z1, z2⟩ := HNIL.out hbn
        rcases hA with ⟨_, _, h3⟩ | ⟨_, h3⟩ <;> omega
    cases q
    · have f3' : t = m := by simpa using f3
      subst f3'
      clear f3
      go_enter Try.func80, Try.ntmps80
      go_wp2_with fail
      refine (P1.out _ HA.out).mono ?_
      rintro e w1 ⟨rfl, hb1⟩
      have HB1 : Hid _ := hb1
      clear hb1
      go_wp2_with fail
      refine (P2.out _ (HA.out.below HB1.out)).mono ?_
      rintro e w2 ⟨rfl, hb2⟩
      have HB2 : Hid (Below w.heap.size w w2) := HB1.out.trans (hb2.mono HB1.out.size)
      clear hb2
      have g1 : (f : Int) ≤ (t : Int) := by omega
      have g2 : (t : Int) ≤ (c : Int) := by omega
      go_wp2_with fail
      all_goals go_ret
      all_goals first
        | exact END.out _ _ _ HB2.out (Or.inr ⟨rfl, rfl⟩)
        | exact END.out _ _ _ HB2.out (Or.inl ⟨rfl, by assumption, rfl⟩)
        | exact END.out _ _ _ HB2.out (Or.inl ⟨rfl, rfl, rfl⟩)
    · have f3' : t = m + 1 := by simpa using f3
      subst f3'
      clear f3
      have g0 : ((m + 1 : Nat) : Int) = (m : Int) + 1 := by omega
      go_enter Try.func80, Try.ntmps80
      go_wp2_with fail
      refine (P1.out _ HA.out).mono ?_
      rintro e w1 ⟨rfl, hb1⟩
      have HB1 : Hid _ := hb1
      clear hb1
      go_wp2_with fail
      refine (P2.out _ (HA.out.below HB1.out)).mono ?_
      rintro e w2 ⟨rfl, hb2⟩
      have HB2 : Hid (Below w.heap.size w w2) := HB1.out.trans (hb2.mono HB1.out.size)
      clear hb2
      have g1 : (f : Int) ≤ (m : Int) + 1 := by omega
      have g2 : (m : Int) + 1 ≤ (c : Int) := by omega
      go_wp2_with fail
      all_goals go_ret
      all_goals first
        | exact END.out _ _ _ HB2.out (Or.inr ⟨rfl, rfl⟩)
        | exact END.out _ _ _ HB2.out (Or.inl ⟨rfl, by assumption, rfl⟩)
        | exact END.out _ _ _ HB2.out (Or.inl ⟨rfl, rfl, rfl⟩)
end Go.Proofs.Ytljidfaeljpnpaa
