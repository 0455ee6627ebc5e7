/- Layer 5: rows of numbers that fit a history; own rows of numbers; an append at a step. -/
import Derived.Test.YtniognoapcaliaaERowsP
import Derived.Test.YtniognoapcaliaaEFits2
namespace Go.Proofs.Ytniognoapcaliaa
open Go.RowKit

def idL (n : Nat) : List Int := (List.range n).map fun (i : Nat) => (i : Int)
theorem idL_length (n : Nat) : (idL n).length = n := by simp [idL]
theorem idL_succ (n : Nat) : idL (n + 1) = idL n ++ [(n : Int)] := by simp [idL, List.range_succ]
theorem idL_at {n x : Nat} (h : x < n) : (idL n)[x]? = some (x : Int) := by simp [idL, h]
theorem oAt_of {l : List Int} {x : Nat} {v : Int} (h : l[x]? = some v) : oAt l x = v := by unfold oAt; rw [List.getD_eq_getElem?_getD, h]; rfl
def turnL (n i : Nat) : List Int := ((idL n).set i ((i : Int) + 1)).set (i + 1) i
theorem turnL_length (n i : Nat) : (turnL n i).length = n := by simp [turnL, idL_length]
def lessL (n i : Nat) : List Int := (idL n).take i ++ (idL n).drop (i + 1)
theorem lessL_length {n i : Nat} (h : i < n) : (lessL n i).length = n - 1 := by simp [lessL, idL_length]; omega
theorem fits_fn {sp : List Sp} {ord : List Int} {f : Nat → Nat} (hf : ∀ x, x < ord.length → oAt ord x = f x ∧ f x < sp.length) (hinj : ∀ x y, x < y → y < ord.length → f x ≠ f y) :
    FitsP sp ord ↔ (∀ x y, x < y → y < ord.length → ahd (spAt sp (f y)) (spAt sp (f x)) = false) ∧ ∀ k, k < sp.length → (spAt sp k).2 ≠ -1 → ∃ x, x < ord.length ∧ f x = k := by
  unfold FitsP
  constructor
  · rintro ⟨h1, h2⟩
    refine ⟨fun x y hxy hy => ?_, fun k hk hn => ?_⟩
    · have := h1.ahead x y hxy hy
      rw [(hf x (by omega)).1, (hf y hy).1, Int.toNat_natCast, Int.toNat_natCast] at this
      exact this
    · obtain ⟨x, hx, e⟩ := seenN_iff.1 (h2 k hk hn)
      rw [(hf x hx).1] at e
      exact ⟨x, hx, by omega⟩
  · rintro ⟨h1, h2⟩
    refine ⟨⟨fun x hx => ?_, fun x y hxy hy => ?_, fun x y hxy hy => ?_⟩, fun k hk hn => ?_⟩
    · obtain ⟨a, b⟩ := hf x hx; rw [a]; omega
    · rw [(hf x (by omega)).1, (hf y hy).1]; have := hinj x y hxy hy; omega
    · rw [(hf x (by omega)).1, (hf y hy).1, Int.toNat_natCast, Int.toNat_natCast]; exact h1 x y hxy hy
    · obtain ⟨x, hx, e⟩ := h2 k hk hn
      exact seenN_iff.2 ⟨x, hx, by rw [(hf x hx).1, e]⟩
theorem fits_id {hs : List EvD} (he : hErr hs = 0) : FitsP (spansL hs) (idL (spansL hs).length) := by
  rw [fits_fn (f := fun x => x) (fun x hx => by rw [idL_length] at hx; exact ⟨oAt_of (idL_at hx), hx⟩) (fun x y h _ => by omega)]
  rw [idL_length]
  exact ⟨fun x y hxy hy => later_hist he (by omega) hy, fun k hk _ => ⟨k, hk, rfl⟩⟩
theorem turnL_at {n i x : Nat} (hi : i + 1 < n) (hx : x < n) : (turnL n i)[x]? = some ((if x = i then i + 1 else if x = i + 1 then i else x : Nat) : Int) := by
  unfold turnL
  rw [List.getElem?_set]
  by_cases e1 : x = i + 1
  · subst e1; simp [idL_length, hi]
  · rw [if_neg (fun q => e1 q.symm), List.getElem?_set]
    by_cases e2 : x = i
    · subst e2; simp [idL_length]; omega
    · rw [if_neg (fun q => e2 q.symm), idL_at hx, if_neg e2, if_neg e1]
theorem fits_turn {hs : List EvD} (he : hErr hs = 0) {i : Nat} (hi : i + 1 < (spansL hs).length) : FitsP (spansL hs) (turnL (spansL hs).length i) ↔ ahd (spAt (spansL hs) i) (spAt (spansL hs) (i + 1)) = false := by
  rw [fits_fn (f := fun x => if x = i then i + 1 else if x = i + 1 then i else x) (fun x hx => by
      rw [turnL_length] at hx
      refine ⟨oAt_of (turnL_at hi hx), ?_⟩
      show (if x = i then i + 1 else if x = i + 1 then i else x) < _
      split
      · omega
      · split <;> omega) (fun x y hxy _ => by
      show (if x = i then i + 1 else if x = i + 1 then i else x) ≠ (if y = i then i + 1 else if y = i + 1 then i else y)
      split
      · split
        · omega
        · split <;> omega
      · split
        · split
          · omega
          · split <;> omega
        · split
          · omega
          · split <;> omega)]
  rw [turnL_length]
  constructor
  · rintro ⟨h, _⟩
    have := h i (i + 1) (by omega) hi
    simpa using this
  · intro h
    refine ⟨fun x y hxy hy => ?_, fun k hk _ => ?_⟩
    · by_cases e : x = i ∧ y = i + 1
      · obtain ⟨rfl, rfl⟩ := e
        simpa using h
      · apply later_hist he
        · show (if x = i then i + 1 else if x = i + 1 then i else x) ≤ (if y = i then i + 1 else if y = i + 1 then i else y)
          split
          · split
            · omega
            · split <;> omega
          · split
            · split
              · omega
              · split <;> omega
            · split
              · omega
              · split <;> omega
        · show (if y = i then i + 1 else if y = i + 1 then i else y) < _
          split
          · omega
          · split <;> omega
    · refine ⟨if k = i then i + 1 else if k = i + 1 then i else k, ?_, ?_⟩
      · split
        · omega
        · split <;> omega
      · by_cases e1 : k = i
        · subst e1; simp
        · by_cases e2 : k = i + 1
          · subst e2; simp
          · simp [e1, e2]
theorem lessL_at {n i x : Nat} (hi : i < n) (hx : x < n - 1) : (lessL n i)[x]? = some ((if x < i then x else x + 1 : Nat) : Int) := by
  unfold lessL
  by_cases h : x < i
  · rw [List.getElem?_append_left (by simp [idL_length]; omega), List.getElem?_take, if_pos h, idL_at (by omega), if_pos h]
  · have hl : ((idL n).take i).length = i := by simp [idL_length]; omega
    rw [List.getElem?_append_right (by rw [hl]; omega), hl, List.getElem?_drop, idL_at (by omega), if_neg h]
    congr 2
    omega
theorem fits_less {hs : List EvD} (he : hErr hs = 0) {i : Nat} (hi : i < (spansL hs).length) : FitsP (spansL hs) (lessL (spansL hs).length i) ↔ (spAt (spansL hs) i).2 = -1 := by
  rw [fits_fn (f := fun x => if x < i then x else x + 1) (fun x hx => by
      rw [lessL_length hi] at hx
      refine ⟨oAt_of (lessL_at hi hx), ?_⟩
      show (if x < i then x else x + 1) < _
      split <;> omega) (fun x y hxy _ => by
      show (if x < i then x else x + 1) ≠ (if y < i then y else y + 1)
      split <;> split <;> omega)]
  rw [lessL_length hi]
  constructor
  · rintro ⟨_, h⟩
    by_cases e : (spAt (spansL hs) i).2 = -1
    · exact e
    · obtain ⟨x, hx, q⟩ := h i hi e
      exfalso
      revert q
      show (if x < i then x else x + 1) = i → False
      split <;> omega
  · intro e
    refine ⟨fun x y hxy hy => ?_, fun k hk hn => ?_⟩
    · apply later_hist he
      · show (if x < i then x else x + 1) ≤ (if y < i then y else y + 1)
        split <;> split <;> omega
      · show (if y < i then y else y + 1) < _
        split <;> omega
    · by_cases q : k = i
      · subst q; exact absurd e hn
      · refine ⟨if k < i then k else k - 1, ?_, ?_⟩
        · split <;> omega
        · by_cases z : k < i
          · simp [z]
          · rw [if_neg z]
            have : ¬ k - 1 < i := by omega
            show (if k - 1 < i then k - 1 else k - 1 + 1) = k
            rw [if_neg this]; omega
/-- An own row of numbers. -/
theorem ord_of_owns {w : World} {B : Nat} {T : TypeId} {v : Value} {ord : List Int} (h : w.ownsRow B T 1 v ord.length (ord.map (Value.int .i64))) :
    ∃ a c g, v = .slice a ord.length c ∧ OrdAt w a g 0 ord ∧ (ord.length ≠ 0 → B ≤ g) ∧ ord.length ≤ c ∧ c ≤ maxLen ∧ (a = none → c = 0) := by
  obtain ⟨_, h⟩ := h
  rcases h with ⟨rfl, h0⟩ | ⟨g, cap, cur, rfl, hg, hh, h1, h2, h3, h4⟩
  · exact ⟨none, 0, 0, by rw [h0], ⟨fun q => absurd h0 q, fun q => absurd h0 q, by omega, fun i hi => by omega⟩, fun q => absurd h0 q, by omega, by unfold maxLen; omega, fun _ => rfl⟩
  · refine ⟨_, cap, g, rfl, ⟨fun _ => rfl, fun _ => (Array.getElem?_eq_some_iff.1 hh).1, by omega, fun i hi => ?_⟩, fun _ => hg, h1, h2, (fun q => by cases q)⟩
    have hc : w.cell? ⟨g, i, none⟩ = (ord.map (Value.int .i64))[i]? := by
      rw [← h4, List.getElem?_take, if_pos (by omega)]
      simp [World.cell?, hh]
    rw [Nat.zero_add, hc, List.getElem?_map, List.getElem?_eq_getElem hi]
    unfold oAt
    rw [List.getD_eq_getElem?_getD, List.getElem?_eq_getElem hi]
    rfl
theorem own_empty (W : World) (B : Nat) (T : TypeId) (sz g : Nat) (hg : g = W.heap.size) (hB : B ≤ W.heap.size) : (W.alloc (.cells #[] T)).ownsRow B T sz (.slice (some ⟨g, 0, none⟩) 0 0) 0 [] := by
  subst hg
  exact ⟨by simp, Or.inr ⟨W.heap.size, 0, #[], rfl, hB, heap_alloc_at _ _ _ rfl, Nat.le_refl _, by unfold maxLen; omega, by simp, by simp⟩⟩
/-- append of a slice, nil or not, at a step of a region that draws its order. -/
theorem step_append_all {P : Program} {w : World} {ops : Array Oper} {o : Oper} {a : Act} {K : Act → World → Prop} {Q : Exit → Act → World → Prop} {E : Prop} (hgd : o.guard = none) (s x : Operand) (t : TypeId)
    (ho : o.op = .call { callee := .builtin .append, args := #[s, x], argTypes := #[t, t] })
    (base : Nat) (e : TypeId) (i : TypeInfo) (z : Value) (size bytes : Nat) (ht : P.underlying t = some (.slice e)) (hi : P.info? e = some i) (hz : i.zero = some z)
    (hsize : i.size = size) (hby : i.bytes = bytes) (hzs : z.cells.size = size) (hsz : 0 < size)
    (v : Value) (n : Nat) (xs : List Value) (hs : a.eval s = v) (hown : w.ownsRow base e size v n xs)
    (sd : Option Addr) (m c : Nat) (news : List Value) (hx : a.eval x = .slice sd m c) (hnone : sd = none → m = 0 ∧ c = 0) (hl : news.length = m * size) (hnews : ∀ ad, sd = some ad → ∀ j u, news[j]? = some u → w.cell? (ad.add j) = some u) (h1 : ∀ u ∈ news, u.oneCell' = true)
    (h63 : n + m ≤ maxLen) (hbytes : (n + m) * bytes ≤ 140737488355328) (hbase : base ≤ w.heap.size)
    (h : ∀ v' w', w'.ownsRow base e size v' (n + m) (xs ++ news) → w.grownBy w' v.ownBlock → (v' = .slice none 0 0 ↔ v = .slice none 0 0 ∧ m = 0) → K (a.put o.dst v') w') :
    if Region.wanted o (yielded ops a.tmps) = true then Oper.wp P o a w K Q else E := by
  have hw : Region.wanted o (yielded ops a.tmps) = true := by simp [Region.wanted, hgd]
  rw [if_pos hw]
  cases sd with
  | none =>
    obtain ⟨rfl, rfl⟩ := hnone rfl
    have hrun := run_append_owned_none (P := P) (w := w) base t o.type e i size ht hi v n xs hown
    obtain rfl : news = [] := List.length_eq_zero_iff.1 (by simpa using hl)
    unfold Oper.wp
    simp [execOp, ho, resolve, invoke, builtin, hs, hx, hrun, Result.andThen]
    exact h v w (by simpa using hown) (grown_refl _ _) (by simp)
  | some ad =>
    obtain ⟨v', w', hr, h2, h3, h4, _⟩ := run_append_own_at (P := P) w base t o.type e i z size bytes ht hi hz hsize hby hzs hsz v n xs hown ad m c news hl (hnews ad rfl) h1 h63 hbytes hbase
    unfold Oper.wp
    simp [execOp, ho, resolve, invoke, builtin, hs, hx, hr, Result.andThen]
    exact h v' w' h2 h3 h4
theorem ints_one (l : List Int) : ∀ u ∈ l.map (Value.int .i64), u.oneCell' = true := by
  intro u hu
  obtain ⟨x, _, rfl⟩ := List.mem_map.1 hu
  rfl
theorem ord_news {w : World} {a : Option Addr} {g o : Nat} {ord : List Int} (h : OrdAt w a g o ord) (k : Nat) (l : List Int) (hl : ∀ j x, l[j]? = some x → ord[k + j]? = some x) : ∀ ad, (a.map fun q => (⟨q.block, q.off + k, none⟩ : Addr)) = some ad → ∀ j u, (l.map (Value.int .i64))[j]? = some u → w.cell? (ad.add j) = some u := by
  intro ad had j u hu
  rw [List.getElem?_map] at hu
  obtain ⟨x, hx, rfl⟩ := Option.map_eq_some_iff.1 hu
  have h1 := hl j x hx
  have hlt := (List.getElem?_eq_some_iff.1 h1).1
  have hb := h.base (by omega)
  rw [hb] at had
  simp only [Option.map_some, Option.some.injEq] at had
  subst had
  rw [addr_add', Nat.add_assoc, h.cells (k + j) hlt, oAt_of h1]
theorem OrdAt.grown {w w1 : World} {row : Option Nat} {a : Option Addr} {g o : Nat} {ord : List Int} (h : OrdAt w a g o ord) (hg : w.grownBy w1 row) (hr : row ≠ some g) : OrdAt w1 a g o ord :=
  ⟨h.base, fun hn => Nat.lt_of_lt_of_le (h.lt hn) hg.size, h.len, fun i hi => (hg.cell_far ⟨g, _, none⟩ (h.lt (by omega)) (fun q => hr q.symm)).trans (h.cells i hi)⟩
end Go.Proofs.Ytniognoapcaliaa
