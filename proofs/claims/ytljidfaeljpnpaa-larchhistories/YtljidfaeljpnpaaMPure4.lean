/- Layer 6: an operation on a list, a run of them, the list of pairs in any order: as functions, and P6.3's laws of them. Layer 6: pairs in memory, and what the reference's functions answer, as functions on lists. No function of the program. Layer 6: the reference's functions as functions on lists that recur on the list; their laws on lists whose keys rise. Layer 6: neighbours and ends; what stands at a key's place. -/
import Derived.Test.YtljidfaeljpnpaaRows
import Derived.WalkKit
import Derived.WalkSpells
import Derived.WalkLawsBesides
import Derived.Deep.AppendLies
import Derived.Laws.MakeOwn
import Derived.Deep.QuietTactic
import Derived.BigQuiet








namespace Go.Proofs.Ytljidfaeljpnpaa

open Go.RowKit

abbrev PL := List (Int × Int)
def keyAt (ps : PL) (i : Nat) : Int := (ps.getD i (0, 0)).1
def valAt (ps : PL) (i : Nat) : Int := (ps.getD i (0, 0)).2

/-- The pairs lie in memory. -/
structure PairsAt (w : World) (base : Option Addr) (b o : Nat) (ps : PL) : Prop where
  base : ps.length ≠ 0 → base = some ⟨b, o, none⟩
  lt : ps.length ≠ 0 → b < w.heap.size
  cells : ∀ i, i < ps.length → w.cell? ⟨b, o + i * 2, none⟩ = some (.int .i64 (keyAt ps i)) ∧ w.cell? ⟨b, o + i * 2 + 1, none⟩ = some (.int .i64 (valAt ps i))
  len : ps.length ≤ maxLen
theorem PairsAt.below {w w' : World} {base : Option Addr} {b o : Nat} {ps : PL} (h : PairsAt w base b o ps) (hb : Below w.heap.size w w') : PairsAt w' base b o ps := by
  refine ⟨h.base, fun hn => Nat.lt_of_lt_of_le (h.lt hn) hb.size, fun i hi => ?_, h.len⟩
  have hl := h.lt (by omega)
  exact ⟨(hb.cell (p := ⟨b, o + i * 2, none⟩) hl).trans (h.cells i hi).1, (hb.cell (p := ⟨b, o + i * 2 + 1, none⟩) hl).trans (h.cells i hi).2⟩

/-- The cells of a list of pairs. -/
def pairCells : PL → List Value
  | [] => []
  | p :: t => .int .i64 p.1 :: .int .i64 p.2 :: pairCells t
theorem pairCells_append : ∀ a b : PL, pairCells (a ++ b) = pairCells a ++ pairCells b
  | [], _ => rfl
  | p :: t, b => by simp [pairCells, pairCells_append t b]
theorem pairCells_length : ∀ ps : PL, (pairCells ps).length = ps.length * 2
  | [] => rfl
  | p :: t => by simp [pairCells, pairCells_length t]; omega
theorem pairCells_get : ∀ (ps : PL) (i : Nat), i < ps.length → (pairCells ps)[i * 2]? = some (.int .i64 (keyAt ps i)) ∧ (pairCells ps)[i * 2 + 1]? = some (.int .i64 (valAt ps i))
  | [], i, h => by simp at h
  | p :: t, 0, _ => by simp [pairCells, keyAt, valAt]
  | p :: t, i + 1, h => by
    obtain ⟨a, b⟩ := pairCells_get t i (by simpa using h)
    have e : (i + 1) * 2 = i * 2 + 1 + 1 := by omega
    rw [e]
    refine ⟨?_, ?_⟩
    · simpa [pairCells, keyAt] using a
    · simpa [pairCells, valAt] using b

theorem heap_alloc_at (w : World) (o : Obj) (b : Nat) (h : b = w.heap.size) : (w.alloc o).heap[b]? = some o := by subst h; exact heap_alloc_new w o
theorem owns_ge {w : World} {B : Nat} {e : TypeId} {sz : Nat} {v : Value} {n : Nat} {xs : List Value} (h : w.ownsRow B e sz v n xs) : ∀ b, v.ownBlock = some b → B ≤ b := by
  intro b hb
  obtain ⟨_, h⟩ := h
  rcases h with ⟨rfl, _⟩ | ⟨g, cap, cur, rfl, hg, _⟩
  · cases hb
  · simp [Value.ownBlock] at hb; omega

/-- An owned row of pairs is a slice of pairs. -/
theorem pairs_of_owns {w : World} {B : Nat} {e : TypeId} {v : Value} {ps : PL} (h : w.ownsRow B e 2 v ps.length (pairCells ps)) (hn : ps.length ≤ maxLen) :
    ∃ base cap g, v = .slice base ps.length cap ∧ (ps.length ≠ 0 → B ≤ g) ∧ (base = none → ps.length = 0 ∧ cap = 0) ∧ PairsAt w base g 0 ps := by
  obtain ⟨_, h⟩ := h
  rcases h with ⟨rfl, h0⟩ | ⟨g, cap, cur, rfl, hg, hh, h1, h2, h3, h4⟩
  · exact ⟨none, 0, 0, by rw [h0], fun h => absurd h0 h, fun _ => ⟨h0, rfl⟩, fun h => absurd h0 h, fun h => absurd h0 h, fun i hi => by omega, hn⟩
  · refine ⟨_, _, g, rfl, fun _ => hg, (fun h => by cases h), fun _ => rfl, fun _ => (Array.getElem?_eq_some_iff.1 hh).1, fun i hi => ?_, hn⟩
    have hc : ∀ j, j < ps.length * 2 → w.cell? ⟨g, j, none⟩ = (pairCells ps)[j]? := by
      intro j hj
      rw [← h4, List.getElem?_take, if_pos hj]
      simp [World.cell?, hh]
    obtain ⟨a, b⟩ := pairCells_get ps i hi
    exact ⟨by rw [Nat.zero_add, hc _ (by omega)]; exact a, by rw [Nat.zero_add, hc _ (by omega)]; exact b⟩

/-- Do the keys of the first j rise strictly? -/
def rises (ps : PL) : Nat → Bool
  | 0 => true
  | 1 => true
  | j + 2 => rises ps (j + 1) && decide (keyAt ps j < keyAt ps (j + 1))
theorem rises_not {ps : PL} : ∀ {n j : Nat}, j + 1 < n → ¬ keyAt ps j < keyAt ps (j + 1) → rises ps n = false
  | 0, j, h, _ => by omega
  | 1, j, h, _ => by omega
  | n + 2, j, h, hk => by
    by_cases e : j = n
    · subst e; simp [rises, hk]
    · simp [rises, rises_not (n := n + 1) (j := j) (by omega) hk]
/-- The error of a list that is handed in as a map. -/
def ckErr (ps : PL) : Int := if rises ps ps.length then 0 else 11

/-- The error of a kind. -/
def kdErr (k : Int) : Int := if k < 1 ∨ 9 < k then 5 else 0

/-- look: the key's value among the first j, the first one that has it. -/
def lookN (ps : PL) (key : Int) : Nat → Option Int
  | 0 => none
  | j + 1 => match lookN ps key j with
    | some v => some v
    | none => if keyAt ps j = key then some (valAt ps j) else none
theorem lookN_stays {ps : PL} {key v : Int} {j : Nat} (h : lookN ps key j = some v) : ∀ m, lookN ps key (j + m) = some v
  | 0 => h
  | m + 1 => by
    show (match lookN ps key (j + m) with | some v => some v | none => if keyAt ps (j + m) = key then some (valAt ps (j + m)) else none) = some v
    rw [lookN_stays h m]
theorem lookN_at {ps : PL} {key : Int} {j n : Nat} (h0 : lookN ps key j = none) (h : keyAt ps j = key) (hn : j < n) : lookN ps key n = some (valAt ps j) := by
  have e : lookN ps key (j + 1) = some (valAt ps j) := by simp [lookN, h0, h]
  have := lookN_stays e (n - (j + 1))
  rw [show j + 1 + (n - (j + 1)) = n by omega] at this
  exact this
theorem lookN_next {ps : PL} {key : Int} {j : Nat} (h0 : lookN ps key j = none) (h : ¬ keyAt ps j = key) : lookN ps key (j + 1) = none := by simp [lookN, h0, h]

/-- Inside: those of the first j with lo <= key <= hi. -/
def insideN (ps : PL) (lo hi : Int) : Nat → PL
  | 0 => []
  | j + 1 => if lo ≤ keyAt ps j ∧ keyAt ps j ≤ hi then insideN ps lo hi j ++ [(keyAt ps j, valAt ps j)] else insideN ps lo hi j
theorem insideN_le (ps : PL) (lo hi : Int) : ∀ j, (insideN ps lo hi j).length ≤ j
  | 0 => Nat.le_refl _
  | j + 1 => by
    have := insideN_le ps lo hi j
    simp only [insideN]
    split
    · simp; omega
    · omega

/-- with, behind j pairs: the list so far, and whether the key's pair stands. -/
def withN (ps : PL) (key val : Int) (drop : Bool) : Nat → PL × Bool
  | 0 => ([], drop)
  | j + 1 =>
    let s := withN ps key val drop j
    let t : PL × Bool := if s.2 = false ∧ key ≤ keyAt ps j then (s.1 ++ [(key, val)], true) else s
    if keyAt ps j = key then t else (t.1 ++ [(keyAt ps j, valAt ps j)], t.2)
def withL (ps : PL) (key val : Int) (drop : Bool) : PL :=
  let s := withN ps key val drop ps.length
  if s.2 then s.1 else s.1 ++ [(key, val)]
theorem withN_le (ps : PL) (key val : Int) (drop : Bool) : ∀ j, (withN ps key val drop j).1.length ≤ j + (if (withN ps key val drop j).2 = drop then 0 else 1) ∧ (drop = true → (withN ps key val drop j).2 = true)
  | 0 => by simp [withN]
  | j + 1 => by
    obtain ⟨h1, h2⟩ := withN_le ps key val drop j
    obtain ⟨l, d, hs⟩ : ∃ l d, withN ps key val drop j = (l, d) := ⟨_, _, rfl⟩
    simp only [withN, hs] at h1 h2 ⊢
    by_cases q1 : d = false ∧ key ≤ keyAt ps j
    · rw [if_pos q1]
      obtain ⟨rfl, _⟩ := q1
      cases drop
      · by_cases q2 : keyAt ps j = key
        · simp [q2] at h1 ⊢; omega
        · simp [q2] at h1 ⊢; omega
      · simp at h2
    · rw [if_neg q1]
      by_cases q2 : keyAt ps j = key
      · simp only [q2, if_true] at h1 ⊢
        refine ⟨?_, h2⟩
        omega
      · simp only [if_neg q2, List.length_append, List.length_cons, List.length_nil] at h1 ⊢
        refine ⟨?_, h2⟩
        omega
theorem withL_le (ps : PL) (key val : Int) (drop : Bool) : (withL ps key val drop).length ≤ ps.length + 1 := by
  obtain ⟨h1, _⟩ := withN_le ps key val drop ps.length
  unfold withL
  simp only
  split
  · split at h1 <;> omega
  · rename_i h
    have hd : (withN ps key val drop ps.length).2 = false := by simpa using h
    cases drop
    · rw [hd] at h1; simp at h1; simp; omega
    · have := (withN_le ps key val true ps.length).2 rfl
      rw [hd] at this; cases this

theorem pair_eta (ps : PL) (i : Nat) (hi : i < ps.length) : ps[i]? = some (keyAt ps i, valAt ps i) := by
  simp [keyAt, valAt, List.getD_eq_getElem?_getD, List.getElem?_eq_getElem hi]
/-- Two lists that are the same at every place. -/
theorem pl_ext {a b : PL} (hl : a.length = b.length) (h : ∀ i, i < a.length → keyAt a i = keyAt b i ∧ valAt a i = valAt b i) : a = b := by
  apply List.ext_getElem?
  intro i
  by_cases hi : i < a.length
  · rw [pair_eta a i hi, pair_eta b i (by omega), (h i hi).1, (h i hi).2]
  · rw [List.getElem?_eq_none (by omega), List.getElem?_eq_none (by omega)]
end Go.Proofs.Ytljidfaeljpnpaa

namespace Go.Proofs.Ytljidfaeljpnpaa

open Go.RowKit

def getK (key : Int) : PL → Option Int
  | [] => none
  | p :: t => if p.1 = key then some p.2 else getK key t
def putL (key val : Int) : PL → PL
  | [] => [(key, val)]
  | p :: t => if p.1 < key then p :: putL key val t else if p.1 = key then (key, val) :: t else (key, val) :: p :: t
def delL (key : Int) (ps : PL) : PL := ps.filter fun p => decide (p.1 ≠ key)
def inL (lo hi : Int) (ps : PL) : PL := ps.filter fun p => decide (lo ≤ p.1 ∧ p.1 ≤ hi)
/-- The keys rise strictly. -/
def Srt (ps : PL) : Prop := ps.Pairwise fun a b => a.1 < b.1

theorem take_next (ps : PL) {j : Nat} (hj : j < ps.length) : ps.take (j + 1) = ps.take j ++ [(keyAt ps j, valAt ps j)] := by
  rw [List.take_add_one, pair_eta ps j hj]; rfl

/- look -/

theorem getK_append (key : Int) (b : PL) : ∀ a : PL, getK key (a ++ b) = match getK key a with | some v => some v | none => getK key b
  | [] => rfl
  | p :: t => by
    simp only [List.cons_append, getK]
    split
    · rfl
    · exact getK_append key b t
theorem lookN_take (ps : PL) (key : Int) : ∀ j, j ≤ ps.length → lookN ps key j = getK key (ps.take j)
  | 0, _ => rfl
  | j + 1, h => by
    rw [take_next ps (by omega), getK_append, ← lookN_take ps key j (by omega)]
    rfl
theorem lookN_all (ps : PL) (key : Int) : lookN ps key ps.length = getK key ps := by
  rw [lookN_take ps key _ (Nat.le_refl _), List.take_length]

/- Inside -/

theorem insideN_take (ps : PL) (lo hi : Int) : ∀ j, j ≤ ps.length → insideN ps lo hi j = inL lo hi (ps.take j)
  | 0, _ => rfl
  | j + 1, h => by
    have ih := insideN_take ps lo hi j (by omega)
    unfold inL at ih ⊢
    rw [take_next ps (by omega), List.filter_append, ← ih]
    simp only [insideN, List.filter_cons, List.filter_nil]
    by_cases q : lo ≤ keyAt ps j ∧ keyAt ps j ≤ hi
    · simp [q]
    · rw [if_neg q, if_neg (by simpa using q), List.append_nil]
theorem insideN_all (ps : PL) (lo hi : Int) : insideN ps lo hi ps.length = inL lo hi ps := by
  rw [insideN_take ps lo hi _ (Nat.le_refl _), List.take_length]

/- with -/

theorem withN_drop (ps : PL) (key val : Int) : ∀ j, j ≤ ps.length → withN ps key val true j = (delL key (ps.take j), true)
  | 0, _ => rfl
  | j + 1, h => by
    have ih := withN_drop ps key val j (by omega)
    unfold delL at ih ⊢
    rw [take_next ps (by omega), List.filter_append]
    simp only [withN, ih, List.filter_cons, List.filter_nil]
    by_cases q : keyAt ps j = key
    · simp [q]
    · simp [q]
theorem withL_drop (ps : PL) (key val : Int) : withL ps key val true = delL key ps := by
  unfold withL
  rw [withN_drop ps key val _ (Nat.le_refl _), List.take_length]
  rfl
theorem putL_lt (key val : Int) (b : PL) : ∀ a : PL, (∀ x ∈ a, x.1 < key) → putL key val (a ++ b) = a ++ putL key val b
  | [], _ => rfl
  | p :: t, h => by
    simp only [List.cons_append, putL]
    rw [if_pos (h p (by simp)), putL_lt key val b t (fun x hx => h x (by simp [hx]))]
theorem putL_ge (key val : Int) (b : PL) : ∀ a : PL, (∃ x ∈ a, ¬ x.1 < key) → putL key val (a ++ b) = putL key val a ++ b
  | [], h => by obtain ⟨x, hx, _⟩ := h; simp at hx
  | p :: t, h => by
    simp only [List.cons_append, putL]
    by_cases q : p.1 < key
    · rw [if_pos q, if_pos q, putL_ge key val b t ?_, List.cons_append]
      obtain ⟨x, hx, hn⟩ := h
      rcases List.mem_cons.1 hx with rfl | hx
      · exact absurd q hn
      · exact ⟨x, hx, hn⟩
    · rw [if_neg q, if_neg q]
      split <;> rfl
theorem withN_put (ps : PL) (key val : Int) (hs : Srt ps) : ∀ j, j ≤ ps.length →
    ((∀ x ∈ ps.take j, x.1 < key) ∧ withN ps key val false j = (ps.take j, false)) ∨ ((∃ x ∈ ps.take j, ¬ x.1 < key) ∧ withN ps key val false j = (putL key val (ps.take j), true))
  | 0, _ => Or.inl ⟨fun x hx => by simp at hx, rfl⟩
  | j + 1, h => by
    rw [take_next ps (by omega)]
    simp only [withN]
    rcases withN_put ps key val hs j (by omega) with ⟨h1, e⟩ | ⟨⟨x, hx, hn⟩, e⟩
    · rw [e]
      by_cases q : key ≤ keyAt ps j
      · right
        refine ⟨⟨(keyAt ps j, valAt ps j), by simp, by show ¬ keyAt ps j < key; omega⟩, ?_⟩
        rw [putL_lt _ _ _ _ h1]
        by_cases q2 : keyAt ps j = key
        · simp [q2, putL]
        · have : ¬ keyAt ps j < key := by omega
          simp [q, q2, putL, this]
      · left
        have q2 : ¬ keyAt ps j = key := by omega
        refine ⟨fun x hx => ?_, by simp [q, q2]⟩
        rcases List.mem_append.1 hx with hx | hx
        · exact h1 x hx
        · simp at hx; subst hx; show keyAt ps j < key; omega
    · right
      rw [e]
      have hp : (ps.take (j + 1)).Pairwise fun a b => a.1 < b.1 := hs.sublist (List.take_sublist _ _)
      rw [take_next ps (by omega), List.pairwise_append] at hp
      have hl := hp.2.2 x hx (keyAt ps j, valAt ps j) (by simp)
      have q2 : ¬ keyAt ps j = key := by
        have : x.1 < keyAt ps j := hl
        omega
      refine ⟨⟨x, by simp [hx], hn⟩, ?_⟩
      rw [putL_ge _ _ _ _ ⟨x, hx, hn⟩]
      simp [q2]
theorem withL_put (ps : PL) (key val : Int) (hs : Srt ps) : withL ps key val false = putL key val ps := by
  unfold withL
  rcases withN_put ps key val hs ps.length (Nat.le_refl _) with ⟨h1, e⟩ | ⟨_, e⟩
  · rw [e, List.take_length] at *
    have := putL_lt key val [] ps h1
    rw [List.append_nil] at this
    rw [this]; rfl
  · rw [e, List.take_length]; rfl

/- the order -/

theorem rises_iff {ps : PL} : ∀ {n : Nat}, rises ps n = true ↔ ∀ i, i + 1 < n → keyAt ps i < keyAt ps (i + 1)
  | 0 => by simp [rises]
  | 1 => by simp [rises]
  | n + 2 => by
    simp only [rises, Bool.and_eq_true, decide_eq_true_eq, rises_iff (n := n + 1)]
    constructor
    · rintro ⟨h1, h2⟩ i hi
      by_cases e : i = n
      · subst e; exact h2
      · exact h1 i (by omega)
    · intro h
      exact ⟨fun i hi => h i (by omega), h n (by omega)⟩
theorem key_get (ps : PL) (i : Nat) (hi : i < ps.length) : keyAt ps i = ps[i].1 := by
  simp [keyAt, List.getD_eq_getElem?_getD, List.getElem?_eq_getElem hi]
theorem val_get (ps : PL) (i : Nat) (hi : i < ps.length) : valAt ps i = ps[i].2 := by
  simp [valAt, List.getD_eq_getElem?_getD, List.getElem?_eq_getElem hi]
theorem srt_lt {ps : PL} (h : Srt ps) {i j : Nat} (hij : i < j) (hj : j < ps.length) : keyAt ps i < keyAt ps j := by
  rw [key_get ps i (by omega), key_get ps j hj]
  exact List.pairwise_iff_getElem.1 h i j (by omega) hj hij
theorem srt_iff (ps : PL) : rises ps ps.length = true ↔ Srt ps := by
  rw [rises_iff]
  constructor
  · intro h
    have up : ∀ d i, i + d + 1 < ps.length → keyAt ps i < keyAt ps (i + d + 1) := by
      intro d
      induction d with
      | zero => intro i hi; exact h i hi
      | succ d ih =>
        intro i hi
        have h1 := ih i (by omega)
        have h2 := h (i + d + 1) (by omega)
        exact Int.lt_trans h1 h2
    refine List.pairwise_iff_getElem.2 fun i j hi hj hij => ?_
    have := up (j - i - 1) i (by omega)
    rw [show i + (j - i - 1) + 1 = j by omega, key_get ps i hi, key_get ps j hj] at this
    exact this
  · intro h i hi
    exact srt_lt h (by omega) hi
theorem ckErr_zero {ps : PL} : ckErr ps = 0 ↔ Srt ps := by
  unfold ckErr
  split
  · rename_i h; exact ⟨fun _ => (srt_iff ps).1 h, fun _ => rfl⟩
  · rename_i h; exact ⟨fun e => absurd e (by decide), fun e => absurd ((srt_iff ps).2 e) h⟩
theorem mem_putL {key val : Int} {x : Int × Int} : ∀ {ps : PL}, x ∈ putL key val ps → x = (key, val) ∨ x ∈ ps
  | [], h => by simpa [putL] using h
  | p :: t, h => by
    simp only [putL] at h
    split at h
    · rcases List.mem_cons.1 h with rfl | h
      · right; simp
      · rcases mem_putL h with e | e
        · exact Or.inl e
        · right; simp [e]
    · split at h
      · rcases List.mem_cons.1 h with rfl | h
        · exact Or.inl rfl
        · right; simp [h]
      · rcases List.mem_cons.1 h with rfl | h
        · exact Or.inl rfl
        · right; exact h
theorem putL_srt (key val : Int) : ∀ {ps : PL}, Srt ps → Srt (putL key val ps)
  | [], _ => by simp [putL, Srt]
  | p :: t, h => by
    obtain ⟨h1, h2⟩ := List.pairwise_cons.1 h
    simp only [putL]
    split
    · rename_i q
      refine List.pairwise_cons.2 ⟨fun x hx => ?_, putL_srt key val h2⟩
      rcases mem_putL hx with rfl | hx
      · exact q
      · exact h1 x hx
    · split
      · rename_i q
        refine List.pairwise_cons.2 ⟨fun x hx => ?_, h2⟩
        have := h1 x hx
        show key < x.1
        omega
      · refine List.pairwise_cons.2 ⟨fun x hx => ?_, h⟩
        rcases List.mem_cons.1 hx with rfl | hx
        · show key < x.1; omega
        · have := h1 x hx
          show key < x.1
          omega
theorem delL_srt (key : Int) {ps : PL} (h : Srt ps) : Srt (delL key ps) := h.sublist List.filter_sublist
theorem inL_srt (lo hi : Int) {ps : PL} (h : Srt ps) : Srt (inL lo hi ps) := h.sublist List.filter_sublist
theorem getK_put (key val : Int) : ∀ ps : PL, getK key (putL key val ps) = some val
  | [] => by simp [putL, getK]
  | p :: t => by
    simp only [putL]
    split
    · have q : ¬ p.1 = key := by omega
      simp only [getK, if_neg q]
      exact getK_put key val t
    · split <;> simp [getK]
theorem getK_del (key : Int) : ∀ ps : PL, getK key (delL key ps) = none
  | [] => rfl
  | p :: t => by
    have ih := getK_del key t
    unfold delL at ih ⊢
    by_cases q : p.1 = key
    · simpa [List.filter_cons, q] using ih
    · simpa [List.filter_cons, q, getK] using ih
theorem del_above (key : Int) (ps : PL) (h : ∀ x ∈ ps, key < x.1) : delL key ps = ps := by
  unfold delL
  rw [List.filter_eq_self]
  intro x hx
  have := h x hx
  simp; omega
theorem del_put_length (key val : Int) : ∀ {ps : PL}, Srt ps → (delL key (putL key val ps)).length + 1 = (putL key val ps).length
  | [], _ => by simp [putL, delL]
  | p :: t, h => by
    obtain ⟨h1, h2⟩ := List.pairwise_cons.1 h
    simp only [putL]
    split
    · rename_i q
      have q' : ¬ p.1 = key := by omega
      have := del_put_length key val h2
      unfold delL at this ⊢
      simp [q']
      simp at this
      omega
    · split
      · rename_i q
        have : delL key t = t := del_above key t (fun x hx => by have := h1 x hx; omega)
        unfold delL at this ⊢
        rw [List.filter_cons]
        simp only [ne_eq, not_true_eq_false, decide_false, Bool.false_eq_true, if_false]
        simp only [ne_eq] at this
        rw [this]
        rfl
      · have : delL key (p :: t) = p :: t := del_above key (p :: t) (fun x hx => by
          rcases List.mem_cons.1 hx with rfl | hx
          · omega
          · have := h1 x hx; omega)
        unfold delL at this ⊢
        rw [List.filter_cons]
        simp only [ne_eq, not_true_eq_false, decide_false, Bool.false_eq_true, if_false]
        simp only [ne_eq] at this
        rw [this]
        rfl
theorem inL_whole (lo hi : Int) (ps : PL) (h : ∀ x ∈ ps, lo ≤ x.1 ∧ x.1 ≤ hi) : inL lo hi ps = ps := by
  unfold inL
  rw [List.filter_eq_self]
  intro x hx
  simpa using h x hx

/- the place of a key -/

def posL (key : Int) (ps : PL) : Nat := (ps.filter fun p => decide (p.1 < key)).length
theorem posL_le (key : Int) (ps : PL) : posL key ps ≤ ps.length := List.length_filter_le _ _
theorem below_take (key : Int) : ∀ {ps : PL}, Srt ps → ps.filter (fun p => decide (p.1 < key)) = ps.take (posL key ps) ∧ (∀ i, i < ps.length → (i < posL key ps ↔ keyAt ps i < key))
  | [], _ => ⟨rfl, fun i hi => by simp at hi⟩
  | p :: t, h => by
    obtain ⟨h1, h2⟩ := List.pairwise_cons.1 h
    obtain ⟨e, k⟩ := below_take key h2
    by_cases q : p.1 < key
    · have hp : posL key (p :: t) = posL key t + 1 := by simp [posL, q]
      rw [hp]
      refine ⟨by rw [List.take_succ_cons, ← e]; simp [q], fun i hi => ?_⟩
      cases i with
      | zero => simpa [keyAt] using q
      | succ i =>
        have := k i (by simpa using hi)
        rw [show keyAt (p :: t) (i + 1) = keyAt t i by simp [keyAt], ← this]
        omega
    · have hn : (p :: t).filter (fun p => decide (p.1 < key)) = [] := by
        rw [List.filter_eq_nil_iff]
        intro x hx
        rcases List.mem_cons.1 hx with rfl | hx
        · simpa using q
        · have := h1 x hx
          simp; omega
      have hp : posL key (p :: t) = 0 := by unfold posL; rw [hn]; rfl
      rw [hp]
      refine ⟨by rw [hn]; rfl, fun i hi => ?_⟩
      have : p.1 ≤ keyAt (p :: t) i := by
        cases i with
        | zero => simp [keyAt]
        | succ i =>
          have hi' : i < t.length := by simpa using hi
          have := h1 t[i] (List.getElem_mem hi')
          rw [show keyAt (p :: t) (i + 1) = keyAt t i by simp [keyAt], key_get t i hi']
          omega
      omega
end Go.Proofs.Ytljidfaeljpnpaa

namespace Go.Proofs.Ytljidfaeljpnpaa

open Go.RowKit

/-- Step's loop for Successor, Predecessor, Min, Max behind j pairs: the pair it holds. -/
def nbN (ps : PL) (kind key : Int) : Nat → Option (Int × Int)
  | 0 => none
  | j + 1 =>
    if kind = 7 ∧ nbN ps kind key j = none ∨ kind = 5 ∧ nbN ps kind key j = none ∧ key < keyAt ps j ∨ kind = 8 ∨ kind = 6 ∧ keyAt ps j < key then some (keyAt ps j, valAt ps j) else nbN ps kind key j
theorem nbN_min (ps : PL) (key : Int) : ∀ j, j ≤ ps.length → nbN ps 7 key j = (ps.take j).head?
  | 0, _ => rfl
  | j + 1, h => by
    rw [take_next ps (by omega)]
    simp only [nbN, nbN_min ps key j (by omega)]
    cases ps.take j <;> simp
theorem nbN_max (ps : PL) (key : Int) : ∀ j, j ≤ ps.length → nbN ps 8 key j = (ps.take j).getLast?
  | 0, _ => rfl
  | j + 1, h => by
    rw [take_next ps (by omega)]
    simp [nbN]
theorem nbN_next (ps : PL) (key : Int) : ∀ j, j ≤ ps.length → nbN ps 5 key j = ((ps.take j).filter fun p => decide (key < p.1)).head?
  | 0, _ => rfl
  | j + 1, h => by
    rw [take_next ps (by omega), List.filter_append]
    simp only [nbN, nbN_next ps key j (by omega)]
    by_cases q : key < keyAt ps j
    · cases (ps.take j).filter fun p => decide (key < p.1) <;> simp [q]
    · cases (ps.take j).filter fun p => decide (key < p.1) <;> simp [q]
theorem nbN_back (ps : PL) (key : Int) : ∀ j, j ≤ ps.length → nbN ps 6 key j = ((ps.take j).filter fun p => decide (p.1 < key)).getLast?
  | 0, _ => rfl
  | j + 1, h => by
    rw [take_next ps (by omega), List.filter_append]
    simp only [nbN, nbN_back ps key j (by omega)]
    by_cases q : keyAt ps j < key
    · simp [q]
    · simp [q]
theorem nbN_not (ps : PL) (kind key : Int) (hk : kind < 5 ∨ 8 < kind) : ∀ j, nbN ps kind key j = none
  | 0 => rfl
  | j + 1 => by
    simp only [nbN, nbN_not ps kind key hk j]
    rw [if_neg (by omega)]

theorem posL_cons (key : Int) {p : Int × Int} {t : PL} (h : Srt (p :: t)) : posL key (p :: t) = if p.1 < key then posL key t + 1 else 0 := by
  split
  · rename_i q; simp [posL, q]
  · rename_i q
    have := (below_take key h).2 0 (by simp)
    have k0 : keyAt (p :: t) 0 = p.1 := by simp [keyAt]
    rw [k0] at this
    omega
/-- What is looked up stands at the key's place. -/
theorem getK_none (key : Int) : ∀ {ps : PL}, (∀ x ∈ ps, x.1 ≠ key) → getK key ps = none
  | [], _ => rfl
  | p :: t, h => by
    simp only [getK]
    rw [if_neg (h p (by simp)), getK_none key (fun x hx => h x (by simp [hx]))]
theorem key_cons (p : Int × Int) (t : PL) (i : Nat) : keyAt (p :: t) (i + 1) = keyAt t i := by simp [keyAt]
theorem val_cons (p : Int × Int) (t : PL) (i : Nat) : valAt (p :: t) (i + 1) = valAt t i := by simp [valAt]
theorem getK_pos (key : Int) : ∀ {ps : PL}, Srt ps → getK key ps = if posL key ps < ps.length ∧ keyAt ps (posL key ps) = key then some (valAt ps (posL key ps)) else none
  | [], _ => by simp [getK, posL]
  | p :: t, h => by
    obtain ⟨h1, h2⟩ := List.pairwise_cons.1 h
    rw [posL_cons key h]
    simp only [getK]
    by_cases q : p.1 < key
    · rw [if_neg (by omega), if_pos q, key_cons, val_cons, getK_pos key h2]
      simp only [List.length_cons, Nat.add_lt_add_iff_right]
    · rw [if_neg q]
      by_cases q2 : p.1 = key
      · simp [q2, keyAt, valAt]
      · rw [if_neg q2, getK_none key (fun x hx => by have := h1 x hx; omega), if_neg (by simp [keyAt, q2])]
/-- 1 if the key is there, 0 if it isn't. -/
def hasK (key : Int) (ps : PL) : Nat := match getK key ps with | some _ => 1 | none => 0
theorem hasK_ne {key : Int} {p : Int × Int} {t : PL} (h : ¬ p.1 = key) : hasK key (p :: t) = hasK key t := by
  unfold hasK
  simp only [getK, if_neg h]
theorem hasK_eq {key : Int} {p : Int × Int} {t : PL} (h : p.1 = key) : hasK key (p :: t) = 1 := by
  unfold hasK
  simp only [getK, if_pos h]
theorem hasK_none {key : Int} {t : PL} (h : ∀ x ∈ t, x.1 ≠ key) : hasK key t = 0 := by
  unfold hasK
  rw [getK_none key h]
theorem putL_pos (key val : Int) : ∀ {ps : PL}, Srt ps → putL key val ps = ps.take (posL key ps) ++ (key, val) :: ps.drop (posL key ps + hasK key ps)
  | [], _ => by simp [putL, posL]
  | p :: t, h => by
    obtain ⟨h1, h2⟩ := List.pairwise_cons.1 h
    rw [posL_cons key h]
    simp only [putL]
    by_cases q : p.1 < key
    · rw [if_pos q, if_pos q, hasK_ne (by omega), putL_pos key val h2, show posL key t + 1 + hasK key t = posL key t + hasK key t + 1 by omega]
      rfl
    · rw [if_neg q, if_neg q]
      by_cases q2 : p.1 = key
      · rw [if_pos q2, hasK_eq q2]; rfl
      · rw [if_neg q2, hasK_ne q2, hasK_none (fun x hx => by have := h1 x hx; omega)]
        rfl
theorem delL_pos (key : Int) : ∀ {ps : PL}, Srt ps → delL key ps = ps.take (posL key ps) ++ ps.drop (posL key ps + hasK key ps)
  | [], _ => by simp [delL]
  | p :: t, h => by
    obtain ⟨h1, h2⟩ := List.pairwise_cons.1 h
    have ih := delL_pos key h2
    rw [posL_cons key h]
    unfold delL at ih ⊢
    by_cases q : p.1 < key
    · have q2 : ¬ p.1 = key := by omega
      rw [List.filter_cons, if_pos (by simpa using q2), ih, if_pos q, hasK_ne q2, show posL key t + 1 + hasK key t = posL key t + hasK key t + 1 by omega]
      rfl
    · rw [if_neg q]
      have ha := del_above key t (fun x hx => by have := h1 x hx; omega)
      unfold delL at ha
      by_cases q2 : p.1 = key
      · rw [List.filter_cons, if_neg (by simpa using q2), ha, hasK_eq q2]
        rfl
      · rw [List.filter_cons, if_pos (by simpa using q2), ha, hasK_ne q2, hasK_none (fun x hx => by have := h1 x hx; omega)]
        rfl
/-- From lo to hi: what lies between two places. -/
theorem filter_from (key : Int) : ∀ {ps : PL}, Srt ps → ps.filter (fun p => decide (key ≤ p.1)) = ps.drop (posL key ps)
  | [], _ => by simp
  | p :: t, h => by
    obtain ⟨h1, h2⟩ := List.pairwise_cons.1 h
    rw [posL_cons key h, List.filter_cons]
    by_cases q : p.1 < key
    · rw [if_neg (by simp; omega), if_pos q, List.drop_succ_cons, filter_from key h2]
    · rw [if_pos (by simp; omega), if_neg q, List.drop_zero]
      congr 1
      rw [List.filter_eq_self]
      intro x hx
      have := h1 x hx
      simp; omega
theorem posL_mono {lo hi : Int} (h : lo ≤ hi) (ps : PL) : posL lo ps ≤ posL hi ps := by
  induction ps with
  | nil => simp [posL]
  | cons p t ih =>
    unfold posL at ih ⊢
    simp only [List.filter_cons]
    by_cases q : p.1 < lo
    · have : p.1 < hi := by omega
      simp [q, this]; exact ih
    · by_cases q2 : p.1 < hi
      · simp [q, q2]; omega
      · simp [q, q2]; exact ih
theorem inL_pos (lo hi : Int) {ps : PL} (h : Srt ps) : inL lo hi ps = (ps.take (posL (hi + 1) ps)).drop (posL lo ps) := by
  have e : inL lo hi ps = (ps.filter fun p => decide (p.1 < hi + 1)).filter fun p => decide (lo ≤ p.1) := by
    unfold inL
    rw [List.filter_filter]
    apply List.filter_congr
    intro x _
    by_cases q : lo ≤ x.1 <;> by_cases q2 : x.1 ≤ hi <;> simp [q, q2] <;> omega
  have hs : Srt (ps.take (posL (hi + 1) ps)) := h.sublist (List.take_sublist _ _)
  rw [e, (below_take (hi + 1) h).1, filter_from lo hs]
  by_cases q : lo ≤ hi + 1
  · congr 1
    rw [← (below_take (hi + 1) h).1]
    unfold posL
    rw [List.filter_filter]
    congr 1
    apply List.filter_congr
    intro x _
    by_cases q2 : x.1 < lo <;> simp [q2] <;> omega
  · have h1 : posL (hi + 1) ps ≤ posL lo ps := posL_mono (by omega) ps
    have h2 : (ps.take (posL (hi + 1) ps)).drop (posL lo ps) = [] := by rw [List.drop_eq_nil_iff, List.length_take]; omega
    rw [h2, List.drop_eq_nil_iff]
    have : posL lo (ps.take (posL (hi + 1) ps)) = (ps.take (posL (hi + 1) ps)).length := by
      unfold posL
      congr 1
      rw [List.filter_eq_self]
      intro x hx
      have hx2 : x ∈ ps.filter fun p => decide (p.1 < hi + 1) := by rw [(below_take (hi + 1) h).1]; exact hx
      simp at hx2
      simp; omega
    omega
end Go.Proofs.Ytljidfaeljpnpaa

namespace Go.Proofs.Ytljidfaeljpnpaa

open Go.RowKit

structure OpD where
  kind : Int
  key : Int
  val : Int
  hi : Int
structure RetD where
  ok : Bool
  key : Int
  val : Int
  pairs : PL
def RetD.zero : RetD := ⟨false, 0, 0, []⟩
/-- The answer that tells a pair, or nothing. -/
def tellR : Option (Int × Int) → RetD
  | none => RetD.zero
  | some p => ⟨true, p.1, p.2, []⟩
/-- The map behind an operation. -/
def stepL (ps : PL) (o : OpD) : PL :=
  if o.kind = 2 ∨ o.kind = 3 ∧ getK o.key ps = none then putL o.key o.val ps else if o.kind = 4 then delL o.key ps else ps
/-- What it answers. -/
def stepR (ps : PL) (o : OpD) : RetD :=
  if o.kind = 1 ∨ o.kind = 2 ∨ o.kind = 4 then ⟨(getK o.key ps).isSome, 0, (getK o.key ps).getD 0, []⟩
  else if o.kind = 3 then ⟨(getK o.key ps).isNone, 0, (getK o.key ps).getD 0, []⟩
  else if o.kind = 9 then ⟨true, 0, 0, inL o.key o.hi ps⟩
  else tellR (nbN ps o.kind o.key ps.length)
def runL (ps : PL) : List OpD → PL
  | [] => ps
  | o :: t => runL (stepL ps o) t
def runR (ps : PL) : List OpD → List RetD
  | [] => []
  | o :: t => stepR ps o :: runR (stepL ps o) t
theorem runL_append (b : List OpD) : ∀ (a : List OpD) (ps : PL), runL ps (a ++ b) = runL (runL ps a) b
  | [], _ => rfl
  | o :: t, ps => runL_append b t (stepL ps o)
theorem runR_append (b : List OpD) : ∀ (a : List OpD) (ps : PL), runR ps (a ++ b) = runR ps a ++ runR (runL ps a) b
  | [], _ => rfl
  | o :: t, ps => by
    show stepR ps o :: runR (stepL ps o) (t ++ b) = _
    rw [runR_append b t (stepL ps o)]
    rfl
theorem runR_length : ∀ (a : List OpD) (ps : PL), (runR ps a).length = a.length
  | [], _ => rfl
  | o :: t, ps => by simp [runR, runR_length t]
theorem runL_next (ps : PL) (a : List OpD) (o : OpD) : runL ps (a ++ [o]) = stepL (runL ps a) o := runL_append [o] a ps
theorem runR_next (ps : PL) (a : List OpD) (o : OpD) : runR ps (a ++ [o]) = runR ps a ++ [stepR (runL ps a) o] := runR_append [o] a ps
theorem putL_length (key val : Int) : ∀ ps : PL, (putL key val ps).length ≤ ps.length + 1
  | [] => by simp [putL]
  | p :: t => by
    have := putL_length key val t
    simp only [putL]
    split
    · simp; omega
    · split <;> simp
theorem stepL_length (ps : PL) (o : OpD) : (stepL ps o).length ≤ ps.length + 1 := by
  unfold stepL
  split
  · exact putL_length _ _ _
  · split
    · have : (delL o.key ps).length ≤ ps.length := List.length_filter_le _ _
      omega
    · omega
theorem runL_length : ∀ (a : List OpD) (ps : PL), (runL ps a).length ≤ ps.length + a.length
  | [], _ => Nat.le_refl _
  | o :: t, ps => by
    have h1 := runL_length t (stepL ps o)
    have h2 := stepL_length ps o
    show (runL (stepL ps o) t).length ≤ _
    simp; omega
theorem stepL_srt {ps : PL} (h : Srt ps) (o : OpD) : Srt (stepL ps o) := by
  unfold stepL
  split
  · exact putL_srt _ _ h
  · split
    · exact delL_srt _ h
    · exact h
theorem runL_srt : ∀ (a : List OpD) {ps : PL}, Srt ps → Srt (runL ps a)
  | [], _, h => h
  | o :: t, _, h => runL_srt t (stepL_srt h o)
theorem stepL_same {ps : PL} {o : OpD} (h : ¬ (2 ≤ o.kind ∧ o.kind ≤ 4)) : stepL ps o = ps := by
  unfold stepL
  rw [if_neg (by omega), if_neg (by omega)]

/-- Of: of one key the last pair counts. -/
def ofN (ps : PL) : Nat → PL
  | 0 => []
  | j + 1 => putL (keyAt ps j) (valAt ps j) (ofN ps j)
def ofL (ps : PL) : PL := ofN ps ps.length
theorem ofN_srt (ps : PL) : ∀ j, Srt (ofN ps j)
  | 0 => List.Pairwise.nil
  | j + 1 => putL_srt _ _ (ofN_srt ps j)
theorem ofN_length (ps : PL) : ∀ j, (ofN ps j).length ≤ j
  | 0 => Nat.le_refl _
  | j + 1 => by
    have h1 := ofN_length ps j
    have h2 := putL_length (keyAt ps j) (valAt ps j) (ofN ps j)
    show (putL _ _ _).length ≤ _
    omega
theorem ofN_mem (ps : PL) (x : Int × Int) : ∀ j, j ≤ ps.length → x ∈ ofN ps j → x ∈ ps
  | 0, _, h => by simp [ofN] at h
  | j + 1, hj, h => by
    rcases mem_putL h with rfl | h
    · exact List.mem_of_getElem? (pair_eta ps j (by omega))
    · exact ofN_mem ps x j (by omega) h
theorem ofL_srt (ps : PL) : Srt (ofL ps) := ofN_srt ps _
theorem ckErr_of (ps : PL) : ckErr (ofL ps) = 0 := ckErr_zero.2 (ofL_srt ps)

/- P6.3's laws -/

theorem law_put_get (ps : PL) (key val : Int) : stepR (putL key val ps) ⟨1, key, 0, 0⟩ = ⟨true, 0, val, []⟩ := by
  simp [stepR, getK_put]
theorem law_put_was (ps : PL) (key val : Int) : stepR ps ⟨2, key, val, 0⟩ = stepR ps ⟨1, key, 0, 0⟩ := by simp [stepR]
theorem law_del_get (ps : PL) (key : Int) : stepR (delL key ps) ⟨1, key, 0, 0⟩ = RetD.zero := by
  simp [stepR, getK_del, RetD.zero]
theorem law_min (ps : PL) (key : Int) : nbN ps 7 key ps.length = ps[0]? := by
  rw [nbN_min ps key _ (Nat.le_refl _), List.take_length, List.head?_eq_getElem?]
theorem law_max (ps : PL) (key : Int) : nbN ps 8 key ps.length = ps[ps.length - 1]? := by
  rw [nbN_max ps key _ (Nat.le_refl _), List.take_length, List.getLast?_eq_getElem?]
/-- The successor is the first of the range above. -/
theorem law_next (ps : PL) (key most : Int) (h : ∀ x ∈ ps, x.1 ≤ most) : nbN ps 5 key ps.length = (inL (key + 1) most ps)[0]? := by
  rw [nbN_next ps key _ (Nat.le_refl _), List.take_length, List.head?_eq_getElem?]
  unfold inL
  congr 1
  apply List.filter_congr
  intro x hx
  have := h x hx
  by_cases q : key < x.1
  · simp [q, this]; omega
  · simp [q]; omega
/-- The predecessor is the last of the range below. -/
theorem law_back (ps : PL) (key least : Int) (h : ∀ x ∈ ps, least ≤ x.1) : nbN ps 6 key ps.length = (inL least (key - 1) ps)[(inL least (key - 1) ps).length - 1]? := by
  rw [nbN_back ps key _ (Nat.le_refl _), List.take_length, ← List.getLast?_eq_getElem?]
  unfold inL
  congr 1
  apply List.filter_congr
  intro x hx
  have := h x hx
  by_cases q : x.1 < key
  · simp [q, this]; omega
  · simp [q]; omega
theorem law_next_none (ps : PL) (key : Int) (h : ∀ x ∈ ps, x.1 ≤ key) : nbN ps 5 key ps.length = none := by
  rw [nbN_next ps key _ (Nat.le_refl _), List.take_length, List.filter_eq_nil_iff.2, List.head?_nil]
  intro x hx
  have := h x hx
  simp; omega
theorem law_back_none (ps : PL) (key : Int) (h : ∀ x ∈ ps, key ≤ x.1) : nbN ps 6 key ps.length = none := by
  rw [nbN_back ps key _ (Nat.le_refl _), List.take_length, List.filter_eq_nil_iff.2, List.getLast?_nil]
  intro x hx
  have := h x hx
  simp; omega

/-- Differ: the keys of both that aren't in both with one value. -/
def differN (a b both : PL) : Nat → List Int
  | 0 => []
  | j + 1 => if (getK (keyAt both j) a).isSome = (getK (keyAt both j) b).isSome ∧ (getK (keyAt both j) a).getD 0 = (getK (keyAt both j) b).getD 0 then differN a b both j else differN a b both j ++ [keyAt both j]
def differL (a b : PL) : List Int := differN a b (ofL (a ++ b)) (ofL (a ++ b)).length
theorem differN_filter (a b both : PL) : ∀ j, j ≤ both.length → differN a b both j = ((both.take j).map (·.1)).filter fun k => decide (getK k a ≠ getK k b)
  | 0, _ => rfl
  | j + 1, h => by
    rw [take_next both (by omega), List.map_append, List.filter_append, ← differN_filter a b both j (by omega)]
    simp only [differN, List.map_cons, List.map_nil, List.filter_cons, List.filter_nil]
    cases h1 : getK (keyAt both j) a <;> cases h2 : getK (keyAt both j) b <;> simp
    split <;> simp_all
end Go.Proofs.Ytljidfaeljpnpaa
