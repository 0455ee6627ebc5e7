
/- Layer 5: the reference's Calls, before, Ahead, Pending, Width, Row; rows of numbers held against one another. -/

import Derived.Test.YtcphajjonecmbaaDoorECalls

namespace Go.Proofs.YtcphajjonecmbaaDoor

open Go.RowKit

attribute [local go_sem ↓] Go.wp_at_zero Go.wp_at_succ

/-- The operations lie in memory. -/
structure CallsAt (hs : List EvD) (w : World) (base : Option Addr) (g : Nat) (l : List (Sp × Value)) : Prop where
  base : l.length ≠ 0 → base = some ⟨g, 0, none⟩
  lt : l.length ≠ 0 → g < w.heap.size
  cells : ∀ k x, l[k]? = some x → ∀ i, i < 11 → w.cell? ⟨g, k * 11 + i, none⟩ = (callC hs x.1 x.2)[i]?
theorem CallsAt.below {hs : List EvD} {w w' : World} {base : Option Addr} {g : Nat} {l : List (Sp × Value)} (h : CallsAt hs w base g l) (hb : Below w.heap.size w w') : CallsAt hs w' base g l := by
  refine ⟨h.base, fun hn => Nat.lt_of_lt_of_le (h.lt hn) hb.size, fun k x hx i hi => ?_⟩
  have hl : l.length ≠ 0 := by have := (List.getElem?_eq_some_iff.1 hx).1; omega
  exact (hb.cell (p := ⟨g, _, none⟩) (h.lt hl)).trans (h.cells k x hx i hi)
theorem calls_of_owns {hs : List EvD} {w : World} {B : Nat} {e : TypeId} {v : Value} {l : List (Sp × Value)} (h : w.ownsRow B e 11 v l.length (callsC hs l)) :
    ∃ base cap g, v = .slice base l.length cap ∧ (base = none → l.length = 0 ∧ cap = 0) ∧ CallsAt hs w base g l ∧ l.length ≤ maxLen := by
  by_cases hn : l.length = 0
  · obtain ⟨a, c, e⟩ := owns_form h
    refine ⟨a, c, 0, e, fun ha => ⟨hn, ?_⟩, ⟨fun q => absurd hn q, fun q => absurd hn q, fun k x hx => ?_⟩, by omega⟩
    · obtain ⟨_, h⟩ := h
      subst ha
      rcases h with ⟨h, _⟩ | ⟨g, cap, cur, h, _⟩
      · rw [e] at h; simp at h; exact h.2
      · rw [e] at h; cases h
    · have := (List.getElem?_eq_some_iff.1 hx).1; omega
  · obtain ⟨g, cap, e, h1, h2, h3, h4, h5, h6⟩ := owns_some h (by omega)
    refine ⟨_, cap, g, e, (fun q => by cases q), ⟨fun _ => rfl, fun _ => h2, fun k x hx i hi => ?_⟩, by omega⟩
    have hk := (List.getElem?_eq_some_iff.1 hx).1
    rw [h5 _ (by omega)]
    exact callsC_get hs l k i x hx hi
theorem CallsAt.ft {hs : List EvD} {w : World} {base : Option Addr} {g : Nat} {l : List (Sp × Value)} {sp : List Sp} (h : CallsAt hs w base g l) (hm : l.map (·.1) = sp) {k : Nat} (hk : k < sp.length) : w.cell? ⟨g, k * 11 + 9, none⟩ = some (.int .i64 (spAt sp k).1) ∧ w.cell? ⟨g, k * 11 + 10, none⟩ = some (.int .i64 (spAt sp k).2) := by
  obtain ⟨x, hx, e, _⟩ := getE_of_map hm hk
  have a := h.cells k x hx 9 (by omega)
  have b := h.cells k x hx 10 (by omega)
  simp only [callC, List.getElem?_cons_succ, List.getElem?_cons_zero] at a b
  rw [← e]
  exact ⟨a, b⟩

section

variable (base : Option Addr) (b o c : Nat) (hs : List EvD) (pb : Nat → Option Addr) (pc pg po : Nat → Nat) (w : World) (h : EvsAt w base b o hs pb pc pg po)

include h

set_option maxRecDepth 100000 in
set_option maxHeartbeats 1000000 in
theorem rCalls_any : Calls Tryd.prog 113 #[.slice base hs.length c] w fun e w' => ∃ v, e = .returned (.tuple #[v, .int .i64 (hErr hs)]) ∧ Below w.heap.size w w' ∧ (hErr hs ≠ 0 → v = .slice none 0 0) ∧ (hErr hs = 0 → ∃ l, l.map (·.1) = spansL hs ∧ w'.ownsRow w.heap.size 187 11 v l.length (callsC hs l) ∧ RetsAt hs w' w.heap.size v.ownBlock l) := by
  have HA : Hid _ := h
  clear h
  by_cases he : hErr hs = 0
  · have hn : (hErr hs != 0) = false := by simp [he]
    have HE : Hid _ := he
    clear he
    go_enter Tryd.func113, Tryd.ntmps113
    go_wp2_with fail
    refine (rcheck_any base b o c hs pb pc pg po _ HA.out).mono ?_
    rintro e w1 ⟨rfl, hb⟩
    go_wp2_with fail
    refine (calls_any base b o c hs pb pc pg po _ (HA.out.below hb) HE.out).mono ?_
    rintro e w2 ⟨v, l, rfl, hb2, hm, ho, hr⟩
    have HM : Hid _ := hm
    have HO : Hid (World.ownsRow _ _ _ _ _ _ _) := ho
    have HR : Hid (RetsAt _ _ _ _ _) := hr
    clear hm ho hr
    go_wp2_with fail
    go_ret2
    refine ⟨v, by rw [HE.out]; rfl, hb.trans (hb2.mono hb.size), fun h => absurd HE.out h, fun _ => ⟨l, HM.out, owns_down HO.out hb.size, ?_⟩⟩
    intro x hx
    obtain ⟨r1, r2⟩ := HR.out x hx
    refine ⟨r1, fun hn => ?_⟩
    obtain ⟨g, cap, e, h1, h2⟩ := r2 hn
    exact ⟨g, cap, e, Nat.le_trans hb.size h1, h2⟩
  · have hn : (hErr hs != 0) = true := by simp [he]
    have HE : Hid _ := he
    clear he
    go_enter Tryd.func113, Tryd.ntmps113
    go_wp2_with fail
    refine (rcheck_any base b o c hs pb pc pg po _ HA.out).mono ?_
    rintro e w1 ⟨rfl, hb⟩
    go_wp2_with fail
    go_ret2
    exact ⟨_, rfl, hb, fun _ => rfl, fun h => absurd h HE.out⟩

end

end Go.Proofs.YtcphajjonecmbaaDoor
