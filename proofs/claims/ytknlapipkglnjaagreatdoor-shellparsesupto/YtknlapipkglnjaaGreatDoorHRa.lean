
/- Layer 28: the small calls of the reader of a text: Cut, saysNothing, goTo. -/

import Derived.Test.YtknlapipkglnjaaGreatDoorHGm

import Derived.Test.YtknlapipkglnjaaGreatDoorHShelf3

namespace Go.Proofs.YtknlapipkglnjaaGreatDoor

open Go.RowKit

attribute [local go_sem ↓] Go.wp_at_zero Go.wp_at_succ

theorem index_some : ∀ (t : List UInt8), (10 : UInt8) ∈ t → Lib.indexByte t 10 = ((t.takeWhile (· != 10)).length : Int)
  | [], h => by simp at h
  | b :: t, h => by
    by_cases e : b = 10
    · subst e; simp [Lib.indexByte]
    · have hm : (10 : UInt8) ∈ t := by
        rcases List.mem_cons.1 h with q | q
        · exact absurd q.symm e
        · exact q
      have ih := index_some t hm
      unfold Lib.indexByte
      rw [if_neg (by simpa using e), ih, if_neg (by simp), List.takeWhile_cons, if_pos (by simpa using e)]
      simp
theorem index_none : ∀ (t : List UInt8), (10 : UInt8) ∉ t → Lib.indexByte t 10 = -1
  | [], _ => rfl
  | b :: t, h => by
    have h1 : b ≠ 10 := fun q => h (by simp [q])
    have h2 : (10 : UInt8) ∉ t := fun q => h (by simp [q])
    unfold Lib.indexByte
    rw [if_neg (by simpa using h1), index_none t h2]
    rfl
theorem tw_none {t : List UInt8} (h : (10 : UInt8) ∉ t) : t.takeWhile (· != 10) = t := by
  have := List.takeWhile_append_of_pos (p := fun c : UInt8 => c != 10) (l₁ := t) (l₂ := []) (fun a ha => by simp; rintro rfl; exact h ha)
  simpa using this
theorem tw_some {t : List UInt8} (h : (10 : UInt8) ∈ t) : (t.takeWhile (· != 10)).length + 1 ≤ t.length := by
  induction t with
  | nil => simp at h
  | cons b t ih =>
    by_cases e : b = 10
    · subst e; simp
    · have hm : (10 : UInt8) ∈ t := by
        rcases List.mem_cons.1 h with q | q
        · exact absurd q.symm e
        · exact q
      rw [List.takeWhile_cons, if_pos (by simpa using e)]
      have := ih hm
      simp
      omega
theorem tw_take (t : List UInt8) : t.takeWhile (· != 10) = t.take (t.takeWhile (· != 10)).length := by
  obtain ⟨r, hr⟩ := List.takeWhile_prefix (fun c : UInt8 => c != 10) (l := t)
  conv => rhs; arg 2; rw [← hr]
  rw [List.take_left]
set_option maxRecDepth 100000 in
set_option maxHeartbeats 4000000 in
theorem lcut_any (t : List UInt8) (hl : t.length ≤ 2000000) (w : World) :
    Calls Tryz.prog 50 #[.string ⟨t.toArray⟩, .string ⟨#[10]⟩] w fun e w' => (∃ b, e = .returned (.tuple #[.string ⟨(t.takeWhile (· != 10)).toArray⟩, .string ⟨(t.drop ((t.takeWhile (· != 10)).length + 1)).toArray⟩, .bool b])) ∧ Below w.heap.size w w' := by
  have hsz : (⟨t.toArray⟩ : ByteArray).size = t.length := by simp [ByteArray.size]
  have IX : Hid (∀ W, Calls Tryz.prog 67 #[.string ⟨t.toArray⟩, .string ⟨#[10]⟩] W fun e w' => e = .returned (.int .i64 (Lib.indexByte t 10)) ∧ w' = W) := fun W => stringslite_Index_one ⟨t.toArray⟩ 10 W
  by_cases h : (10 : UInt8) ∈ t
  · obtain ⟨k, hk⟩ : ∃ k, k = (t.takeWhile (· != 10)).length := ⟨_, rfl⟩
    rw [index_some t h, ← hk] at IX
    have k1 : k + 1 ≤ t.length := by rw [hk]; exact tw_some h
    have HT : Hid (t.takeWhile (· != 10) = t.take k) := by rw [hk]; exact tw_take t
    rw [← hk]
    clear h hk
    go_enter Tryz.func50, Tryz.ntmps50
    go_wp2_with (first | (go_at_call 67; refine (IX.out _).mono ?_; rintro e w1 ⟨rfl, rfl⟩))
    go_region
    go_wp2_with fail
    have e1 : (⟨t.toArray⟩ : ByteArray).extract 0 k = ⟨(t.take k).toArray⟩ := by rw [ByteArray.extract_mk]; simp
    have e2 : (⟨t.toArray⟩ : ByteArray).extract (k + 1) t.length = ⟨(t.drop (k + 1)).toArray⟩ := by rw [ByteArray.extract_mk]; simp; rw [List.take_of_length_le (by simp)]
    rw [e1, e2]
    go_ret3
    exact ⟨⟨true, by rw [HT.out]; rfl⟩, (Below.refl _ _).drew⟩
  · rw [index_none t h] at IX
    rw [tw_none h, List.drop_eq_nil_of_le (by omega)]
    clear h
    go_enter Tryz.func50, Tryz.ntmps50
    go_wp2_with (first | (go_at_call 67; refine (IX.out _).mono ?_; rintro e w1 ⟨rfl, rfl⟩))
    go_ret3
    exact ⟨⟨false, rfl⟩, Below.refl _ _⟩
theorem cut_any (t : List UInt8) (hl : t.length ≤ 2000000) (w : World) :
    Calls Tryz.prog 25 #[.string ⟨t.toArray⟩, .string ⟨#[10]⟩] w fun e w' => (∃ b, e = .returned (.tuple #[.string ⟨(t.takeWhile (· != 10)).toArray⟩, .string ⟨(t.drop ((t.takeWhile (· != 10)).length + 1)).toArray⟩, .bool b])) ∧ Below w.heap.size w w' := by
  have CU : Hid _ := lcut_any t hl w
  generalize (t.drop ((t.takeWhile (· != 10)).length + 1)) = T at *
  generalize t.takeWhile (· != 10) = U at *
  go_enter Tryz.func25, Tryz.ntmps25
  go_wp2_with (first | (go_at_call 50; refine Calls.mono CU.out ?_; rintro e w1 ⟨⟨b, rfl⟩, hb1⟩; have B1 : Hid (Below _ _ w1) := hb1; clear hb1))
  go_ret3
  exact ⟨⟨b, rfl⟩, B1.out⟩
def saysB : List (List UInt8) → Bool
  | [] => true
  | x :: _ => Lib.hasPrefix x [35]
theorem prefix35 (x : List UInt8) : Lib.hasPrefix x [35] = true ↔ x.head? = some 35 := by
  unfold Lib.hasPrefix
  cases x with
  | nil => simp
  | cons a r =>
    constructor
    · intro h; have : (35 : UInt8) = a := by simpa [List.isPrefixOf] using h
      simp [← this]
    · intro h; have : a = 35 := by simpa using h
      simp [List.isPrefixOf, this]
set_option maxRecDepth 100000 in
set_option maxHeartbeats 4000000 in
theorem says_any (ws : List (List UInt8)) (base : Option Addr) (cap g0 : Nat) (w : World) (hb : ws ≠ [] → base = some ⟨g0, 0, none⟩) (hc : ∀ j, j < ws.length → w.cell? ⟨g0, j, none⟩ = some (.string ⟨(ws.getD j []).toArray⟩)) (hn : ws.length ≤ 4294967295) :
    Calls Tryz.prog 27 #[.slice base ws.length cap] w fun e w' => e = .returned (.bool (saysB ws)) ∧ w' = w := by
  cases ws with
  | nil =>
    clear hb hc hn
    go_enter Tryz.func27, Tryz.ntmps27
    go_wp2_with fail
    go_ret
    exact ⟨rfl, rfl⟩
  | cons x r =>
    obtain rfl := hb (by simp)
    have c0 : w.cell? ⟨g0, 0, none⟩ = some (.string ⟨x.toArray⟩) := hc 0 (by simp)
    have HP : Hid (∀ W, Calls Tryz.prog 53 #[.string ⟨x.toArray⟩, .string ⟨#[35]⟩] W fun e w' => e = .returned (.bool (saysB (x :: r))) ∧ w' = W) := fun W => strings_HasPrefix ⟨x.toArray⟩ ⟨#[35]⟩ W
    have n0 : (r.length : Int) ≤ 4294967295 := by simp at hn; omega
    have n1 : (0 : Int) ≤ (r.length : Int) := Int.natCast_nonneg _
    have z1 : ((r.length : Int) + 1 == 0) = false := beq_eq_false_iff_ne.2 (by omega)
    clear hb hc hn
    simp only [List.length_cons]
    generalize saysB (x :: r) = bb at *
    go_enter Tryz.func27, Tryz.ntmps27
    go_wp2_with (first | (go_at_call 53; refine (HP.out _).mono ?_; rintro e w1 ⟨rfl, rfl⟩))
    go_ret
    exact ⟨rfl, rfl⟩
set_option maxRecDepth 100000 in
set_option maxHeartbeats 4000000 in
theorem goTo_any (b : Nat) (p q : Int) (w : World) (hc : w.cell? ⟨b, 3, none⟩ = some (.int .i64 q)) (hf : w.frozen? ⟨b, 3, none⟩ = false) :
    Calls Tryz.prog 54 #[.pointer (some ⟨b, 0, none⟩), .int .i64 p] w fun e w' => (p < q ∧ e = .returned (.bool false) ∧ w' = w) ∨ (q ≤ p ∧ e = .returned (.bool true) ∧ w' = w.setCell ⟨b, 3, none⟩ (.int .i64 p)) := by
  by_cases h : p < q
  · have HH : Hid (p < q) := h
    go_enter Tryz.func54, Tryz.ntmps54
    go_wp2_with fail
    go_ret
    exact Or.inl ⟨HH.out, rfl, rfl⟩
  · have h' : q ≤ p := by omega
    have HH : Hid (q ≤ p) := h'
    have d0 : decide (p < q) = false := by simpa using h'
    clear h
    go_enter Tryz.func54, Tryz.ntmps54
    go_wp2_with fail
    go_ret
    exact Or.inr ⟨HH.out, rfl, rfl⟩
end Go.Proofs.YtknlapipkglnjaaGreatDoor
