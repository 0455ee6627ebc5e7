
/- Layer 5: Orders; the law's own sample, and known. -/

import Derived.Test.YtcphajjonecmbaaDoorEOrd

import Derived.Test.YtcphajjonecmbaaDoorEAsk

namespace Go.Proofs.YtcphajjonecmbaaDoor

open Go.RowKit

attribute [local go_sem ↓] Go.wp_at_zero Go.wp_at_succ

/-- The spans of those that have returned, among the first j. -/
def rtN (sp : List Sp) : Nat → List Sp
  | 0 => []
  | j + 1 => if (spAt sp j).2 = -1 then rtN sp j else rtN sp j ++ [spAt sp j]
theorem rtN_le (sp : List Sp) : ∀ j, (rtN sp j).length ≤ j
  | 0 => Nat.le_refl _
  | j + 1 => by
    have := rtN_le sp j
    simp only [rtN]
    split
    · omega
    · simp; omega
def ordersA (hs : List EvD) : Int × Int :=
  if hErr hs ≠ 0 then (0, hErr hs) else if 16 < (rtN (spansL hs) (spansL hs).length).length then (0, 2) else (ordsA (rtN (spansL hs) (spansL hs).length), 0)

def opG : OpD := ⟨1, 5, 0, 0⟩
def opP : OpD := ⟨2, 5, 7, 0⟩
def sampleL : List EvD := [⟨0, false, opG, RetD.zero⟩, ⟨1, false, opP, RetD.zero⟩, ⟨1, true, opP, RetD.zero⟩, ⟨0, true, opG, ⟨true, 0, 7, []⟩⟩]
def sampleC : Array Value := #[.int .i64 0, .bool false, .int .i64 1, .int .i64 5, .int .i64 0, .int .i64 0, .bool false, .int .i64 0, .int .i64 0, .slice none 0 0, .int .i64 1, .bool false, .int .i64 2, .int .i64 5, .int .i64 7, .int .i64 0, .bool false, .int .i64 0, .int .i64 0, .slice none 0 0, .int .i64 1, .bool true, .int .i64 2, .int .i64 5, .int .i64 7, .int .i64 0, .bool false, .int .i64 0, .int .i64 0, .slice none 0 0, .int .i64 0, .bool true, .int .i64 1, .int .i64 5, .int .i64 0, .int .i64 0, .bool true, .int .i64 0, .int .i64 7, .slice none 0 0]
theorem sample_evs (w : World) (T : TypeId) (g : Nat) (hg : g = w.heap.size) : EvsAt (w.alloc (.cells sampleC T)) (some ⟨g, 0, none⟩) g 0 sampleL (fun _ => none) (fun _ => 0) (fun _ => 0) (fun _ => 0) := by
  subst hg
  have hc := cell_new w sampleC T
  refine ⟨fun _ => rfl, fun _ => by simp, by unfold maxLen; simp [sampleL], fun i hi => ?_, fun i hi => ?_, fun i hi => ?_, fun i hi => ?_, fun i _ => by simp only [World.frozen?, heap_alloc_at w (.cells sampleC T) w.heap.size rfl]; simp⟩
  · match i, hi with
    | 0, _ => exact ⟨(hc 0).trans rfl, (hc 1).trans rfl⟩
    | 1, _ => exact ⟨(hc 10).trans rfl, (hc 11).trans rfl⟩
    | 2, _ => exact ⟨(hc 20).trans rfl, (hc 21).trans rfl⟩
    | 3, _ => exact ⟨(hc 30).trans rfl, (hc 31).trans rfl⟩
  · match i, hi with
    | 0, _ => exact ⟨(hc 2).trans rfl, (hc 3).trans rfl, (hc 4).trans rfl, (hc 5).trans rfl⟩
    | 1, _ => exact ⟨(hc 12).trans rfl, (hc 13).trans rfl, (hc 14).trans rfl, (hc 15).trans rfl⟩
    | 2, _ => exact ⟨(hc 22).trans rfl, (hc 23).trans rfl, (hc 24).trans rfl, (hc 25).trans rfl⟩
    | 3, _ => exact ⟨(hc 32).trans rfl, (hc 33).trans rfl, (hc 34).trans rfl, (hc 35).trans rfl⟩
  · match i, hi with
    | 0, _ => exact ⟨(hc 6).trans rfl, (hc 7).trans rfl, (hc 8).trans rfl, (hc 9).trans rfl⟩
    | 1, _ => exact ⟨(hc 16).trans rfl, (hc 17).trans rfl, (hc 18).trans rfl, (hc 19).trans rfl⟩
    | 2, _ => exact ⟨(hc 26).trans rfl, (hc 27).trans rfl, (hc 28).trans rfl, (hc 29).trans rfl⟩
    | 3, _ => exact ⟨(hc 36).trans rfl, (hc 37).trans rfl, (hc 38).trans rfl, (hc 39).trans rfl⟩
  · have e : (evAt sampleL i).rt.pairs = [] := by
      match i, hi with
      | 0, _ => rfl
      | 1, _ => rfl
      | 2, _ => rfl
      | 3, _ => rfl
    rw [e]
    exact ⟨⟨fun h => absurd rfl h, fun h => absurd rfl h, fun i hi => by simp at hi, by simp, fun i hi => by simp at hi⟩, fun _ => ⟨rfl, rfl⟩, by simp⟩
theorem sample_ord : ordersA sampleL = (2, 0) := by decide +kernel
theorem sample_ahead : aheadA sampleL 0 1 = (false, 0) := by decide +kernel

end Go.Proofs.YtcphajjonecmbaaDoor
