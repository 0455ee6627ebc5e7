/- One contract of word's do over a Bool word, for each access that there is. -/
import Derived.Test.YtffnoaafmaeihaaGreatWBool
import Derived.Test.YtffnoaafmaeihaaGreatNum
namespace Go.Proofs.YtffnoaafmaeihaaGreat
open Go.RowKit
set_option linter.unusedSimpArgs false

theorem cv_5 (v : Int) : cv 5 v = .int .u32 v := rfl
theorem bI_cut (a : Int) : bI (a != 0) = cut 5 a := by
  rw [cut_5]
  by_cases h : a = 0 <;> simp [bI, h]
theorem bI_cn {v : Int} (hv : Cn 5 v) : bI (v != 0) = v := (bI_cut v).trans hv
theorem eq_5 {v : Int} (hv : Cn 5 v) (a : Int) : ((v != 0) = (a != 0)) ↔ v = cut 5 a := by
  have h1 := bI_cn hv
  have h2 := bI_cut a
  constructor
  · intro e; rw [← h1, ← h2, e]
  · intro e
    rw [e, ← h2]
    cases h : (a != 0) <;> simp [bI]

theorem doAny_5 (b : Nat) (v d A B : Int) (w : World) (hv : Cn 5 v) (hd : can 5 d = true) (hc : w.cell? ⟨b, 0, none⟩ = some (cv 5 v)) (hz : w.frozen? ⟨b, 0, none⟩ = false) (hb : b < w.heap.size) :
    Calls Tryz.prog 113 #[.agg #[.pointer (some ⟨b, 0, none⟩)], .agg #[.int .i64 d, .int .u64 A, .int .u64 B]] w fun e w' => e = .returned (.agg #[.int .u64 (ov 5 v d A), .bool (ok 5 v d A)]) ∧ Held b (cv 5 (nx 5 v d A B)) w w' := by
  have hd' : d = 1 ∨ d = 2 ∨ d = 4 ∨ d = 5 := by simp [can] at hd; omega
  have hc' : w.cell? ⟨b, 0, none⟩ = some (.int .u32 (bI (v != 0))) := by rw [bI_cn hv]; exact hc
  rcases hd' with rfl | rfl | rfl | rfl
  · refine (doLoad_Bool b (v != 0) A B w hc' hz hb).mono ?_
    rintro e w' ⟨rfl, h⟩
    rw [bI_cn hv] at h ⊢
    rw [show ov 5 v 1 A = v from by simp [ov], show ok 5 v 1 A = true from by simp [ok], show nx 5 v 1 A B = v from by simp [nx], cv_5]
    exact ⟨rfl, h⟩
  · refine (doStore_Bool b (v != 0) A B w hc' hz hb).mono ?_
    rintro e w' ⟨rfl, h⟩
    rw [bI_cut] at h
    rw [show ov 5 v 2 A = 0 from by simp [ov], show ok 5 v 2 A = true from by simp [ok], show nx 5 v 2 A B = cut 5 A from by simp [nx], cv_5]
    exact ⟨rfl, h⟩
  · refine (doSwap_Bool b (v != 0) A B w hc' hz hb).mono ?_
    rintro e w' ⟨rfl, h⟩
    rw [bI_cut] at h
    rw [bI_cn hv, show ov 5 v 4 A = v from by simp [ov], show ok 5 v 4 A = true from by simp [ok], show nx 5 v 4 A B = cut 5 A from by simp [nx], cv_5]
    exact ⟨rfl, h⟩
  · by_cases hh : v = cut 5 A
    · refine (doHit_Bool b (v != 0) A B w hc' hz hb ((eq_5 hv A).2 hh)).mono ?_
      rintro e w' ⟨rfl, h⟩
      rw [bI_cut] at h
      rw [show ov 5 v 5 A = 0 from by simp [ov], show ok 5 v 5 A = true from by simp [ok, hh], show nx 5 v 5 A B = cut 5 B from by simp [nx, hh], cv_5]
      exact ⟨rfl, h⟩
    · refine (doMiss_Bool b (v != 0) A B w hc' hz hb (fun e => hh ((eq_5 hv A).1 e))).mono ?_
      rintro e w' ⟨rfl, h⟩
      rw [bI_cn hv] at h
      rw [show ov 5 v 5 A = 0 from by simp [ov], show ok 5 v 5 A = false from by simp [ok, hh], show nx 5 v 5 A B = v from by simp [nx, hh], cv_5]
      exact ⟨rfl, h⟩

end Go.Proofs.YtffnoaafmaeihaaGreat
