/- One contract of word's do over a word of the kind uintptr, for each access that there is. -/
import Derived.Test.YtffnoaafmaeihaaGreatDuintptr
import Derived.Test.YtffnoaafmaeihaaGreatNum
namespace Go.Proofs.YtffnoaafmaeihaaGreat
open Go.RowKit
set_option linter.unusedSimpArgs false
set_option linter.unusedVariables false

theorem cv_6 (v : Int) : cv 6 v = .int .u64 v := rfl
theorem z_6 (v A B : Int) (hv : v % 18446744073709551616 = v) (hA : 0 ≤ A ∧ A < 18446744073709551616) (hB : 0 ≤ B ∧ B < 18446744073709551616) : v = v := by first | rfl | (simp only [IntKind.wrap_u64, IntKind.wrap_i32, IntKind.wrap_i64]; omega)
theorem c_6 (v A B : Int) (hv : v % 18446744073709551616 = v) (hA : 0 ≤ A ∧ A < 18446744073709551616) (hB : 0 ≤ B ∧ B < 18446744073709551616) : A = (cut 6 A) := by (try simp only [IntKind.wrap_i32, IntKind.wrap_i64, cut_6]) <;> omega
theorem p_6 (v A B : Int) (hv : v % 18446744073709551616 = v) (hA : 0 ≤ A ∧ A < 18446744073709551616) (hB : 0 ≤ B ∧ B < 18446744073709551616) : A = (cut 6 A) := by (try simp only [wrap32, wrap64, IntKind.wrap_i32, IntKind.wrap_i64, cut_6]) <;> omega
theorem add_6 (v A B : Int) (hv : v % 18446744073709551616 = v) (hA : 0 ≤ A ∧ A < 18446744073709551616) (hB : 0 ≤ B ∧ B < 18446744073709551616) : IntKind.u64.wrap (v + A) = (cut 6 (v + A)) := by (try simp only [IntKind.wrap_i32, IntKind.wrap_i64, IntKind.wrap_u64, IntKind.wrap_u32, cut_6]) <;> omega
theorem eq_6 (v A B : Int) (hv : v % 18446744073709551616 = v) (hA : 0 ≤ A ∧ A < 18446744073709551616) (hB : 0 ≤ B ∧ B < 18446744073709551616) : (v = A) ↔ v = cut 6 A := by (try simp only [wrap32, wrap64, IntKind.wrap_i32, IntKind.wrap_i64, cut_6]) <;> omega
theorem and_6 (v A B : Int) (hv : v % 18446744073709551616 = v) (hA : 0 ≤ A ∧ A < 18446744073709551616) (hB : 0 ≤ B ∧ B < 18446744073709551616) : bits .and .u64 v (A) = (((v.toNat &&& (cut 6 A).toNat : Nat) : Int)) := by
  have h := bits_and_of .u64 v (A) v.toNat (cut 6 A).toNat (by show _ % (18446744073709551616 : Int) = _ % (18446744073709551616 : Int); (try simp only [IntKind.wrap_i32, IntKind.wrap_i64]); omega) (by show _ % (18446744073709551616 : Int) = _ % (18446744073709551616 : Int); (try simp only [IntKind.wrap_i32, IntKind.wrap_i64]); simp only [cut_6]; omega) (by show _ < (18446744073709551616 : Nat); omega) (by show _ < (18446744073709551616 : Nat); simp only [cut_6]; omega)
  rw [h]
  have hl := and_lt v.toNat (cut 6 A).toNat 18446744073709551616 (by omega)
  simp only [IntKind.wrap_u32, IntKind.wrap_u64]
  omega
theorem or_6 (v A B : Int) (hv : v % 18446744073709551616 = v) (hA : 0 ≤ A ∧ A < 18446744073709551616) (hB : 0 ≤ B ∧ B < 18446744073709551616) : bits .or .u64 v (A) = (((v.toNat ||| (cut 6 A).toNat : Nat) : Int)) := by
  have h := bits_or_of .u64 v (A) v.toNat (cut 6 A).toNat (by show _ % (18446744073709551616 : Int) = _ % (18446744073709551616 : Int); (try simp only [IntKind.wrap_i32, IntKind.wrap_i64]); omega) (by show _ % (18446744073709551616 : Int) = _ % (18446744073709551616 : Int); (try simp only [IntKind.wrap_i32, IntKind.wrap_i64]); simp only [cut_6]; omega) (by show _ < (18446744073709551616 : Nat); omega) (by show _ < (18446744073709551616 : Nat); simp only [cut_6]; omega)
  rw [h]
  have hl := Nat.or_lt_two_pow (n := 64) (x := v.toNat) (y := (cut 6 A).toNat) (by omega) (by simp only [cut_6]; omega)
  simp only [IntKind.wrap_u32, IntKind.wrap_u64]
  omega

theorem doAny_6 (b : Nat) (v d A B : Int) (w : World) (hv : Cn 6 v) (hA : U64 A) (hB : U64 B) (hd : can 6 d = true) (hc : w.cell? ⟨b, 0, none⟩ = some (cv 6 v)) (hz : w.frozen? ⟨b, 0, none⟩ = false) (hb : b < w.heap.size) :
    Calls Tryz.prog 106 #[.agg #[.int .i64 6, .iface 92 (.pointer (some ⟨b, 0, none⟩))], .agg #[.int .i64 d, .int .u64 A, .int .u64 B]] w fun e w' => e = .returned (.agg #[.int .u64 (ov 6 v d A), .bool (ok 6 v d A)]) ∧ Held b (cv 6 (nx 6 v d A B)) w w' := by
  have hv' : v % 18446744073709551616 = v := hv
  have hd' : d = 1 ∨ d = 2 ∨ d = 3 ∨ d = 4 ∨ d = 5 ∨ d = 6 ∨ d = 7 := by simp [can] at hd; omega
  rcases hd' with rfl | rfl | rfl | rfl | rfl | rfl | rfl
  · refine (doLoad_uintptr b v A B v w hc hz hb (z_6 v A B hv' hA hB)).mono ?_
    rintro e w' ⟨rfl, h⟩
    rw [show ov 6 v 1 A = v from by simp [ov], show ok 6 v 1 A = true from by simp [ok], show nx 6 v 1 A B = v from by simp [nx], cv_6]
    exact ⟨rfl, by exact h⟩
  · refine (doStore_uintptr b v A B w hc hz hb).mono ?_
    rintro e w' ⟨rfl, h⟩
    rw [show ov 6 v 2 A = 0 from by simp [ov], show ok 6 v 2 A = true from by simp [ok], show nx 6 v 2 A B = cut 6 A from by simp [nx], cv_6]
    exact ⟨rfl, by rw [← p_6 v A B hv' hA hB]; exact h⟩
  · refine (doAdd_uintptr b v A B (cut 6 (v + A)) (cut 6 (v + A)) w hc hz hb (add_6 v A B hv' hA hB) (z_6 (cut 6 (v + A)) A B (cut_cut 6 _) hA hB)).mono ?_
    rintro e w' ⟨rfl, h⟩
    rw [show ov 6 v 3 A = cut 6 (v + A) from by simp [ov], show ok 6 v 3 A = true from by simp [ok], show nx 6 v 3 A B = cut 6 (v + A) from by simp [nx], cv_6]
    exact ⟨rfl, by exact h⟩
  · refine (doSwap_uintptr b v A B v w hc hz hb (z_6 v A B hv' hA hB)).mono ?_
    rintro e w' ⟨rfl, h⟩
    rw [show ov 6 v 4 A = v from by simp [ov], show ok 6 v 4 A = true from by simp [ok], show nx 6 v 4 A B = cut 6 A from by simp [nx], cv_6]
    exact ⟨rfl, by rw [← c_6 v A B hv' hA hB]; exact h⟩
  · by_cases hh : v = cut 6 A
    · refine (doHit_uintptr b v A B w hc hz hb ((eq_6 v A B hv' hA hB).2 hh)).mono ?_
      rintro e w' ⟨rfl, h⟩
      rw [show ov 6 v 5 A = 0 from by simp [ov, hh], show ok 6 v 5 A = true from by simp [ok, hh], show nx 6 v 5 A B = cut 6 B from by simp [nx, hh], cv_6]
      exact ⟨rfl, by rw [← p_6 v B A hv' hB hA]; exact h⟩
    · refine (doMiss_uintptr b v A B w hc hz hb (fun e => hh ((eq_6 v A B hv' hA hB).1 e))).mono ?_
      rintro e w' ⟨rfl, h⟩
      rw [show ov 6 v 5 A = 0 from by simp [ov, hh], show ok 6 v 5 A = false from by simp [ok, hh], show nx 6 v 5 A B = v from by simp [nx, hh], cv_6]
      exact ⟨rfl, by exact h⟩
  · refine (doAnd_uintptr b v A B (((v.toNat &&& (cut 6 A).toNat : Nat) : Int)) v w hc hz hb (and_6 v A B hv' hA hB) (z_6 v A B hv' hA hB)).mono ?_
    rintro e w' ⟨rfl, h⟩
    rw [show ov 6 v 6 A = v from by simp [ov], show ok 6 v 6 A = true from by simp [ok], show nx 6 v 6 A B = ((v.toNat &&& (cut 6 A).toNat : Nat) : Int) from by simp [nx], cv_6]
    exact ⟨rfl, by exact h⟩
  · refine (doOr_uintptr b v A B (((v.toNat ||| (cut 6 A).toNat : Nat) : Int)) v w hc hz hb (or_6 v A B hv' hA hB) (z_6 v A B hv' hA hB)).mono ?_
    rintro e w' ⟨rfl, h⟩
    rw [show ov 6 v 7 A = v from by simp [ov], show ok 6 v 7 A = true from by simp [ok], show nx 6 v 7 A B = ((v.toNat ||| (cut 6 A).toNat : Nat) : Int) from by simp [nx], cv_6]
    exact ⟨rfl, by exact h⟩

end Go.Proofs.YtffnoaafmaeihaaGreat
