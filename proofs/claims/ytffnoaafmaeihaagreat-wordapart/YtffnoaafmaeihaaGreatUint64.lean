/- One contract of word's do over a word of the kind int64, for each access that there is. -/
import Derived.Test.YtffnoaafmaeihaaGreatDint64
import Derived.Test.YtffnoaafmaeihaaGreatNum
namespace Go.Proofs.YtffnoaafmaeihaaGreat
open Go.RowKit
set_option linter.unusedSimpArgs false
set_option linter.unusedVariables false

theorem cv_2 (v : Int) : cv 2 v = .int .i64 (IntKind.i64.wrap v) := rfl
theorem z_2 (v A B : Int) (hv : v % 18446744073709551616 = v) (hA : 0 ≤ A ∧ A < 18446744073709551616) (hB : 0 ≤ B ∧ B < 18446744073709551616) : IntKind.u64.wrap ((IntKind.i64.wrap v)) = v := by first | rfl | (simp only [IntKind.wrap_u64, IntKind.wrap_i32, IntKind.wrap_i64]; omega)
theorem c_2 (v A B : Int) (hv : v % 18446744073709551616 = v) (hA : 0 ≤ A ∧ A < 18446744073709551616) (hB : 0 ≤ B ∧ B < 18446744073709551616) : IntKind.i64.wrap A = (IntKind.i64.wrap (cut 2 A)) := by (try simp only [IntKind.wrap_i32, IntKind.wrap_i64, cut_2]) <;> omega
theorem p_2 (v A B : Int) (hv : v % 18446744073709551616 = v) (hA : 0 ≤ A ∧ A < 18446744073709551616) (hB : 0 ≤ B ∧ B < 18446744073709551616) : wrap64 A = (IntKind.i64.wrap (cut 2 A)) := by (try simp only [wrap32, wrap64, IntKind.wrap_i32, IntKind.wrap_i64, cut_2]) <;> omega
theorem add_2 (v A B : Int) (hv : v % 18446744073709551616 = v) (hA : 0 ≤ A ∧ A < 18446744073709551616) (hB : 0 ≤ B ∧ B < 18446744073709551616) : IntKind.i64.wrap ((IntKind.i64.wrap v) + IntKind.i64.wrap A) = (IntKind.i64.wrap (cut 2 (v + A))) := by (try simp only [IntKind.wrap_i32, IntKind.wrap_i64, IntKind.wrap_u64, IntKind.wrap_u32, cut_2]) <;> omega
theorem eq_2 (v A B : Int) (hv : v % 18446744073709551616 = v) (hA : 0 ≤ A ∧ A < 18446744073709551616) (hB : 0 ≤ B ∧ B < 18446744073709551616) : ((IntKind.i64.wrap v) = wrap64 A) ↔ v = cut 2 A := by (try simp only [wrap32, wrap64, IntKind.wrap_i32, IntKind.wrap_i64, cut_2]) <;> omega
theorem and_2 (v A B : Int) (hv : v % 18446744073709551616 = v) (hA : 0 ≤ A ∧ A < 18446744073709551616) (hB : 0 ≤ B ∧ B < 18446744073709551616) : bits .and .i64 (IntKind.i64.wrap v) (IntKind.i64.wrap A) = (IntKind.i64.wrap (((v.toNat &&& (cut 2 A).toNat : Nat) : Int))) := by
  have h := bits_and_of .i64 (IntKind.i64.wrap v) (IntKind.i64.wrap A) v.toNat (cut 2 A).toNat (by show _ % (18446744073709551616 : Int) = _ % (18446744073709551616 : Int); (try simp only [IntKind.wrap_i32, IntKind.wrap_i64]); omega) (by show _ % (18446744073709551616 : Int) = _ % (18446744073709551616 : Int); (try simp only [IntKind.wrap_i32, IntKind.wrap_i64]); simp only [cut_2]; omega) (by show _ < (18446744073709551616 : Nat); omega) (by show _ < (18446744073709551616 : Nat); simp only [cut_2]; omega)
  exact h
theorem or_2 (v A B : Int) (hv : v % 18446744073709551616 = v) (hA : 0 ≤ A ∧ A < 18446744073709551616) (hB : 0 ≤ B ∧ B < 18446744073709551616) : bits .or .i64 (IntKind.i64.wrap v) (IntKind.i64.wrap A) = (IntKind.i64.wrap (((v.toNat ||| (cut 2 A).toNat : Nat) : Int))) := by
  have h := bits_or_of .i64 (IntKind.i64.wrap v) (IntKind.i64.wrap A) v.toNat (cut 2 A).toNat (by show _ % (18446744073709551616 : Int) = _ % (18446744073709551616 : Int); (try simp only [IntKind.wrap_i32, IntKind.wrap_i64]); omega) (by show _ % (18446744073709551616 : Int) = _ % (18446744073709551616 : Int); (try simp only [IntKind.wrap_i32, IntKind.wrap_i64]); simp only [cut_2]; omega) (by show _ < (18446744073709551616 : Nat); omega) (by show _ < (18446744073709551616 : Nat); simp only [cut_2]; omega)
  exact h

theorem doAny_2 (b : Nat) (v d A B : Int) (w : World) (hv : Cn 2 v) (hA : U64 A) (hB : U64 B) (hd : can 2 d = true) (hc : w.cell? ⟨b, 0, none⟩ = some (cv 2 v)) (hz : w.frozen? ⟨b, 0, none⟩ = false) (hb : b < w.heap.size) :
    Calls Tryz.prog 58 #[.agg #[.int .i64 2, .iface 69 (.pointer (some ⟨b, 0, none⟩))], .agg #[.int .i64 d, .int .u64 A, .int .u64 B]] w fun e w' => e = .returned (.agg #[.int .u64 (ov 2 v d A), .bool (ok 2 v d A)]) ∧ Held b (cv 2 (nx 2 v d A B)) w w' := by
  have hv' : v % 18446744073709551616 = v := hv
  have hd' : d = 1 ∨ d = 2 ∨ d = 3 ∨ d = 4 ∨ d = 5 ∨ d = 6 ∨ d = 7 := by simp [can] at hd; omega
  rcases hd' with rfl | rfl | rfl | rfl | rfl | rfl | rfl
  · refine (doLoad_int64 b (IntKind.i64.wrap v) A B v w hc hz hb (z_2 v A B hv' hA hB)).mono ?_
    rintro e w' ⟨rfl, h⟩
    rw [show ov 2 v 1 A = v from by simp [ov], show ok 2 v 1 A = true from by simp [ok], show nx 2 v 1 A B = v from by simp [nx], cv_2]
    exact ⟨rfl, by exact h⟩
  · refine (doStore_int64 b (IntKind.i64.wrap v) A B w hc hz hb).mono ?_
    rintro e w' ⟨rfl, h⟩
    rw [show ov 2 v 2 A = 0 from by simp [ov], show ok 2 v 2 A = true from by simp [ok], show nx 2 v 2 A B = cut 2 A from by simp [nx], cv_2]
    exact ⟨rfl, by rw [← p_2 v A B hv' hA hB]; exact h⟩
  · refine (doAdd_int64 b (IntKind.i64.wrap v) A B (IntKind.i64.wrap (cut 2 (v + A))) (cut 2 (v + A)) w hc hz hb (add_2 v A B hv' hA hB) (z_2 (cut 2 (v + A)) A B (cut_cut 2 _) hA hB)).mono ?_
    rintro e w' ⟨rfl, h⟩
    rw [show ov 2 v 3 A = cut 2 (v + A) from by simp [ov], show ok 2 v 3 A = true from by simp [ok], show nx 2 v 3 A B = cut 2 (v + A) from by simp [nx], cv_2]
    exact ⟨rfl, by exact h⟩
  · refine (doSwap_int64 b (IntKind.i64.wrap v) A B v w hc hz hb (z_2 v A B hv' hA hB)).mono ?_
    rintro e w' ⟨rfl, h⟩
    rw [show ov 2 v 4 A = v from by simp [ov], show ok 2 v 4 A = true from by simp [ok], show nx 2 v 4 A B = cut 2 A from by simp [nx], cv_2]
    exact ⟨rfl, by rw [← c_2 v A B hv' hA hB]; exact h⟩
  · by_cases hh : v = cut 2 A
    · refine (doHit_int64 b (IntKind.i64.wrap v) A B w hc hz hb ((eq_2 v A B hv' hA hB).2 hh)).mono ?_
      rintro e w' ⟨rfl, h⟩
      rw [show ov 2 v 5 A = 0 from by simp [ov, hh], show ok 2 v 5 A = true from by simp [ok, hh], show nx 2 v 5 A B = cut 2 B from by simp [nx, hh], cv_2]
      exact ⟨rfl, by rw [← p_2 v B A hv' hB hA]; exact h⟩
    · refine (doMiss_int64 b (IntKind.i64.wrap v) A B w hc hz hb (fun e => hh ((eq_2 v A B hv' hA hB).1 e))).mono ?_
      rintro e w' ⟨rfl, h⟩
      rw [show ov 2 v 5 A = 0 from by simp [ov, hh], show ok 2 v 5 A = false from by simp [ok, hh], show nx 2 v 5 A B = v from by simp [nx, hh], cv_2]
      exact ⟨rfl, by exact h⟩
  · refine (doAnd_int64 b (IntKind.i64.wrap v) A B (IntKind.i64.wrap (((v.toNat &&& (cut 2 A).toNat : Nat) : Int))) v w hc hz hb (and_2 v A B hv' hA hB) (z_2 v A B hv' hA hB)).mono ?_
    rintro e w' ⟨rfl, h⟩
    rw [show ov 2 v 6 A = v from by simp [ov], show ok 2 v 6 A = true from by simp [ok], show nx 2 v 6 A B = ((v.toNat &&& (cut 2 A).toNat : Nat) : Int) from by simp [nx], cv_2]
    exact ⟨rfl, by exact h⟩
  · refine (doOr_int64 b (IntKind.i64.wrap v) A B (IntKind.i64.wrap (((v.toNat ||| (cut 2 A).toNat : Nat) : Int))) v w hc hz hb (or_2 v A B hv' hA hB) (z_2 v A B hv' hA hB)).mono ?_
    rintro e w' ⟨rfl, h⟩
    rw [show ov 2 v 7 A = v from by simp [ov], show ok 2 v 7 A = true from by simp [ok], show nx 2 v 7 A B = ((v.toNat ||| (cut 2 A).toNat : Nat) : Int) from by simp [nx], cv_2]
    exact ⟨rfl, by exact h⟩

end Go.Proofs.YtffnoaafmaeihaaGreat
