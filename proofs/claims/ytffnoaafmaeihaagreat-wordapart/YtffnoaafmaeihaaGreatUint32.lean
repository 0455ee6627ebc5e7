/- One contract of word's do over a word of the kind int32, for each access that there is. -/
import Derived.Test.YtffnoaafmaeihaaGreatDint32
import Derived.Test.YtffnoaafmaeihaaGreatNum
namespace Go.Proofs.YtffnoaafmaeihaaGreat
open Go.RowKit
set_option linter.unusedSimpArgs false
set_option linter.unusedVariables false

theorem cv_1 (v : Int) : cv 1 v = .int .i32 (IntKind.i32.wrap v) := rfl
theorem z_1 (v A B : Int) (hv : v % 4294967296 = v) (hA : 0 ≤ A ∧ A < 18446744073709551616) (hB : 0 ≤ B ∧ B < 18446744073709551616) : IntKind.u64.wrap ((IntKind.i32.wrap v)) % 4294967296 = v := by first | rfl | (simp only [IntKind.wrap_u64, IntKind.wrap_i32, IntKind.wrap_i64]; omega)
theorem c_1 (v A B : Int) (hv : v % 4294967296 = v) (hA : 0 ≤ A ∧ A < 18446744073709551616) (hB : 0 ≤ B ∧ B < 18446744073709551616) : IntKind.i32.wrap A = (IntKind.i32.wrap (cut 1 A)) := by (try simp only [IntKind.wrap_i32, IntKind.wrap_i64, cut_1]) <;> omega
theorem p_1 (v A B : Int) (hv : v % 4294967296 = v) (hA : 0 ≤ A ∧ A < 18446744073709551616) (hB : 0 ≤ B ∧ B < 18446744073709551616) : wrap32 A = (IntKind.i32.wrap (cut 1 A)) := by (try simp only [wrap32, wrap64, IntKind.wrap_i32, IntKind.wrap_i64, cut_1]) <;> omega
theorem add_1 (v A B : Int) (hv : v % 4294967296 = v) (hA : 0 ≤ A ∧ A < 18446744073709551616) (hB : 0 ≤ B ∧ B < 18446744073709551616) : IntKind.i32.wrap ((IntKind.i32.wrap v) + IntKind.i32.wrap A) = (IntKind.i32.wrap (cut 1 (v + A))) := by (try simp only [IntKind.wrap_i32, IntKind.wrap_i64, IntKind.wrap_u64, IntKind.wrap_u32, cut_1]) <;> omega
theorem eq_1 (v A B : Int) (hv : v % 4294967296 = v) (hA : 0 ≤ A ∧ A < 18446744073709551616) (hB : 0 ≤ B ∧ B < 18446744073709551616) : ((IntKind.i32.wrap v) = wrap32 A) ↔ v = cut 1 A := by (try simp only [wrap32, wrap64, IntKind.wrap_i32, IntKind.wrap_i64, cut_1]) <;> omega
theorem and_1 (v A B : Int) (hv : v % 4294967296 = v) (hA : 0 ≤ A ∧ A < 18446744073709551616) (hB : 0 ≤ B ∧ B < 18446744073709551616) : bits .and .i32 (IntKind.i32.wrap v) (IntKind.i32.wrap A) = (IntKind.i32.wrap (((v.toNat &&& (cut 1 A).toNat : Nat) : Int))) := by
  have h := bits_and_of .i32 (IntKind.i32.wrap v) (IntKind.i32.wrap A) v.toNat (cut 1 A).toNat (by show _ % (4294967296 : Int) = _ % (4294967296 : Int); (try simp only [IntKind.wrap_i32, IntKind.wrap_i64]); omega) (by show _ % (4294967296 : Int) = _ % (4294967296 : Int); (try simp only [IntKind.wrap_i32, IntKind.wrap_i64]); simp only [cut_1]; omega) (by show _ < (4294967296 : Nat); omega) (by show _ < (4294967296 : Nat); simp only [cut_1]; omega)
  exact h
theorem or_1 (v A B : Int) (hv : v % 4294967296 = v) (hA : 0 ≤ A ∧ A < 18446744073709551616) (hB : 0 ≤ B ∧ B < 18446744073709551616) : bits .or .i32 (IntKind.i32.wrap v) (IntKind.i32.wrap A) = (IntKind.i32.wrap (((v.toNat ||| (cut 1 A).toNat : Nat) : Int))) := by
  have h := bits_or_of .i32 (IntKind.i32.wrap v) (IntKind.i32.wrap A) v.toNat (cut 1 A).toNat (by show _ % (4294967296 : Int) = _ % (4294967296 : Int); (try simp only [IntKind.wrap_i32, IntKind.wrap_i64]); omega) (by show _ % (4294967296 : Int) = _ % (4294967296 : Int); (try simp only [IntKind.wrap_i32, IntKind.wrap_i64]); simp only [cut_1]; omega) (by show _ < (4294967296 : Nat); omega) (by show _ < (4294967296 : Nat); simp only [cut_1]; omega)
  exact h

theorem doAny_1 (b : Nat) (v d A B : Int) (w : World) (hv : Cn 1 v) (hA : U64 A) (hB : U64 B) (hd : can 1 d = true) (hc : w.cell? ⟨b, 0, none⟩ = some (cv 1 v)) (hz : w.frozen? ⟨b, 0, none⟩ = false) (hb : b < w.heap.size) :
    Calls Tryz.prog 40 #[.agg #[.int .i64 1, .iface 60 (.pointer (some ⟨b, 0, none⟩))], .agg #[.int .i64 d, .int .u64 A, .int .u64 B]] w fun e w' => e = .returned (.agg #[.int .u64 (ov 1 v d A), .bool (ok 1 v d A)]) ∧ Held b (cv 1 (nx 1 v d A B)) w w' := by
  have hv' : v % 4294967296 = v := hv
  have hd' : d = 1 ∨ d = 2 ∨ d = 3 ∨ d = 4 ∨ d = 5 ∨ d = 6 ∨ d = 7 := by simp [can] at hd; omega
  rcases hd' with rfl | rfl | rfl | rfl | rfl | rfl | rfl
  · refine (doLoad_int32 b (IntKind.i32.wrap v) A B v w hc hz hb (z_1 v A B hv' hA hB)).mono ?_
    rintro e w' ⟨rfl, h⟩
    rw [show ov 1 v 1 A = v from by simp [ov], show ok 1 v 1 A = true from by simp [ok], show nx 1 v 1 A B = v from by simp [nx], cv_1]
    exact ⟨rfl, by exact h⟩
  · refine (doStore_int32 b (IntKind.i32.wrap v) A B w hc hz hb).mono ?_
    rintro e w' ⟨rfl, h⟩
    rw [show ov 1 v 2 A = 0 from by simp [ov], show ok 1 v 2 A = true from by simp [ok], show nx 1 v 2 A B = cut 1 A from by simp [nx], cv_1]
    exact ⟨rfl, by rw [← p_1 v A B hv' hA hB]; exact h⟩
  · refine (doAdd_int32 b (IntKind.i32.wrap v) A B (IntKind.i32.wrap (cut 1 (v + A))) (cut 1 (v + A)) w hc hz hb (add_1 v A B hv' hA hB) (z_1 (cut 1 (v + A)) A B (cut_cut 1 _) hA hB)).mono ?_
    rintro e w' ⟨rfl, h⟩
    rw [show ov 1 v 3 A = cut 1 (v + A) from by simp [ov], show ok 1 v 3 A = true from by simp [ok], show nx 1 v 3 A B = cut 1 (v + A) from by simp [nx], cv_1]
    exact ⟨rfl, by exact h⟩
  · refine (doSwap_int32 b (IntKind.i32.wrap v) A B v w hc hz hb (z_1 v A B hv' hA hB)).mono ?_
    rintro e w' ⟨rfl, h⟩
    rw [show ov 1 v 4 A = v from by simp [ov], show ok 1 v 4 A = true from by simp [ok], show nx 1 v 4 A B = cut 1 A from by simp [nx], cv_1]
    exact ⟨rfl, by rw [← c_1 v A B hv' hA hB]; exact h⟩
  · by_cases hh : v = cut 1 A
    · refine (doHit_int32 b (IntKind.i32.wrap v) A B w hc hz hb ((eq_1 v A B hv' hA hB).2 hh)).mono ?_
      rintro e w' ⟨rfl, h⟩
      rw [show ov 1 v 5 A = 0 from by simp [ov, hh], show ok 1 v 5 A = true from by simp [ok, hh], show nx 1 v 5 A B = cut 1 B from by simp [nx, hh], cv_1]
      exact ⟨rfl, by rw [← p_1 v B A hv' hB hA]; exact h⟩
    · refine (doMiss_int32 b (IntKind.i32.wrap v) A B w hc hz hb (fun e => hh ((eq_1 v A B hv' hA hB).1 e))).mono ?_
      rintro e w' ⟨rfl, h⟩
      rw [show ov 1 v 5 A = 0 from by simp [ov, hh], show ok 1 v 5 A = false from by simp [ok, hh], show nx 1 v 5 A B = v from by simp [nx, hh], cv_1]
      exact ⟨rfl, by exact h⟩
  · refine (doAnd_int32 b (IntKind.i32.wrap v) A B (IntKind.i32.wrap (((v.toNat &&& (cut 1 A).toNat : Nat) : Int))) v w hc hz hb (and_1 v A B hv' hA hB) (z_1 v A B hv' hA hB)).mono ?_
    rintro e w' ⟨rfl, h⟩
    rw [show ov 1 v 6 A = v from by simp [ov], show ok 1 v 6 A = true from by simp [ok], show nx 1 v 6 A B = ((v.toNat &&& (cut 1 A).toNat : Nat) : Int) from by simp [nx], cv_1]
    exact ⟨rfl, by exact h⟩
  · refine (doOr_int32 b (IntKind.i32.wrap v) A B (IntKind.i32.wrap (((v.toNat ||| (cut 1 A).toNat : Nat) : Int))) v w hc hz hb (or_1 v A B hv' hA hB) (z_1 v A B hv' hA hB)).mono ?_
    rintro e w' ⟨rfl, h⟩
    rw [show ov 1 v 7 A = v from by simp [ov], show ok 1 v 7 A = true from by simp [ok], show nx 1 v 7 A B = ((v.toNat ||| (cut 1 A).toNat : Nat) : Int) from by simp [nx], cv_1]
    exact ⟨rfl, by exact h⟩

end Go.Proofs.YtffnoaafmaeihaaGreat
