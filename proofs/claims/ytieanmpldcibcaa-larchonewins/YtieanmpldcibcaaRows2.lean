/- Plain facts on rows of accesses: a row in two parts. -/
import Derived.Test.YtieanmpldcibcaaOur
namespace Go.Proofs.Ytieanmpldcibcaa
open Go.RowKit

theorem st_split (k start : Int) (dk da db : Nat → Int) (m : Nat) (hm : Cn k (st k start dk da db m)) : ∀ j, st k (st k start dk da db m) (fun i => dk (m + i)) (fun i => da (m + i)) (fun i => db (m + i)) j = st k start dk da db (m + j)
  | 0 => hm
  | j + 1 => by
    rw [st, st_split k start dk da db m hm j]
    rfl

theorem allCan_le {k : Int} {dk : Nat → Int} {n m : Nat} (h : allCan k dk n = true) (hm : m ≤ n) : allCan k dk m = true := by
  cases e : allCan k dk m with
  | true => rfl
  | false =>
    exfalso
    have : ∀ m, m ≤ n → allCan k dk m = true := by
      intro m
      induction m with
      | zero => intro _; rfl
      | succ q ih => intro hq; rw [allCan, ih (by omega), allCan_of h q (by omega)]; rfl
    rw [this m hm] at e
    cases e
theorem allCan_shift {k : Int} {dk : Nat → Int} {n m : Nat} (h : allCan k dk n = true) (hm : m ≤ n) : allCan k (fun i => dk (m + i)) (n - m) = true := by
  have : ∀ q, q ≤ n - m → allCan k (fun i => dk (m + i)) q = true := by
    intro q
    induction q with
    | zero => intro _; rfl
    | succ r ih => intro hr; rw [allCan, ih (by omega), allCan_of h (m + r) (by omega)]; rfl
  exact this _ (Nat.le_refl _)

theorem Acts.left {w : World} {base : Option Addr} {ab ao n : Nat} {dk da db : Nat → Int} (h : Acts w base ab ao n dk da db) {m : Nat} (hm : m ≤ n) : Acts w base ab ao m dk da db :=
  ⟨fun h0 => h.base (by omega), fun h0 => h.lt (by omega), fun i hi => h.cells i (by omega), fun i hi => h.u64 i (by omega), Nat.le_trans hm h.len⟩
theorem acts_right {w : World} {ab ao n : Nat} {dk da db : Nat → Int} (h : Acts w (some ⟨ab, ao, none⟩) ab ao n dk da db) {m : Nat} (hm : m ≤ n) : Acts w (some ⟨ab, ao + m * 3, none⟩) ab (ao + m * 3) (n - m) (fun i => dk (m + i)) (fun i => da (m + i)) (fun i => db (m + i)) := by
  refine ⟨fun _ => rfl, fun h0 => h.lt (by omega), fun i hi => ?_, fun i hi => h.u64 (m + i) (by omega), Nat.le_trans (Nat.sub_le _ _) h.len⟩
  have := h.cells (m + i) (by omega)
  rw [Nat.add_mul, ← Nat.add_assoc] at this
  exact this

/-- our, then as a slice of accesses. -/
theorem our_acts (ab ao n cap : Nat) (dk da db : Nat → Int) (w : World) (base : Option Addr) (h : Acts w base ab ao n dk da db) (hbytes : n * 24 ≤ 140737488355328) :
    Calls Try.prog 8 #[.slice base n cap] w fun e w' => ∃ b c g, e = .returned (.slice b n c) ∧ Below w.heap.size w w' ∧ Acts w' b g 0 n dk da db := by
  refine (our_any ab ao n cap dk da db w base h hbytes).mono ?_
  rintro e w' ⟨v, rfl, hb, ho⟩
  obtain ⟨b, c, g, rfl, _, ha⟩ := acts_of_owns ho h.u64 h.len
  exact ⟨b, c, g, rfl, hb, ha⟩

theorem out_neq (x : Int) (p : Bool) (w : World) : (binOp .neq 35 (.agg #[.int .u64 x, .bool p]) (.agg #[.int .u64 x, .bool p])).run Try.prog w = .ok (.bool false) w := by
  simp [run_neq_struct, go_sem]
end Go.Proofs.Ytieanmpldcibcaa
