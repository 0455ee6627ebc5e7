/- Layer 2: CellKeeps for every list. -/
import Derived.Test.YtlbfkgecckdlgaaCKeep5
namespace Go.Proofs.Ytlbfkgecckdlgaa
open Go.RowKit

theorem owns_fr {w : World} {B : Nat} {v : Value} {n : Nat} {F : Nat → Int} (h : w.ownsRow B 3 1 v n ((List.range n).map fun j => .int .i64 (F j))) (hn : n ≤ maxLen) :
    ∃ a c g, v = .slice a n c ∧ NumsAt w a g 0 n F ∧ (a ≠ none → B ≤ g) ∧ (n ≠ 0 → B ≤ g) ∧ Spo w a g n c := by
  have h' := h
  obtain ⟨_, h⟩ := h
  rcases h with ⟨rfl, rfl⟩ | ⟨g, cap, cur, rfl, hg, hh, h1, h2, h3, h4⟩
  · exact ⟨none, 0, 0, rfl, ⟨fun h => absurd rfl h, fun h => absurd rfl h, fun i hi => by omega, hn⟩, fun h => absurd rfl h, fun h => absurd rfl h, fun _ => ⟨rfl, rfl⟩, fun h => absurd rfl h, fun _ h => by omega, fun h => by omega⟩
  · obtain ⟨hr, _, _⟩ := row_of_owns h'
    exact ⟨_, cap, g, rfl, hr.nums hn n (Nat.le_refl _), fun _ => hg, fun _ => hg, fun q => (by cases q), fun _ => ⟨rfl, hr.lt⟩, hr.any (Nat.le_refl _), fun _ => ⟨B, _, h'⟩⟩
theorem spo_ints {w : World} {g n : Nat} {F : Nat → Int} (h : IntsTo w g n n F) (hg : g < w.heap.size) : Spo w (some ⟨g, 0, none⟩) g n n :=
  ⟨fun q => (by cases q), fun _ => ⟨rfl, hg⟩, fun q hq => ⟨⟨_, (h q hq).1⟩, (h q hq).2⟩, fun h => by omega⟩
theorem spo_none (w : World) : Spo w none 0 0 0 := ⟨fun _ => ⟨rfl, rfl⟩, fun h => absurd rfl h, fun _ h => by omega, fun h => by omega⟩
theorem fr_none (W w : World) : Fr W w none 0 0 (fun _ => 0) := ⟨nums_none w, fun h => absurd rfl h⟩

theorem keeps_any (cb co m ca ab ao n cap : Nat) (x base : Option Addr) (f dk di da db : Nat → Int) (w : World) (hx : NumsAt w x cb co m f) (hxn : x = none → m = 0 ∧ ca = 0) (hm8 : (m + 2) * 8 ≤ 140737488355328) (h : CActs w base ab ao n dk di da db) (hbytes : n * 32 ≤ 140737488355328) :
    Calls Try.prog 4 #[.slice x m ca, .slice base n cap] w fun e w' => e = .returned (.bool true) ∧ Below w.heap.size w w' := by
  by_cases he : nsErr m n dk di = 0
  · unfold nsErr at he
    split at he
    · cases he
    · rename_i hq
      refine keeps_core cb co m ca ab ao n cap x base f dk di da db w hx hxn hm8 h hbytes n m n (cso f dk di da db) (csn f dk di da db n) dk 0 (by omega) (by omega) (by omega) ?_ ?_
      · intro W hX hA
        refine (refNums_ok2 cb co m ca ab ao n cap x base f dk di da db W hX hxn hA (by omega) (by omega) he).mono ?_
        rintro e w' ⟨o, g, c, v, rfl, hb, hg0, hg, h1, h2, h3⟩
        obtain ⟨a1, c1, g1, rfl, k1, _, l1, _⟩ := owns_fr h1 (by unfold maxLen; omega)
        obtain ⟨a3, c3, g3, rfl, k3, _, l3, _⟩ := owns_fr h3 (by unfold maxLen; omega)
        exact ⟨a1, c1, g1, _, c, g, a3, c3, g3, rfl, hb, ⟨k1, l1⟩, ⟨h2.nums hg (by unfold maxLen; omega), fun _ => hg0⟩, ⟨k3, l3⟩⟩
      · intro W y b d g g' c hX hA
        refine (nums_ok g' 0 m d g 0 n c y b f dk di da db W hX hA (by omega) (by omega) he).mono ?_
        rintro e w' ⟨b1, b2, v, rfl, hb, q1, q2, q3, q4, h1, h2, h3⟩
        obtain ⟨a3, c3, g3, rfl, k3, m3, l3, s3⟩ := owns_fr h3 (by unfold maxLen; omega)
        exact ⟨_, _, b1, _, _, b2, a3, c3, g3, rfl, hb, ⟨⟨h1.nums q2 (by unfold maxLen; omega), fun _ => q1⟩, ⟨h2.nums q4 (by unfold maxLen; omega), fun _ => q3⟩, ⟨k3, l3⟩⟩, ⟨spo_ints h1 q2, by omega, fun _ => q1⟩, ⟨spo_ints h2 q4, by omega, fun _ => q3⟩, s3, m3⟩
  · refine keeps_core cb co m ca ab ao n cap x base f dk di da db w hx hxn hm8 h hbytes 0 0 0 (fun _ => 0) (fun _ => 0) (fun _ => 0) (nsErr m n dk di) (by omega) (by omega) (by omega) ?_ ?_
    · intro W hX hA
      refine (refNums_err m ca ab ao n cap x base dk di da db W hA he).mono ?_
      rintro e w' ⟨rfl, rfl⟩
      exact ⟨none, 0, 0, none, 0, 0, none, 0, 0, rfl, Below.refl _ _, fr_none _ _, fr_none _ _, fr_none _ _⟩
    · intro W y b d g g' c hX hA
      refine (nums_err m d g 0 n c y b dk di da db W hA he).mono ?_
      rintro e w' ⟨rfl, hb⟩
      exact ⟨none, 0, 0, none, 0, 0, none, 0, 0, rfl, hb, ⟨fr_none _ _, fr_none _ _, fr_none _ _⟩, ⟨spo_none _, by omega, fun h => absurd rfl h⟩, ⟨spo_none _, by omega, fun h => absurd rfl h⟩, spo_none _, fun h => absurd rfl h⟩
end Go.Proofs.Ytlbfkgecckdlgaa
