/- Layer 2: slices of bools that are read as data. -/
import Derived.Test.YtlbfkgecckdlgaaCBools
import Derived.Test.YtlbfkgecckdlgaaCOpen
namespace Go.Proofs.Ytlbfkgecckdlgaa
open Go.ChangeShapes Go.WideShapes Go.ChangeAt Go.RowKit Go.Deep

section
variable {H : Type} {enc : TypeId × Value → H} {w : World}

theorem open_bools {a0 : Option Addr} {len cap : Nat} {fuel : Nat} {x : DataW H × List MemPlace} (h : DataW.trod enc Try.prog w 0 (fun _ => true) true fuel 92 [.slice a0 len cap] = some x) :
    ∃ (b o : Nat) (f : Nat → Bool), BoolsAt w a0 b o len f := by
  rcases open_slice1 Try.underlying92 (by kernel_rfl) h with ⟨hcs, _⟩ | ⟨a, l, c, m, n, V, D, Pl, hcs, _, hl, hm, hme, hx, hel⟩
  · simp at hcs
    obtain ⟨rfl, rfl, rfl⟩ := hcs
    exact ⟨0, 0, fun _ => false, ⟨fun h => absurd rfl h, fun h => absurd rfl h, fun i hi => by omega, by unfold maxLen; omega⟩⟩
  · simp at hcs
    obtain ⟨rfl, rfl, rfl⟩ := hcs
    simp at hme
    subst hme
    by_cases hlen : len = 0
    · subst hlen
      exact ⟨0, 0, fun _ => false, ⟨fun h => absurd rfl h, fun h => absurd rfl h, fun i hi => by omega, by unfold maxLen; omega⟩⟩
    · have key : ∀ i, i < m → ∃ y : Bool, w.cell? (a.add i) = some (.bool y) := by
        intro i hi
        obtain ⟨h1, h2⟩ := hel i hi
        obtain ⟨y, e, _⟩ := DataW.trod_bool Try.underlying4 h2
        simp at e
        exact ⟨y, by rw [h1, e]⟩
      obtain ⟨f, hf⟩ := choose_lt key
      obtain ⟨b, o, s⟩ := a
      have hs : s = none := by
        have := hf 0 (by omega)
        simpa [Addr.add] using World.cell?_spot this
      subst hs
      simp only [addr_add] at hf
      exact ⟨b, o, f, ⟨fun _ => rfl, fun _ => World.block_lt_of_cell? w _ (hf 0 (by omega)), fun i hi => hf i (by omega), by omega⟩⟩
end
end Go.Proofs.Ytlbfkgecckdlgaa
