
/- Layer 16, pure: a child's parent. -/

import Derived.Test.YthdfpddijocfkaaTUp

import Derived.Test.YthdfpddijocfkaaTBt

namespace Go.Proofs.Ythdfpddijocfkaa

theorem up_child {t : NL} (hg : Good t) {p c : Nat} (hp : p < t.length) (h : Child t p c) : ∀ i, p < i → i ≤ t.length → upN t i c = (p : Int)
  | 0, h, _ => by omega
  | i + 1, h1, h2 => by
    obtain ⟨c1, c2⟩ := child_pos hg hp h
    unfold upN
    by_cases q : (ndAt t i).l = (c : Int) ∨ (ndAt t i).r = (c : Int)
    · rw [if_pos q]
      have := cnt_uniq (hg.one c c1 c2) (show i < t.length by omega) hp q h
      omega
    · rw [if_neg q]
      have : i ≠ p := fun e => q (e ▸ h)
      exact up_child hg hp h i (by omega) (by omega)
theorem up_zero {t : NL} (hg : Good t) : ∀ i, i ≤ t.length → upN t i 0 = -1
  | 0, _ => by simp [upN]
  | i + 1, h => by
    unfold upN
    rw [if_neg (fun q => by have := child_pos hg (c := 0) (show i < t.length by omega) q; omega)]
    exact up_zero hg i (by omega)
end Go.Proofs.Ythdfpddijocfkaa
