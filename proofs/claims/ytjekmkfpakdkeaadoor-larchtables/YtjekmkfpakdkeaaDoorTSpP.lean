/- Layer 16: what TableSpells rests on. -/
import Derived.Test.YtjekmkfpakdkeaaDoorTTrip
import Derived.Test.YtjekmkfpakdkeaaDoorTKnow
namespace Go.Proofs.YtjekmkfpakdkeaaDoor

theorem root_lay {B : BT} (ho : B.ok) (hs : B.size ≤ 100000) : rootR (B.lay 0) = (0, 3) ∨ (rootR (B.lay 0) = (0, 4) ∧ B.lay 0 = emptyT) ∨ (rootR (B.lay 0) = (2, 0) ∧ 3 ≤ (B.lay 0).length ∧ (ndAt (B.lay 0) 0).inf = 1 ∧ (ndAt (B.lay 0) 1).inf = 1 ∧ (ndAt (B.lay 0) 2).inf = 0) := by
  have he := lay_formE ho hs
  have hf := lay_form ho
  cases B with
  | leaf d =>
    refine Or.inl ?_
    have ha : archB ((BT.leaf d).lay 0) 0 = false := by
      have : leafB (ndAt ((BT.leaf d).lay 0) 0) = true := leafB_yes rfl rfl
      unfold archB
      rw [this]
      simp
    unfold rootR
    rw [if_neg (by simp [he]), if_pos ha]
  | node d l r =>
    have hL := laid_self (BT.node d l r)
    generalize hN : (BT.node d l r).lay 0 = N at *
    obtain ⟨h0, h1, h2, h3⟩ := laid_node hL
    rw [Nat.zero_add] at h2
    have e0 : (ndAt N 0).l.toNat = 1 := by rw [h1]; rfl
    have e1 : (ndAt N 0).r.toNat = 1 + l.size := by rw [h1]; show (((0 + 1 + l.size : Nat) : Int)).toNat = _; omega
    by_cases ha : archB N 0 = false
    · refine Or.inl ?_
      unfold rootR
      rw [if_neg (by simp [he]), if_pos ha]
    · have ha' : archB N 0 = true := by simpa using ha
      unfold archB at ha'
      rw [e1] at ha'
      simp only [Bool.and_eq_true, Bool.not_eq_true'] at ha'
      obtain ⟨a1, a2, a3⟩ := ha'
      have s1 : d.inf = 1 ∧ d.wt = 1 := by
        unfold sentB at a1
        rw [h1] at a1
        simpa using a1
      have hr3 : Nat.add (0 + 1) l.size = 1 + l.size := by simp
      have h3' : LaidT N (1 + l.size) r := by
        rw [Nat.zero_add] at h3
        exact h3
      by_cases hb : endB (ndAt N 1) = true
      · refine Or.inr (Or.inl ⟨?_, ?_⟩)
        · unfold rootR
          rw [if_neg (by simp [he]), if_neg ha, e0, if_pos hb]
        · have ends : ∀ {x : Nat} {b : BT}, b.ok → LaidT N x b → endB (ndAt N x) = true → b = .leaf ⟨0, 1, 1, 0⟩ := by
            intro x b hbo hl hx
            cases b with
            | leaf p =>
              obtain ⟨-, q⟩ := laid_leaf hl
              rw [q] at hx
              unfold endB sentB at hx
              simp only [Bool.and_eq_true, decide_eq_true_eq] at hx
              obtain ⟨⟨x1, x2⟩, -⟩ := hx
              obtain ⟨pk, pi, pw, pv⟩ := p
              simp only at x1 x2
              rcases hbo.1 with y | ⟨-, y2, y3⟩
              · simp only at y; omega
              · simp only at y2 y3
                rw [x1, x2, y2, y3]
            | node p l' r' =>
              obtain ⟨-, q, -, -⟩ := laid_node hl
              rw [q] at hx
              unfold endB leafB at hx
              simp only [Bool.and_eq_true, decide_eq_true_eq] at hx
              omega
          have k1 := ends ho.2.2.1 h2 hb
          have k2 := ends ho.2.2.2 h3' a3
          obtain ⟨dk, di, dw, dv⟩ := d
          simp only at s1
          have dz : dk = 0 ∧ dv = 0 := by
            rcases ho.1.1 with y | ⟨-, y2, y3⟩
            · simp only at y; omega
            · exact ⟨y2, y3⟩
          rw [← hN, k1, k2, s1.1, s1.2, dz.1, dz.2]
          rfl
      · by_cases hc : archB N 1 = false
        · refine Or.inl ?_
          unfold rootR
          rw [if_neg (by simp [he]), if_neg ha, e0, if_neg hb, if_pos hc]
        · have hc' : archB N 1 = true := by simpa using hc
          unfold archB at hc'
          simp only [Bool.and_eq_true, Bool.not_eq_true'] at hc'
          obtain ⟨c1, c2, -⟩ := hc'
          cases l with
          | leaf p =>
            obtain ⟨-, q⟩ := laid_leaf h2
            rw [q] at c2
            simp [leafB] at c2
          | node p l' r' =>
            obtain ⟨g0, g1, g2, -⟩ := laid_node h2
            have e2 : (ndAt N 1).l = 2 := by rw [g1]; rfl
            have i1 : (ndAt N 1).inf = 1 := by
              unfold sentB at c1
              simp only [decide_eq_true_eq] at c1
              exact c1.1
            have hT := laid_tree l' g2
            have hth : theL N 2 = List.range' (1 + 1) l'.size := theL_of hT
            by_cases hall : ∀ x ∈ theL N 2, (ndAt N x).inf = 0
            · refine Or.inr (Or.inr ⟨?_, ?_, by rw [h1]; exact s1.1, i1, ?_⟩)
              · unfold rootR
                rw [if_neg (by simp [he]), if_neg ha, e0, if_neg hb, if_neg hc, e2]
                show (if ∀ x ∈ theL N 2, (ndAt N x).inf = 0 then _ else _) = _
                rw [if_pos hall]
              · have := g2.1
                have := l'.size_pos
                omega
              · apply hall
                rw [hth]
                have := l'.size_pos
                exact List.mem_range'_1.2 ⟨by omega, by omega⟩
            · refine Or.inl ?_
              unfold rootR
              rw [if_neg (by simp [he]), if_neg ha, e0, if_neg hb, if_neg hc, e2]
              show (if ∀ x ∈ theL N 2, (ndAt N x).inf = 0 then _ else _) = _
              rw [if_neg hall]
/-- All that TableSpells rests on. -/
structure SPF (t o : NL) (s : List UInt8) (N : NL) : Prop where
  tx : textA t = s
  n1 : normL t = N
  n2 : formE N = 0
  r1 : readE s = 0
  r2 : readL s = N
  r3 : readE (s ++ [32]) = 7
  r4 : readE (s.drop 1) = 7
  l1 : 1 ≤ s.length
  l2 : s.length ≤ 7000000
  rt : rootR N = (0, 3) ∨ (rootR N = (0, 4) ∧ N = emptyT) ∨ (rootR N = (2, 0) ∧ 3 ≤ N.length ∧ (ndAt N 0).inf = 1 ∧ (ndAt N 1).inf = 1 ∧ (ndAt N 2).inf = 0)
  so : formE o = 0 → sameE t o = 0 ∧ sameB t o = decide (textA o = s)
theorem spf_of {t o : NL} (h1 : formE t = 0) (hin : NodesIn t) (hino : NodesIn o) : ∃ s N, SPF t o s N := by
  obtain ⟨hb1, hf⟩ := formE_ok h1
  obtain ⟨B, a1, a2, a3⟩ := form_abs hf
  have a4 := abs_in64 hin a1
  obtain ⟨r1, r2, r3, r4⟩ := read_trip a3 a4 (by omega)
  have hl := txtB_len B a3 a4
  have := B.size_pos
  refine ⟨txtB B, B.lay 0, textA_abs h1 hin a1, normL_abs h1 a1, lay_formE a3 (by omega), r1, r2, r3 32, r4, by omega, by omega, root_lay a3 (by omega), fun h2 => ⟨sameE_ok h1 h2, ?_⟩⟩
  obtain ⟨hb2, hfo⟩ := formE_ok h2
  obtain ⟨C, c1, c2, c3⟩ := form_abs hfo
  have c4 := abs_in64 hino c1
  obtain ⟨-, q2, -, -⟩ := read_trip c3 c4 (by omega)
  unfold sameB
  rw [if_pos ⟨h1, h2⟩, normL_abs h1 a1, normL_abs h2 c1, textA_abs h2 hino c1]
  unfold nlEq
  by_cases e : B = C
  · rw [e]; simp
  · have n1 : ¬ B.lay 0 = C.lay 0 := fun q => by
      have z := lay_abs0 C
      rw [← q] at z
      exact e ((lay_abs0 B).det z)
    have n2 : ¬ txtB C = txtB B := fun q => n1 (by rw [← r2, ← q2, q])
    simp [n1, n2]
end Go.Proofs.YtjekmkfpakdkeaaDoor
