/- Layer 6: slices.Reverse at pairs. Layer 6: slices.CompactFunc at pairs, by the program's question whether two have one key. Layer 6: the program's Of: of any pairs the map. -/
import Derived.Test.YtjpfgfcggekklaaSPStab
import Derived.Test.YtjpfgfcggekklaaMOfP
import Derived.Test.YtjpfgfcggekklaaSBase
import Derived.Test.YtjpfgfcggekklaaMG10
namespace Go.Proofs.Ytjpfgfcggekklaa
open Go.RowKit
attribute [local go_sem ↓] Go.wp_at_zero Go.wp_at_succ

def rvF (d : Nat → PrX) (n i : Nat) : Nat → PrX := fun x => if x < i ∨ (n - i ≤ x ∧ x < n) then d (n - 1 - x) else d x
theorem rvF_zero (d : Nat → PrX) (n : Nat) : rvF d n 0 = d := by
  funext x
  unfold rvF
  rw [if_neg (by omega)]
theorem rvF_step (d : Nat → PrX) {n i j : Nat} (h : 2 * i + 1 < n) (hj : j = n - 1 - i) : swF (rvF d n i) i j = rvF d n (i + 1) := by
  subst hj
  funext x
  unfold swF rvF
  by_cases e1 : x = i
  · subst e1
    rw [if_pos rfl, if_neg (by omega), if_pos (by omega)]
  · rw [if_neg e1]
    by_cases e2 : x = n - 1 - i
    · subst e2
      rw [if_pos rfl, if_neg (by omega), if_pos (by omega)]
      congr 1
      omega
    · rw [if_neg e2]
      by_cases e3 : x < i ∨ (n - i ≤ x ∧ x < n)
      · rw [if_pos e3, if_pos (by omega)]
      · rw [if_neg e3, if_neg (by omega)]
theorem rvF_last (d : Nat → PrX) {n i x : Nat} (h : ¬ 2 * i + 1 < n) (hi : 2 * i ≤ n) (hx : x < n) : rvF d n i x = d (n - 1 - x) := by
  unfold rvF
  by_cases e : x < i ∨ (n - i ≤ x ∧ x < n)
  · rw [if_pos e]
  · rw [if_neg e]
    congr 1
    omega

set_option maxRecDepth 100000 in
set_option maxHeartbeats 2000000 in
theorem reverse_any (g n cap : Nat) (d0 : Nat → PrX) (w : World) (hr : RowP w g n d0) (hg : g < w.heap.size) (hn : n ≤ 1000000) :
    Calls Try.prog 44 #[.slice (some ⟨g, 0, none⟩) n cap] w fun e w' => e = .returned (.tuple #[]) ∧ ∃ d, RowP w' g n d ∧ w.grownBy w' (some g) ∧ ∀ x, x < n → d x = d0 (n - 1 - x) := by
  have HR0 : Hid (RowP _ _ _ _) := hr
  clear hr
  go_enter Try.func44, Try.ntmps44
  go_wp2_with fail
  go_loopw [2, 3] (fun iv jv wr => ∃ (i : Nat) (z : Int), iv = .int .i64 i ∧ jv = .int .i64 z ∧ z = (n : Int) - 1 - (i : Int) ∧ 2 * i ≤ n ∧ RowP wr g n (rvF d0 n i) ∧ w.grownBy wr (some g)) (fun iv _ _ => n - (intOf iv).toNat)
  case atStart => exact ⟨0, (n : Int) - 1, rfl, by first | rfl | go_num, by omega, by omega, by rw [rvF_zero]; exact HR0.out, grown_refl _ _⟩
  case round =>
    obtain ⟨i, z, rfl, rfl, hz, hi, hrow, hgr⟩ := hrel
    have HG : Hid _ := hgr
    have zg := hgr.size
    by_cases hlt : 2 * i + 1 < n
    · obtain ⟨j, hj⟩ : ∃ j, j = n - 1 - i := ⟨_, rfl⟩
      obtain rfl : z = (j : Int) := by omega
      have HST : Hid _ := rvF_step d0 hlt hj
      have HJ : Hid _ := hj
      have HZ : Hid _ := hz
      have hij : (i : Int) < (j : Int) := by omega
      have i1 : (i : Int) < (n : Int) := by omega
      have j1 : (j : Int) < (n : Int) := by omega
      have hjn : j < n := by omega
      have hin : i < n := by omega
      clear hz hj
      generalize rvF d0 n i = d at *
      have HR : Hid (RowP _ _ _ _) := hrow
      clear hrow hgr
      have i0 : (0 : Int) ≤ (i : Int) := Int.natCast_nonneg _
      have j0 : (0 : Int) ≤ (j : Int) := Int.natCast_nonneg _
      have hgw : g < wr.heap.size := by omega
      have p0 : wr.cell? ⟨g, i * 2, none⟩ = some (.int .i64 (d i).k) := (HR.out.cell (i := i) hin (c := 0) (by omega)).1
      have p1 : wr.cell? ⟨g, i * 2 + 1, none⟩ = some (.int .i64 (d i).v) := (HR.out.cell (i := i) hin (c := 1) (by omega)).1
      have q0 : wr.cell? ⟨g, j * 2, none⟩ = some (.int .i64 (d j).k) := (HR.out.cell (i := j) hjn (c := 0) (by omega)).1
      have q1 : wr.cell? ⟨g, j * 2 + 1, none⟩ = some (.int .i64 (d j).v) := (HR.out.cell (i := j) hjn (c := 1) (by omega)).1
      have r0 : wr.frozen? ⟨g, i * 2, none⟩ = false := (HR.out.cell (i := i) hin (c := 0) (by omega)).2
      have r1 : wr.frozen? ⟨g, i * 2 + 1, none⟩ = false := (HR.out.cell (i := i) hin (c := 1) (by omega)).2
      have s0 : wr.frozen? ⟨g, j * 2, none⟩ = false := (HR.out.cell (i := j) hjn (c := 0) (by omega)).2
      have s1 : wr.frozen? ⟨g, j * 2 + 1, none⟩ = false := (HR.out.cell (i := j) hjn (c := 1) (by omega)).2
      go_wp2_with fail
      go_region
      obtain ⟨W2, hW2⟩ : ∃ W2, W2 = (setMany g (setMany g wr (i * 2) (encP (d j))) (j * 2) (encP (d i))).drew := ⟨_, rfl⟩
      have HW2 : Hid _ := hW2
      simp only [setMany, encP] at hW2
      rw [← hW2]
      clear hW2 p0 q0 r0 s0 p1 q1 r1 s1
      obtain ⟨u1, u2, u3⟩ := swappedP HR.out HG.out HW2.out
      have HR2 : Hid (RowP _ _ _ _) := u1
      have HG2 : Hid _ := u2
      clear u1 u2 HW2
      go_wp2_with fail
      refine ⟨⟨i + 1, (j : Int) - 1, by go_num, by first | rfl | go_num, by have := HZ.out; omega, by omega, by rw [← HST.out]; exact HR2.out, HG2.out⟩, by simp [intOf]; omega⟩
    · have hij : ¬ (i : Int) < z := by omega
      have FIN : Hid (∀ x, x < n → rvF d0 n i x = d0 (n - 1 - x)) := fun x hx => rvF_last d0 hlt hi hx
      have HR : Hid (RowP _ _ _ _) := hrow
      clear hrow hgr hz
      go_wp2_with fail
      go_end0
      exact ⟨rfl, _, HR.out, HG.out, FIN.out⟩
end Go.Proofs.Ytjpfgfcggekklaa
namespace Go.Proofs.Ytjpfgfcggekklaa
open Go.RowKit
attribute [local go_sem ↓] Go.wp_at_zero Go.wp_at_succ

set_option maxHeartbeats 1000000 in
theorem of2_any (a b c d : Int) (w : World) : Calls Try.prog 49 #[.agg #[.int .i64 a, .int .i64 b], .agg #[.int .i64 c, .int .i64 d]] w fun e w' => e = .returned (.bool (decide (a = c))) ∧ Below w.heap.size w w' := by
  go_enter Try.func49, Try.ntmps49
  go_wp2_with fail
  go_ret
  exact ⟨by first | rfl | (congr 2), (below_alloc _ _).alloc (by simp) _⟩

/-- A list of pairs in a block that can be written. -/
def LieP (w : World) (g : Nat) (l : PL) : Prop := ∃ F, Vals w g (l.length * 2) F ∧ ∀ x, x < l.length → F (x * 2) = .int .i64 (keyAt l x) ∧ F (x * 2 + 1) = .int .i64 (valAt l x)
theorem cmpN_start {l : PL} : ∀ j, j ≤ l.length → (∀ x, 1 ≤ x → x < j → keyAt l x ≠ keyAt l (x - 1)) → cmpN l j = l.take j
  | 0, _, _ => by simp [cmpN]
  | j + 1, hj, h => by
    have ih := cmpN_start j (by omega) (fun x h1 h2 => h x h1 (by omega))
    simp only [cmpN]
    rw [take_next l (by omega), ih]
    by_cases e : j = 0
    · rw [if_pos (Or.inl e)]
    · rw [if_pos (Or.inr (h j (by omega) (Nat.lt_succ_self _)))]
theorem keyAt_take {l : PL} {m x : Nat} (h : x < m) : keyAt (l.take m) x = keyAt l x ∧ valAt (l.take m) x = valAt l x := by
  unfold keyAt valAt
  constructor <;> simp [List.getD_eq_getElem?_getD, h]
theorem key_app {a : PL} {p : Int × Int} {x : Nat} (h : x < a.length) : keyAt (a ++ [p]) x = keyAt a x ∧ valAt (a ++ [p]) x = valAt a x := by
  unfold keyAt valAt
  constructor <;> simp [List.getD_eq_getElem?_getD, List.getElem?_append_left h]
theorem key_app_last {a : PL} {p : Int × Int} {k : Nat} (h : a.length = k) : keyAt (a ++ [p]) k = p.1 ∧ valAt (a ++ [p]) k = p.2 := by
  subst h
  unfold keyAt valAt
  constructor <;> simp [List.getD_eq_getElem?_getD]

set_option maxRecDepth 100000 in
set_option maxHeartbeats 4000000 in
theorem compact_any (B g cap : Nat) (l : PL) (w : World) (h : LieP w g l) (hg : g < w.heap.size) (hB : B ≤ g) (hcap : l.length ≤ cap) (hn : l.length ≤ 1000000) :
    Calls Try.prog 48 #[.slice (some ⟨g, 0, none⟩) l.length cap, .func (.func 49) #[] #[]] w fun e w' => e = .returned (.slice (some ⟨g, 0, none⟩) (cmpN l l.length).length cap) ∧ PairsAt w' (some ⟨g, 0, none⟩) g 0 (cmpN l l.length) ∧ Below B w w' := by
  have HL : Hid (LieP _ _ _) := h
  have HWH : Hid (∀ W, Below w.heap.size w W → PairsAt W (some ⟨g, 0, none⟩) g 0 l) := by
    intro W hW
    obtain ⟨F, h1, h2⟩ := h
    refine ⟨fun _ => rfl, fun _ => Nat.lt_of_lt_of_le hg hW.size, fun i hi => ?_, by unfold maxLen; omega⟩
    rw [Nat.zero_add, hW.cell (p := ⟨g, i * 2, none⟩) hg, hW.cell (p := ⟨g, i * 2 + 1, none⟩) hg, (h1 (i * 2) (by omega)).1, (h1 (i * 2 + 1) (by omega)).1, (h2 i hi).1, (h2 i hi).2]
    exact ⟨rfl, rfl⟩
  clear h
  by_cases hs : l.length < 2
  · have hs' : (l.length : Int) < 2 := by omega
    have F : Hid (cmpN l l.length = l) := by
      show cmpN l l.length = l
      rw [cmpN_start _ (Nat.le_refl _) (fun x h1 h2 => by omega), List.take_length]
    go_enter Try.func48, Try.ntmps48
    go_wp2_with fail
    go_ret
    rw [F.out]
    exact ⟨rfl, HWH.out _ (Below.refl _ _), Below.refl _ _⟩
  · have hs' : ¬ (l.length : Int) < 2 := by omega
    have hs2 : 2 ≤ l.length := by omega
    go_enter Try.func48, Try.ntmps48
    go_wp2_with fail
    go_loopw [5] (fun kv wr => ∃ kp : Nat, kp + 1 ≤ l.length ∧ kv = .int .i64 ((kp : Int) + 1) ∧ (∀ x, 1 ≤ x → x < kp + 1 → keyAt l x ≠ keyAt l (x - 1)) ∧ Below w.heap.size w wr) (fun kv _ => l.length - (intOf kv).toNat)
    case atStart => exact ⟨0, by omega, by first | rfl | go_num, fun x h1 h2 => by omega, Below.refl _ _⟩
    case round =>
      obtain ⟨kp, hkp, rfl, hall, hbw⟩ := hrel
      have HW : Hid _ := hbw
      have HAL : Hid _ := hall
      have hgw : g < wr.heap.size := by have := hbw.size; omega
      have zw := hbw.size
      have CE : Hid (∀ x, x < l.length → wr.cell? ⟨g, x * 2, none⟩ = some (.int .i64 (keyAt l x)) ∧ wr.cell? ⟨g, x * 2 + 1, none⟩ = some (.int .i64 (valAt l x))) := fun x hx => by have := (HWH.out wr HW.out).cells x hx; rwa [Nat.zero_add] at this
      clear hall hbw
      by_cases hlt : kp + 1 < l.length
      · have jz1 : (0 : Int) ≤ (kp : Int) + 1 := by omega
        have jz2 : (kp : Int) + 1 < (l.length : Int) := by omega
        have jz3 : (0 : Int) ≤ (kp : Int) := by omega
        have jz4 : (kp : Int) < (l.length : Int) := by omega
        have jz5 : ((kp : Int) + 1).toNat = kp + 1 := by omega
        have jz6 : IntKind.i64.wrap (kp : Int) = (kp : Int) := by rw [IntKind.wrap_i64] <;> omega
        have jz7 : IntKind.i64.wrap ((kp : Int) + 1 - 1) = (kp : Int) := by rw [IntKind.wrap_i64] <;> omega
        have p0 := (CE.out (kp + 1) hlt).1
        have p1 := (CE.out (kp + 1) hlt).2
        have q0 := (CE.out kp (by omega)).1
        have q1 := (CE.out kp (by omega)).2
        by_cases hk : keyAt l (kp + 1) = keyAt l kp
        · have HK : Hid _ := hk
          clear hk
          have y0 := BelowBy.cell hgw p0
          have z0 := BelowBy.cell hgw q0
          have y1 := BelowBy.cell hgw p1
          have z1 := BelowBy.cell hgw q1
          have SE : Hid (∀ p : BelowBy wr, Calls Try.prog 49 #[.agg #[.int .i64 (keyAt l (kp + 1)), .int .i64 (valAt l (kp + 1))], .agg #[.int .i64 (keyAt l kp), .int .i64 (valAt l kp)]] p.W fun e w' => e = .returned (.bool true) ∧ Below p.W.heap.size p.W w') := fun p => by have := of2_any (keyAt l (kp + 1)) (valAt l (kp + 1)) (keyAt l kp) (valAt l kp) p.W; rwa [show decide ((keyAt l (kp + 1)) = (keyAt l kp)) = true by simp [HK.out]] at this
          clear p0 q0 p1 q1
          go_wp2_with fail
          refine wp_region_below (by kernel_rfl) (by kernel_rfl) ?_
          repeat (go_big_quiet_step ((go_at_call 49; exact below_call (SE.out _))))
          refine wpQuiet_nil ?_
          rintro _ ⟨p, rfl⟩
          have PB : Hid (Below wr.heap.size wr p.W) := p.h
          have zp := p.h.size
          clear SE y0 z0 y1 z1
          generalize p.W = wp at *
          clear p
          
          obtain ⟨F0, hV0, hF0⟩ := HL.out
          have V0 : Hid (Vals wp g (l.length * 2) F0) := hV0.below hg (HW.out.trans (PB.out.mono HW.out.size))
          have HF0 : Hid _ := hF0
          have B0 : Hid (Below B w wp) := (HW.out.trans (PB.out.mono HW.out.size)).mono (by omega)
          have E0 : Hid (cmpN l (kp + 2) = l.take (kp + 1)) := by
            show cmpN l (kp + 2) = l.take (kp + 1)
            have e1 : cmpN l (kp + 2) = cmpN l (kp + 1) := by
              show (if kp + 1 = 0 ∨ keyAt l (kp + 1) ≠ keyAt l (kp + 1 - 1) then cmpN l (kp + 1) ++ [(keyAt l (kp + 1), valAt l (kp + 1))] else cmpN l (kp + 1)) = _
              rw [if_neg (by rw [Nat.add_sub_cancel]; have := HK.out; simp [this])]
            rw [e1, cmpN_start _ (by omega) HAL.out]
          have hgp : g < wp.heap.size := by omega
          clear hV0 hF0 hgw zw HW PB zp CE HAL HK HWH
          have q1 : kp + 1 ≤ l.length := by omega
          have q2 : kp + 1 ≤ cap := by omega
          have q3 : ¬ cap = kp + 1 := by omega
          have q4 : (kp : Int) + 1 ≤ (l.length : Int) := by omega
          have q5 : (kp : Int) + 1 ≤ (cap : Int) := by omega
          obtain ⟨m, hm⟩ : ∃ m, m = l.length - (kp + 1) := ⟨_, rfl⟩
          have HM : Hid (l.length = kp + 1 + m) := by show l.length = kp + 1 + m; omega
          have hm0 : 0 < m := by omega
          have mz : m ≤ 1000000 := by omega
          go_wp2_with fail
          rw [← hm]
          clear hm
          go_loopw [5, 7] (fun kv qv wr => ∃ (k q : Nat) (F : Nat → Value), q + 1 ≤ m ∧ qv = .int .i64 ((q : Int) + 1) ∧ kv = .int .i64 k ∧ (cmpN l (kp + 1 + q + 1)).length = k ∧ k ≤ kp + 1 + q ∧ 0 < k ∧ Vals wr g (l.length * 2) F ∧ (∀ x, x < k → F (x * 2) = .int .i64 (keyAt (cmpN l (kp + 1 + q + 1)) x) ∧ F (x * 2 + 1) = .int .i64 (valAt (cmpN l (kp + 1 + q + 1)) x)) ∧ (∀ x, kp + 1 + q ≤ x → x < l.length → F (x * 2) = .int .i64 (keyAt l x) ∧ F (x * 2 + 1) = .int .i64 (valAt l x)) ∧ Below B w wr ∧ g < wr.heap.size) (fun _ qv _ => m - (intOf qv).toNat)
          case atStart =>
            refine ⟨kp + 1, 0, F0, by omega, by first | rfl | go_num, by first | rfl | go_num, ?_, by omega, by omega, V0.out, fun x hx => ?_, fun x hx hx2 => HF0.out x hx2, B0.out, hgp⟩
            · rw [show kp + 1 + 0 + 1 = kp + 2 by omega, E0.out, List.length_take]; omega
            · rw [show kp + 1 + 0 + 1 = kp + 2 by omega, E0.out, (keyAt_take hx).1, (keyAt_take hx).2]
              exact HF0.out x (by omega)
          case round =>
            clear V0 HF0 B0 E0 hgp jz1 jz2 jz3 jz4 jz5 jz6 jz7
            obtain ⟨k, q, F, hqm, rfl, rfl, hlen, hk1, hk0, hV, hF1, hF2, hbw, hgw⟩ := hrel
            have HV : Hid (Vals _ _ _ _) := hV
            have H1 : Hid _ := hF1
            have H2 : Hid _ := hF2
            have HB : Hid _ := hbw
            have HLE : Hid _ := hlen
            have hlm := HM.out
            by_cases hlt2 : q + 1 < m
            · have jz1 : (0 : Int) ≤ (q : Int) + 1 := by omega
              have jz2 : (q : Int) + 1 < (m : Int) := by omega
              have jz3 : (0 : Int) ≤ (q : Int) := by omega
              have jz4 : (q : Int) < (m : Int) := by omega
              have jz5 : ((q : Int) + 1).toNat = q + 1 := by omega
              have jz6 : IntKind.i64.wrap (q : Int) = (q : Int) := by rw [IntKind.wrap_i64] <;> omega
              have jz7 : IntKind.i64.wrap ((q : Int) + 1 - 1) = (q : Int) := by rw [IntKind.wrap_i64] <;> omega
              have kz0 : (0 : Int) ≤ (k : Int) := Int.natCast_nonneg _
              have kz1 : (k : Int) < (l.length : Int) := by omega
              have a1 : (kp + 1 + q + 1) * 2 = (kp + 1) * 2 + (q + 1) * 2 := by omega
              have a2 : (kp + 1 + q) * 2 = (kp + 1) * 2 + q * 2 := by omega
              obtain ⟨f0, f1⟩ := hF2 (kp + 1 + q + 1) (by omega) (by omega)
              obtain ⟨f2, f3⟩ := hF2 (kp + 1 + q) (by omega) (by omega)
              have p0 := (hV ((kp + 1 + q + 1) * 2) (by omega)).1
              have p1 := (hV ((kp + 1 + q + 1) * 2 + 1) (by omega)).1
              have q0 := (hV ((kp + 1 + q) * 2) (by omega)).1
              have q1' := (hV ((kp + 1 + q) * 2 + 1) (by omega)).1
              rw [f0, a1] at p0
              rw [f1, a1] at p1
              rw [f2, a2] at q0
              rw [f3, a2] at q1'
              have q1 := q1'
              have A1 : Hid _ := a1
              have NX : Hid (cmpN l (kp + 1 + q + 1 + 1) = if keyAt l (kp + 1 + q + 1) = keyAt l (kp + 1 + q) then cmpN l (kp + 1 + q + 1) else cmpN l (kp + 1 + q + 1) ++ [(keyAt l (kp + 1 + q + 1), valAt l (kp + 1 + q + 1))]) := by
                show (if kp + 1 + q + 1 = 0 ∨ keyAt l (kp + 1 + q + 1) ≠ keyAt l (kp + 1 + q + 1 - 1) then cmpN l (kp + 1 + q + 1) ++ [(keyAt l (kp + 1 + q + 1), valAt l (kp + 1 + q + 1))] else cmpN l (kp + 1 + q + 1)) = _
                rw [Nat.add_sub_cancel]
                by_cases e : keyAt l (kp + 1 + q + 1) = keyAt l (kp + 1 + q)
                · rw [if_neg (by simp [e]), if_pos e]
                · rw [if_pos (Or.inr e), if_neg e]
              clear a1 a2 f0 f1 f2 f3 hV hF1 hF2 hbw hlen q1' hlm
              by_cases hk : keyAt l (kp + 1 + q + 1) = keyAt l (kp + 1 + q)
              · have HK : Hid _ := hk
                clear hk
                have y0 := BelowBy.cell hgw p0
                have z0 := BelowBy.cell hgw q0
                have y1 := BelowBy.cell hgw p1
                have z1 := BelowBy.cell hgw q1
                have SE : Hid (∀ p : BelowBy wr, Calls Try.prog 49 #[.agg #[.int .i64 (keyAt l (kp + 1 + q + 1)), .int .i64 (valAt l (kp + 1 + q + 1))], .agg #[.int .i64 (keyAt l (kp + 1 + q)), .int .i64 (valAt l (kp + 1 + q))]] p.W fun e w' => e = .returned (.bool true) ∧ Below p.W.heap.size p.W w') := fun p => by have := of2_any (keyAt l (kp + 1 + q + 1)) (valAt l (kp + 1 + q + 1)) (keyAt l (kp + 1 + q)) (valAt l (kp + 1 + q)) p.W; rwa [show decide ((keyAt l (kp + 1 + q + 1)) = (keyAt l (kp + 1 + q))) = true by simp [HK.out]] at this
                clear p0 q0 p1 q1
                go_wp2_with fail
                refine wp_region_below (by kernel_rfl) (by kernel_rfl) ?_
                repeat (go_big_quiet_step ((go_at_call 49; exact below_call (SE.out _))))
                refine wpQuiet_nil ?_
                rintro _ ⟨p, rfl⟩
                have PB : Hid (Below wr.heap.size wr p.W) := p.h
                have zp := p.h.size
                clear SE y0 z0 y1 z1
                generalize p.W = wp at *
                clear p
                
                have VP : Hid (Vals wp g (l.length * 2) F) := HV.out.below hgw PB.out
                have BP : Hid (Below B w wp) := HB.out.trans (PB.out.mono (by omega))
                go_wp2_with fail
                have e2 : cmpN l (kp + 1 + (q + 1) + 1) = cmpN l (kp + 1 + q + 1) := by rw [show kp + 1 + (q + 1) + 1 = kp + 1 + q + 1 + 1 by omega, NX.out, if_pos HK.out]
                exact ⟨⟨k, q + 1, F, by omega, by go_num, rfl, by rw [e2]; exact HLE.out, by omega, hk0, VP.out, by rw [e2]; exact H1.out, fun x hx hx2 => H2.out x (by omega) hx2, BP.out, by omega⟩, by simp [intOf]; omega⟩
              · have HK : Hid (¬ keyAt l (kp + 1 + q + 1) = keyAt l (kp + 1 + q)) := hk
                clear hk
                have y0 := BelowBy.cell hgw p0
                have z0 := BelowBy.cell hgw q0
                have y1 := BelowBy.cell hgw p1
                have z1 := BelowBy.cell hgw q1
                have SE : Hid (∀ p : BelowBy wr, Calls Try.prog 49 #[.agg #[.int .i64 (keyAt l (kp + 1 + q + 1)), .int .i64 (valAt l (kp + 1 + q + 1))], .agg #[.int .i64 (keyAt l (kp + 1 + q)), .int .i64 (valAt l (kp + 1 + q))]] p.W fun e w' => e = .returned (.bool false) ∧ Below p.W.heap.size p.W w') := fun p => by have := of2_any (keyAt l (kp + 1 + q + 1)) (valAt l (kp + 1 + q + 1)) (keyAt l (kp + 1 + q)) (valAt l (kp + 1 + q)) p.W; rwa [show decide ((keyAt l (kp + 1 + q + 1)) = (keyAt l (kp + 1 + q))) = false by simp [HK.out]] at this
                clear p0 q0 p1 q1
                go_wp2_with fail
                refine wp_region_below (by kernel_rfl) (by kernel_rfl) ?_
                repeat (go_big_quiet_step ((go_at_call 49; exact below_call (SE.out _))))
                refine wpQuiet_nil ?_
                rintro _ ⟨p, rfl⟩
                have PB : Hid (Below wr.heap.size wr p.W) := p.h
                have zp := p.h.size
                clear SE y0 z0 y1 z1
                generalize p.W = wp at *
                clear p
                
                have VP : Hid (Vals wp g (l.length * 2) F) := HV.out.below hgw PB.out
                have BP : Hid (Below B w wp) := HB.out.trans (PB.out.mono (by omega))
                have hgp : g < wp.heap.size := by omega
                have hlm := HM.out
                obtain ⟨f0, f1⟩ := H2.out (kp + 1 + q + 1) (by omega) (by omega)
                have p0 := (VP.out ((kp + 1 + q + 1) * 2) (by omega)).1
                have p1 := (VP.out ((kp + 1 + q + 1) * 2 + 1) (by omega)).1
                rw [f0, A1.out] at p0
                rw [f1, A1.out] at p1
                have m0 := VP.out (k * 2) (by omega)
                have m1 := VP.out (k * 2 + 1) (by omega)
                clear f0 f1 hlm
                go_wp2_with fail
                have e2 : cmpN l (kp + 1 + (q + 1) + 1) = cmpN l (kp + 1 + q + 1) ++ [(keyAt l (kp + 1 + q + 1), valAt l (kp + 1 + q + 1))] := by rw [show kp + 1 + (q + 1) + 1 = kp + 1 + q + 1 + 1 by omega, NX.out, if_neg HK.out]
                have hle := HLE.out
                refine ⟨⟨k + 1, q + 1, _, by omega, by go_num, by go_num, by rw [e2, List.length_append, hle]; rfl, by omega, by omega, (VP.out.set _ _).set _ _, fun x hx => ?_, fun x hx hx2 => ?_, (BP.out.setCell (by simpa using hB) _).setCell (by simpa using hB) _, by simpa using hgp⟩, by simp [intOf]; omega⟩
                · rw [e2]
                  by_cases e : x = k
                  · subst e
                    rw [putV_other _ _ _ _ (by omega), putV_same, putV_same, (key_app_last hle).1, (key_app_last hle).2]
                    exact ⟨rfl, rfl⟩
                  · have hx' : x < k := by omega
                    rw [(key_app (by rw [hle]; exact hx')).1, (key_app (by rw [hle]; exact hx')).2, putV_other _ _ _ _ (by omega), putV_other _ _ _ _ (by omega), putV_other _ _ _ _ (by omega), putV_other _ _ _ _ (by omega)]
                    exact H1.out x hx'
                · rw [putV_other _ _ _ _ (by omega), putV_other _ _ _ _ (by omega), putV_other _ _ _ _ (by omega), putV_other _ _ _ _ (by omega)]
                  exact H2.out x (by omega) hx2
            · have jz2 : ¬ (q : Int) + 1 < (m : Int) := by omega
              have FN : Hid (cmpN l (kp + 1 + q + 1) = cmpN l l.length) := by
                show cmpN l (kp + 1 + q + 1) = cmpN l l.length
                rw [show kp + 1 + q + 1 = l.length by omega]
              have hcl : ∀ ty, (Builtin.clear_ #[ 22 ] ty #[.slice (some ⟨g, k * 2, none⟩) (l.length - k) (cap - k)]).run Try.prog wr = .ok (.tuple #[]) (wr.setCells g (k * 2) (List.replicate ((l.length - k) * 2) (.int .i64 0))) := fun ty => run_clear_two wr _ _ ty prs_under Try.zeroValue59 g (k * 2) (l.length - k) (cap - k) (by omega)
                (fun x hx => by rw [(hV (k * 2 + x) (by omega)).1]; rfl) (fun x hx => (hV (k * 2 + x) (by omega)).2)
              have r1 : k ≤ l.length := by omega
              have r2 : k ≤ cap := by omega
              have r3 : ¬ cap = k := by omega
              have r4 : (k : Int) ≤ (l.length : Int) := by omega
              have r5 : (k : Int) ≤ (cap : Int) := by omega
              have r6 : (0 : Int) ≤ (k : Int) := Int.natCast_nonneg _
              have hll : k ≤ l.length := by omega
              clear hV hF1 hF2 hbw hlen hlm
              go_wp2_with fail
              go_ret
              rw [← FN.out]
              refine ⟨by rw [HLE.out]; rfl, ⟨fun _ => rfl, fun _ => ?_, fun x hx => ?_, ?_⟩, below_setCells g hB _ _ _ HB.out⟩
              · have := below_setCells (w0 := wr) (B := 0) g (Nat.zero_le _) (List.replicate ((l.length - k) * 2) (.int .i64 0)) (k * 2) wr (Below.refl _ _)
                exact Nat.lt_of_lt_of_le hgw this.size
              · rw [HLE.out] at hx
                obtain ⟨y0, y1⟩ := H1.out x hx
                rw [Nat.zero_add, World.cell?_setCells_out g _ _ _ ⟨g, x * 2, none⟩ (fun _ _ => Or.inl (by show x * 2 < k * 2; omega)), World.cell?_setCells_out g _ _ _ ⟨g, x * 2 + 1, none⟩ (fun _ _ => Or.inl (by show x * 2 + 1 < k * 2; omega)), (HV.out (x * 2) (by omega)).1, (HV.out (x * 2 + 1) (by omega)).1, y0, y1]
                exact ⟨rfl, rfl⟩
              · rw [HLE.out]; unfold maxLen; omega
        · have HK : Hid (¬ keyAt l (kp + 1) = keyAt l kp) := hk
          clear hk
          have y0 := BelowBy.cell hgw p0
          have z0 := BelowBy.cell hgw q0
          have y1 := BelowBy.cell hgw p1
          have z1 := BelowBy.cell hgw q1
          have SE : Hid (∀ p : BelowBy wr, Calls Try.prog 49 #[.agg #[.int .i64 (keyAt l (kp + 1)), .int .i64 (valAt l (kp + 1))], .agg #[.int .i64 (keyAt l kp), .int .i64 (valAt l kp)]] p.W fun e w' => e = .returned (.bool false) ∧ Below p.W.heap.size p.W w') := fun p => by have := of2_any (keyAt l (kp + 1)) (valAt l (kp + 1)) (keyAt l kp) (valAt l kp) p.W; rwa [show decide ((keyAt l (kp + 1)) = (keyAt l kp)) = false by simp [HK.out]] at this
          clear p0 q0 p1 q1
          go_wp2_with fail
          refine wp_region_below (by kernel_rfl) (by kernel_rfl) ?_
          repeat (go_big_quiet_step ((go_at_call 49; exact below_call (SE.out _))))
          refine wpQuiet_nil ?_
          rintro _ ⟨p, rfl⟩
          have PB : Hid (Below wr.heap.size wr p.W) := p.h
          have zp := p.h.size
          clear SE y0 z0 y1 z1
          generalize p.W = wp at *
          clear p
          
          go_wp2_with fail
          refine ⟨⟨kp + 1, by omega, by go_num, fun x h1 h2 => ?_, HW.out.trans (PB.out.mono HW.out.size)⟩, by simp [intOf]; omega⟩
          by_cases e : x = kp + 1
          · subst e; exact HK.out
          · exact HAL.out x h1 (by omega)
      · have jz2 : ¬ (kp : Int) + 1 < (l.length : Int) := by omega
        have F : Hid (cmpN l l.length = l) := by
          show cmpN l l.length = l
          rw [cmpN_start _ (Nat.le_refl _) (fun x h1 h2 => HAL.out x h1 (by omega)), List.take_length]
        go_wp2_with fail
        go_ret
        rw [F.out]
        exact ⟨rfl, HWH.out _ HW.out, HW.out.mono (by omega)⟩
end Go.Proofs.Ytjpfgfcggekklaa
namespace Go.Proofs.Ytjpfgfcggekklaa
open Go.RowKit
attribute [local go_sem ↓] Go.wp_at_zero Go.wp_at_succ

def dP (l : PL) : Nat → PrX := fun i => ⟨keyAt l i, valAt l i, i⟩
theorem pairCells_enc (l : PL) {i c : Nat} (hi : i < l.length) (hc : c < 2) : (pairCells l)[i * 2 + c]? = (encP (dP l i))[c]? := by
  obtain ⟨h0, h1⟩ := pairCells_get l i hi
  match c, hc with
  | 0, _ => exact h0
  | 1, _ => exact h1
theorem owns_rowPr {w : World} {B : Nat} {T : TypeId} {v : Value} {l : PL} (h : w.ownsRow B T 2 v (0 + l.length) ([] ++ pairCells l)) (hv : v ≠ .slice none 0 0) :
    ∃ g cap, v = .slice (some ⟨g, 0, none⟩) l.length cap ∧ B ≤ g ∧ g < w.heap.size ∧ l.length ≤ cap ∧ RowP w g l.length (dP l) := by
  rw [Nat.zero_add, List.nil_append] at h
  by_cases hn : l.length = 0
  · obtain ⟨_, h⟩ := h
    rcases h with ⟨h, _⟩ | ⟨g, cap, cur, rfl, hg, hh, h1, h2, h3, h4⟩
    · exact absurd h hv
    · exact ⟨g, cap, rfl, hg, (Array.getElem?_eq_some_iff.1 hh).1, by omega, fun _ => .bool false, fun j hj => by omega, fun i hi => by omega⟩
  · obtain ⟨g, cap, e, h1, h2, h3, h4, h5, h6⟩ := owns_some h (by omega)
    refine ⟨g, cap, e, h1, h2, h3, fun j => ((pairCells l)[j]?).getD (.bool false), fun j hj => ⟨?_, h6 j⟩, fun i hi c hc => ?_⟩
    · have : j < (pairCells l).length := by rw [pairCells_length]; exact hj
      simp only
      rw [h5 j hj, List.getElem?_eq_getElem this]
      rfl
    · have e1 := pairCells_enc l hi hc
      simp only
      rw [e1, List.getElem?_eq_getElem (show c < (encP (dP l i)).length by rw [encP_length]; exact hc)]
      rfl

set_option maxRecDepth 100000 in
set_option maxHeartbeats 1000000 in
theorem cloneP_any (bp : Option Addr) (gp op cp : Nat) (ps : PL) (w : World) (h : PairsAt w bp gp op ps) (hbig : ps.length * 16 ≤ 140737488355328) :
    Calls Try.prog 43 #[.slice bp ps.length cp] w fun e w' => ∃ v, e = .returned v ∧ Below w.heap.size w w' ∧ ((ps.length = 0 ∧ v = .slice none 0 0) ∨ ∃ g cap, v = .slice (some ⟨g, 0, none⟩) ps.length cap ∧ w.heap.size ≤ g ∧ g < w'.heap.size ∧ ps.length ≤ cap ∧ RowP w' g ps.length (dP ps)) := by
  have qn : ∀ (w : World) (a : Option Addr) (n c n' c' : Nat), (binOp .eql 22 (.slice a n c) (.slice none n' c')).run Try.prog w = .ok (.bool a.isNone) w := fun w a n c n' c' => Lib.run_eql_slice_nil w _ _ a n c n' c' prs_under
  have hlen := h.len
  cases bp with
  | none =>
    have h0 : Hid (ps.length = 0) := by
      show ps.length = 0
      refine Decidable.byContradiction fun q => ?_
      have := h.base q
      cases this
    clear h
    go_enter Try.func43, Try.ntmps43
    go_wp2_with fail
    go_ret
    exact ⟨_, rfl, Below.refl _ _, Or.inl ⟨h0.out, rfl⟩⟩
  | some ad =>
    obtain ⟨i0, hi0, hz0, hz1, hz2⟩ := info_parts pr_info
    have HA : Hid _ := h
    clear h
    have ho : (w.alloc (.cells #[] 59)).ownsRow w.heap.size 59 2 (.slice (some ⟨w.heap.size, 0, none⟩) 0 0) 0 [] := ⟨rfl, Or.inr ⟨w.heap.size, 0, #[], rfl, Nat.le_refl _, heap_alloc_at _ _ _ rfl, Nat.le_refl _, by unfold maxLen; omega, rfl, rfl⟩⟩
    have HO : Hid (World.ownsRow _ _ _ _ _ _ _) := ho
    have hnews : ∀ a, some ad = some a → ∀ j u, (pairCells ps)[j]? = some u → (w.alloc (.cells #[] 59)).cell? (a.add j) = some u := pairs_news (HA.out.below (below_alloc _ _))
    have HW : Hid _ := hnews
    clear ho hnews
    go_enter Try.func43, Try.ntmps43
    go_wp2_with (first | (at_builtin; (refine wpList_append_all (by rfl) _ _ _ (by rfl) w.heap.size 59 i0 _ 2 16 prs_under hi0 hz0 hz1 hz2 rfl (by omega) _ 0 [] (by rfl) HO.out (some ad) ps.length cp (pairCells ps) (by rfl) (fun h => by cases h) (pairCells_length _) HW.out (pairCells_one _) (by omega) (by omega) (by simp) ?_); intro v' w1 hown1 hgrow hnl))
    go_ret
    obtain ⟨g, cap, rfl, hg, hgl, hcp, hpa⟩ := owns_rowPr hown1 (fun q => by cases (hnl.1 q).1)
    exact ⟨_, rfl, Below.grown (below_alloc _ _) hgrow (by simp) (by intro k hk; simp [Value.ownBlock] at hk; omega), Or.inr ⟨g, cap, rfl, hg, hgl, hcp, hpa⟩⟩
set_option maxRecDepth 100000 in
set_option maxHeartbeats 1000000 in
theorem insNilP_any (fv : Value) (w : World) : Calls Try.prog 73 #[.slice none 0 0, .int .i64 0, .int .i64 0, fv] w fun e w' => e = .returned (.tuple #[]) ∧ w' = w := by
  go_enter Try.func73, Try.ntmps73
  go_wp2_with fail
  go_loopw [8] (fun iv wr => iv = .int .i64 1 ∧ wr = w) (fun _ _ => 0)
  case atStart => exact ⟨rfl, rfl⟩
  case round =>
    obtain ⟨rfl, rfl⟩ := hrel
    go_wp2_with fail
    go_end0
    exact ⟨rfl, rfl⟩
set_option maxRecDepth 100000 in
set_option maxHeartbeats 1000000 in
theorem stableNilP_any (fv : Value) (w : World) : Calls Try.prog 64 #[.slice none 0 0, .int .i64 0, fv] w fun e w' => e = .returned (.tuple #[]) ∧ w' = w := by
  go_enter Try.func64, Try.ntmps64
  go_wp2_with fail
  go_loopw [7, 8] (fun av bv wr => av = .int .i64 0 ∧ bv = .int .i64 20 ∧ wr = w) (fun _ _ _ => 0)
  case atStart => exact ⟨rfl, rfl, rfl⟩
  case round =>
    obtain ⟨rfl, rfl, rfl⟩ := hrel
    go_wp2_with fail
    refine (insNilP_any _ _).mono ?_
    rintro e w1 ⟨rfl, rfl⟩
    go_wp2_with fail
    go_loopw [6, 7, 8, 9] (fun sv _ _ _ wr => sv = .int .i64 20 ∧ wr = w1) (fun _ _ _ _ _ => 0)
    case atStart => exact ⟨rfl, rfl⟩
    case round =>
      obtain ⟨rfl, hwr⟩ := hrel
      go_wp2_with fail
      go_end0
      exact ⟨rfl, by first | rfl | exact hwr⟩
set_option maxRecDepth 100000 in
set_option maxHeartbeats 1000000 in
theorem sortNilP_any (fv : Value) (w : World) : Calls Try.prog 45 #[.slice none 0 0, fv] w fun e w' => e = .returned (.tuple #[]) ∧ w' = w := by
  go_enter Try.func45, Try.ntmps45
  go_wp2_with fail
  refine (stableNilP_any _ _).mono ?_
  rintro e w1 ⟨rfl, rfl⟩
  go_wp2_with fail
  go_end0
  exact ⟨rfl, rfl⟩
set_option maxRecDepth 100000 in
set_option maxHeartbeats 1000000 in
theorem revNil_any (w : World) : Calls Try.prog 44 #[.slice none 0 0] w fun e w' => e = .returned (.tuple #[]) ∧ w' = w := by
  go_enter Try.func44, Try.ntmps44
  go_wp2_with fail
  go_loopw [2, 3] (fun iv jv wr => iv = .int .i64 0 ∧ jv = .int .i64 (-1) ∧ wr = w) (fun _ _ _ => 0)
  case atStart => exact ⟨rfl, by first | rfl | go_num, rfl⟩
  case round =>
    obtain ⟨rfl, rfl, rfl⟩ := hrel
    go_wp2_with fail
    go_end0
    exact ⟨rfl, rfl⟩
set_option maxRecDepth 100000 in
set_option maxHeartbeats 1000000 in
theorem cmpNil_any (fv : Value) (w : World) : Calls Try.prog 48 #[.slice none 0 0, fv] w fun e w' => e = .returned (.slice none 0 0) ∧ w' = w := by
  go_enter Try.func48, Try.ntmps48
  go_wp2_with fail
  go_ret
  exact ⟨rfl, rfl⟩
/-- A row of decorated pairs, as a list. -/
def lsP (n : Nat) (d : Nat → PrX) : PL := (List.range n).map (fun i => ((d i).k, (d i).v))
theorem lsP_length (n : Nat) (d : Nat → PrX) : (lsP n d).length = n := by unfold lsP; rw [List.length_map, List.length_range]
theorem lsP_at {n : Nat} (d : Nat → PrX) {i : Nat} (hi : i < n) : keyAt (lsP n d) i = (d i).k ∧ valAt (lsP n d) i = (d i).v := by
  unfold keyAt valAt lsP
  constructor <;> simp [List.getD_eq_getElem?_getD, hi]
theorem row_lie {w : World} {g n : Nat} {d : Nat → PrX} (h : RowP w g n d) : LieP w g (lsP n d) := by
  obtain ⟨F, h1, h2⟩ := h
  refine ⟨F, by rw [lsP_length]; exact h1, fun x hx => ?_⟩
  rw [lsP_length] at hx
  rw [(lsP_at d hx).1, (lsP_at d hx).2]
  exact ⟨Option.some.inj (h2 x hx 0 (by omega)), Option.some.inj (h2 x hx 1 (by omega))⟩
theorem lsP_rev (ps : PL) {d : Nat → PrX} (h : ∀ x, x < ps.length → d x = dP ps (ps.length - 1 - x)) : lsP ps.length d = ps.reverse := by
  apply List.ext_getElem?
  intro i
  by_cases hi : i < ps.length
  · unfold lsP
    rw [List.getElem?_map, List.getElem?_range hi, List.getElem?_reverse hi, pair_eta ps _ (by omega)]
    show some ((d i).k, (d i).v) = _
    rw [h i hi]
    rfl
  · rw [List.getElem?_eq_none (by rw [lsP_length]; omega), List.getElem?_eq_none (by rw [List.length_reverse]; omega)]

set_option maxRecDepth 100000 in
set_option maxHeartbeats 2000000 in
theorem Of_map (bp : Option Addr) (gp op cp : Nat) (ps : PL) (w : World) (h : PairsAt w bp gp op ps) (hn : ps.length ≤ 1000000) :
    Calls Try.prog 20 #[.slice bp ps.length cp] w fun e w' => ∃ a g cap, e = .returned (.slice a (ofL ps).length cap) ∧ Below w.heap.size w w' ∧ ((ofL ps).length ≠ 0 → w.heap.size ≤ g) ∧ PairsAt w' a g 0 (ofL ps) ∧ (a = none → cap = 0) := by
  have HA : Hid _ := h
  clear h
  go_enter Try.func20, Try.ntmps20
  go_wp2_with fail
  refine (cloneP_any bp gp op cp ps _ HA.out (by omega)).mono ?_
  rintro e w1 ⟨v, rfl, hb, hv⟩
  have B1 : Hid _ := hb
  clear hb
  rcases hv with ⟨h0, rfl⟩ | ⟨g, cap, rfl, hg, hgl, hcp, hrow⟩
  · have H0 : Hid _ := h0
    clear h0
    go_wp2_with fail
    refine (revNil_any _).mono ?_
    rintro e w2 ⟨rfl, rfl⟩
    go_wp2_with fail
    refine (sortNilP_any _ _).mono ?_
    rintro e w3 ⟨rfl, rfl⟩
    go_wp2_with fail
    refine (cmpNil_any _ _).mono ?_
    rintro e w4 ⟨rfl, rfl⟩
    go_wp2_with fail
    go_ret
    obtain rfl : ps = [] := List.length_eq_zero_iff.1 H0.out
    exact ⟨none, 0, 0, rfl, B1.out, fun q => absurd rfl q, ⟨fun q => absurd rfl q, fun q => absurd rfl q, fun i hi => by simp [ofL, ofN] at hi, by simp [ofL, ofN]⟩, fun _ => rfl⟩
  · have C1 : Hid (Calls _ _ _ _ _) := reverse_any g ps.length cap (dP ps) w1 hrow hgl hn
    clear hrow
    go_wp2_with fail
    refine C1.out.mono ?_
    rintro e w2 ⟨rfl, d, hr2, hg2, hd2⟩
    have z2 := hg2.size
    have B2 : Hid (Below w.heap.size w w2) := Below.grown B1.out hg2 (by have := B1.out.size; omega) (by intro k hk; cases hk; exact hg)
    obtain ⟨d1, hd1⟩ : ∃ d1 : Nat → PrX, d1 = fun x => ⟨(d x).k, (d x).v, x⟩ := ⟨_, rfl⟩
    have hr3 : RowP w2 g ps.length d1 := by
      obtain ⟨F, a1, a2⟩ := hr2
      exact ⟨F, a1, fun i hi c hc => by rw [a2 i hi c hc, hd1]; rfl⟩
    have C2 : Hid (Calls _ _ _ _ _) := sortStableP_any g ps.length cap d1 w2 hr3 (by omega) hn (fun x y h1 _ => by rw [hd1]; exact h1)
    have HG1 : Hid (∀ k, getK k (lsP ps.length d1) = getK k ps.reverse) := by
      intro k
      rw [← lsP_rev ps hd2]
      unfold lsP
      rw [hd1]
    clear hr2 hg2 hr3
    go_wp2_with fail
    refine C2.out.mono ?_
    rintro e w3 ⟨rfl, d3, hr4, hg3, hs3, ho3⟩
    have z3 := hg3.size
    have B3 : Hid (Below w.heap.size w w3) := Below.grown B2.out hg3 (by have := B2.out.size; omega) (by intro k hk; cases hk; exact hg)
    have HL : Hid (cmpN (lsP ps.length d3) (lsP ps.length d3).length = ofL ps) := by
      refine of_sorted (fun x y h1 h2 => ?_) (fun k => ?_)
      · rw [lsP_length] at h2
        rw [(lsP_at d3 (by omega)).1, (lsP_at d3 h2).1]
        exact sorted_keys (key := keyP) (pos := PrX.pos) (pr := fun x => (x.k, x.v)) (fun _ => rfl) ho3 x y h1 h2
      · rw [← HG1.out k]
        exact sorted_getK (key := keyP) (pos := PrX.pos) (pr := fun x => (x.k, x.v)) (fun _ => rfl) hs3 ho3 (fun x y h1 _ => by rw [hd1]; exact h1) k
    have C3 : Hid (Calls _ _ _ _ _) := compact_any w.heap.size g cap (lsP ps.length d3) w3 (row_lie hr4) (by omega) hg (by rw [lsP_length]; exact hcp) (by rw [lsP_length]; exact hn)
    rw [lsP_length] at C3 HL
    clear hr4 hg3 hs3 ho3 hd1 hd2
    go_wp2_with fail
    refine C3.out.mono ?_
    rintro e w4 ⟨rfl, hp4, hb4⟩
    have HP4 : Hid (PairsAt _ _ _ _ _) := hp4
    have B4 : Hid (Below w.heap.size w w4) := B3.out.trans hb4
    clear hp4 hb4
    go_wp2_with fail
    go_ret
    have e4 := HL.out
    exact ⟨_, g, cap, by rw [← e4]; rfl, B4.out, fun _ => hg, by have := HP4.out; rwa [e4] at this, (fun q => by cases q)⟩
end Go.Proofs.Ytjpfgfcggekklaa
