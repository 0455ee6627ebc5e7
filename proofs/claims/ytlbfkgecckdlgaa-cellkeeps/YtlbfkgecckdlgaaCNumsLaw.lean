/- Layer 2: CellNums, walked. -/
import Derived.Test.YtlbfkgecckdlgaaCTo
import Derived.Test.YtlbfkgecckdlgaaCAwake
namespace Go.Proofs.Ytlbfkgecckdlgaa
open Go.RowKit

theorem plain_same (e : Int) (w : World) : Calls Try.prog 15 #[.int .i64 e, .int .i64 e] w fun r w' => r = .returned (.bool true) ∧ w = w' := by
  go_enter Try.func15, Try.ntmps15
  go_wp2
  go_ret
  exact ⟨by simp, rfl⟩

theorem to_acts (ab ao n cap : Nat) (dk di da db : Nat → Int) (w : World) (base : Option Addr) (h : CActs w base ab ao n dk di da db) (hbytes : n * 32 ≤ 140737488355328) :
    Calls Try.prog 14 #[.slice base n cap] w fun e w' => ∃ b c g, e = .returned (.slice b n c) ∧ Below w.heap.size w w' ∧ (n ≠ 0 → w.heap.size ≤ g) ∧ CActs w' b g 0 n dk di da db := by
  refine (to_any ab ao n cap dk di da db w base h hbytes).mono ?_
  rintro e w' ⟨v, rfl, hb, ho⟩
  obtain ⟨b, c, g, rfl, hg, _, ha⟩ := cacts_of_owns ho h.len
  exact ⟨b, c, g, rfl, hb, hg, ha⟩

theorem nums_none (w : World) : NumsAt w none 0 0 0 (fun _ => 0) := ⟨fun h => absurd rfl h, fun h => absurd rfl h, fun i hi => by omega, by unfold maxLen; omega⟩
theorem CActs.below {w w' : World} {base : Option Addr} {ab ao n : Nat} {dk di da db : Nat → Int} (h : CActs w base ab ao n dk di da db) (hb : Below w.heap.size w w') : CActs w' base ab ao n dk di da db := h.kp (X := fun _ => False) (Kp.of_below hb) (fun _ h => h)

set_option maxRecDepth 100000 in
set_option maxHeartbeats 1000000 in
theorem cnums_err (m ca ab ao n cap : Nat) (x base : Option Addr) (dk di da db : Nat → Int) (w : World) (h : CActs w base ab ao n dk di da db) (hbytes : n * 32 ≤ 140737488355328) (he : ¬ nsErr m n dk di = 0) :
    Calls Try.prog 3 #[.slice x m ca, .slice base n cap] w fun e w' => e = .returned (.bool true) ∧ Below w.heap.size w w' := by
  have HA : Hid _ := h
  have HR : Hid _ := fun (W : World) (hW : CActs W base ab ao n dk di da db) => refNums_err m ca ab ao n cap x base dk di da db W hW he
  have HN : Hid _ := fun (W : World) (b : Option Addr) (g c : Nat) (hW : CActs W b g 0 n dk di da db) => nums_err m ca g 0 n c x b dk di da db W hW he
  generalize nsErr m n dk di = E at *
  clear h he
  go_enter Try.func3, Try.ntmps3
  go_wp2_with (first | (go_at_call 11; refine (awake_any _).mono ?_; rintro e w1 ⟨rfl, hb1⟩))
  refine Calls.mono (HR.out _ (HA.out.below hb1)) ?_
  rintro e w' ⟨rfl, rfl⟩
  go_wp2_with fail
  refine (to_acts ab ao n cap dk di da db _ base (HA.out.below hb1) hbytes).mono ?_
  rintro e w2 ⟨b2, c2, g2, rfl, hb2, _, ha2⟩
  have hB2 : Below w.heap.size w w2 := hb1.trans (hb2.mono hb1.size)
  go_wp2_with fail
  refine Calls.mono (HN.out _ _ _ _ ha2) ?_
  rintro e w3 ⟨rfl, hb3⟩
  have hB3 : Below w.heap.size w w3 := hB2.trans (hb3.mono hB2.size)
  clear hb1 hb2 hb3 ha2 hB2
  go_wp2_with (first | (go_at_call 15; refine (plain_same _ _).mono ?_; rintro e w' ⟨rfl, rfl⟩))
  refine (ints_same 0 0 0 0 0 0 0 none none (fun _ => 0) _ (nums_none _) (nums_none _)).mono ?_
  rintro e w4 ⟨rfl, hb4⟩
  have hB4 : Below w.heap.size w w4 := hB3.trans (hb4.mono hB3.size)
  clear hb4 hB3
  go_wp2_with fail
  refine (ints_same 0 0 0 0 0 0 0 none none (fun _ => 0) _ (nums_none _) (nums_none _)).mono ?_
  rintro e w5 ⟨rfl, hb5⟩
  have hB5 : Below w.heap.size w w5 := hB4.trans (hb5.mono hB4.size)
  clear hb5 hB4
  go_wp2_with fail
  refine (ints_same 0 0 0 0 0 0 0 none none (fun _ => 0) _ (nums_none _) (nums_none _)).mono ?_
  rintro e w6 ⟨rfl, hb6⟩
  go_wp2
  go_ret
  exact ⟨by simp, hB5.trans (hb6.mono hB5.size)⟩

/-- The reference's Nums and the program's, as what they answer. -/
theorem refNums_out (cb co m ca ab ao n cap : Nat) (x base : Option Addr) (f dk di da db : Nat → Int) (w : World) (hx : NumsAt w x cb co m f) (hxn : x = none → m = 0 ∧ ca = 0) (h : CActs w base ab ao n dk di da db) (hm : m ≤ 64) (hn : n ≤ 1000) (he : frst (fun j => nmErr (dk j) (di j) m) n = 0) :
    Calls Try.prog 12 #[.slice x m ca, .slice base n cap] w fun e w' => ∃ a1 c1 g1 a2 c2 g2 a3 c3 g3, e = .returned (.tuple #[.slice a1 n c1, .slice a2 m c2, .slice a3 n c3, .int .i64 0]) ∧ Below w.heap.size w w' ∧ NumsAt w' a1 g1 0 n (cso f dk di da db) ∧ NumsAt w' a2 g2 0 m (csn f dk di da db n) ∧ NumsAt w' a3 g3 0 n dk := by
  refine (refNums_ok cb co m ca ab ao n cap x base f dk di da db w hx hxn h hm hn he).mono ?_
  rintro e w' ⟨o, g, c, v, rfl, hb, hg, h1, h2, h3⟩
  obtain ⟨a1, c1, g1, rfl, k1⟩ := owns_nums h1 (by unfold maxLen; omega)
  obtain ⟨a3, c3, g3, rfl, k3⟩ := owns_nums h3 (by unfold maxLen; omega)
  exact ⟨a1, c1, g1, _, c, g, a3, c3, g3, rfl, hb, k1, h2.nums hg (by unfold maxLen; omega), k3⟩
theorem nums_out (cb co m ca ab ao n cap : Nat) (x base : Option Addr) (f dk di da db : Nat → Int) (w : World) (hx : NumsAt w x cb co m f) (h : CActs w base ab ao n dk di da db) (hm : m ≤ 64) (hn : n ≤ 1000) (he : frst (fun j => nmErr (dk j) (di j) m) n = 0) :
    Calls Try.prog 13 #[.slice x m ca, .slice base n cap] w fun e w' => ∃ a1 c1 g1 a2 c2 g2 a3 c3 g3, e = .returned (.tuple #[.slice a1 n c1, .slice a2 m c2, .slice a3 n c3, .int .i64 0]) ∧ Below w.heap.size w w' ∧ NumsAt w' a1 g1 0 n (cso f dk di da db) ∧ NumsAt w' a2 g2 0 m (csn f dk di da db n) ∧ NumsAt w' a3 g3 0 n dk := by
  refine (nums_ok cb co m ca ab ao n cap x base f dk di da db w hx h hm hn he).mono ?_
  rintro e w' ⟨b1, b2, v, rfl, hb, q1, q2, q3, q4, h1, h2, h3⟩
  obtain ⟨a3, c3, g3, rfl, k3⟩ := owns_nums h3 (by unfold maxLen; omega)
  exact ⟨_, _, b1, _, _, b2, a3, c3, g3, rfl, hb, h1.nums q2 (by unfold maxLen; omega), h2.nums q4 (by unfold maxLen; omega), k3⟩

set_option maxRecDepth 100000 in
set_option maxHeartbeats 1000000 in
theorem cnums_ok (cb co m ca ab ao n cap : Nat) (x base : Option Addr) (f dk di da db : Nat → Int) (w : World) (hx : NumsAt w x cb co m f) (hxn : x = none → m = 0 ∧ ca = 0) (h : CActs w base ab ao n dk di da db) (hm : m ≤ 64) (hn : n ≤ 1000) (he : frst (fun j => nmErr (dk j) (di j) m) n = 0) :
    Calls Try.prog 3 #[.slice x m ca, .slice base n cap] w fun e w' => e = .returned (.bool true) ∧ Below w.heap.size w w' := by
  have HA : Hid _ := h
  have HX : Hid _ := hx
  have HR : Hid _ := fun (W : World) (hX : NumsAt W x cb co m f) (hW : CActs W base ab ao n dk di da db) => refNums_out cb co m ca ab ao n cap x base f dk di da db W hX hxn hW hm hn he
  have HN : Hid _ := fun (W : World) (b : Option Addr) (g c : Nat) (hX : NumsAt W x cb co m f) (hW : CActs W b g 0 n dk di da db) => nums_out cb co m ca g 0 n c x b f dk di da db W hX hW hm hn he
  clear h he hx
  generalize cso f dk di da db = O at *
  generalize csn f dk di da db n = M at *
  go_enter Try.func3, Try.ntmps3
  go_wp2_with (first | (go_at_call 11; refine (awake_any _).mono ?_; rintro e w1 ⟨rfl, hb1⟩))
  refine Calls.mono (HR.out _ (HX.out.below hb1) (HA.out.below hb1)) ?_
  rintro e w2 ⟨a1, c1, g1, a2, c2, g2, a3, c3, g3, rfl, hb2, r1, r2, r3⟩
  have hB2 : Below w.heap.size w w2 := hb1.trans (hb2.mono hb1.size)
  go_wp2_with fail
  refine (to_acts ab ao n cap dk di da db _ base (HA.out.below hB2) (by omega)).mono ?_
  rintro e w3 ⟨b3, d3, k3, rfl, hb3, _, ha3⟩
  have hB3 : Below w.heap.size w w3 := hB2.trans (hb3.mono hB2.size)
  have r1' := r1.below hb3
  have r2' := r2.below hb3
  have r3' := r3.below hb3
  clear hb1 hb2 hb3 hB2 r1 r2 r3
  go_wp2_with fail
  refine Calls.mono (HN.out _ _ _ _ (HX.out.below hB3) ha3) ?_
  rintro e w4 ⟨x1, y1, z1, x2, y2, z2, x3, y3, z3, rfl, hb4, p1, p2, p3⟩
  have hB4 : Below w.heap.size w w4 := hB3.trans (hb4.mono hB3.size)
  have q1 : Hid _ := r1'.below hb4
  have q2 : Hid _ := r2'.below hb4
  have q3 : Hid _ := r3'.below hb4
  have P1 : Hid _ := p1
  have P2 : Hid _ := p2
  have P3 : Hid _ := p3
  clear hb4 ha3 hB3 p1 p2 p3 r1' r2' r3'
  go_wp2_with (first | (go_at_call 15; refine (plain_same _ _).mono ?_; rintro e w' ⟨rfl, rfl⟩))
  refine (ints_same z1 0 g1 0 n y1 c1 x1 a1 O _ P1.out q1.out).mono ?_
  rintro e w5 ⟨rfl, hb5⟩
  have hB5 : Below w.heap.size w w5 := hB4.trans (hb5.mono hB4.size)
  have P2' : Hid _ := P2.out.below hb5
  have q2' : Hid _ := q2.out.below hb5
  have P3' : Hid _ := P3.out.below hb5
  have q3' : Hid _ := q3.out.below hb5
  clear hb5 hB4 P1 q1 P2 q2 P3 q3
  go_wp2_with fail
  refine (ints_same z2 0 g2 0 m y2 c2 x2 a2 M _ P2'.out q2'.out).mono ?_
  rintro e w6 ⟨rfl, hb6⟩
  have hB6 : Below w.heap.size w w6 := hB5.trans (hb6.mono hB5.size)
  have P3 : Hid _ := P3'.out.below hb6
  have q3 : Hid _ := q3'.out.below hb6
  clear hb6 hB5 P2' q2' P3' q3'
  go_wp2_with fail
  refine (ints_same z3 0 g3 0 n y3 c3 x3 a3 dk _ P3.out q3.out).mono ?_
  rintro e w7 ⟨rfl, hb7⟩
  go_wp2
  go_ret
  exact ⟨by simp, hB6.trans (hb7.mono hB6.size)⟩

theorem cnums_any (cb co m ca ab ao n cap : Nat) (x base : Option Addr) (f dk di da db : Nat → Int) (w : World) (hx : NumsAt w x cb co m f) (hxn : x = none → m = 0 ∧ ca = 0) (h : CActs w base ab ao n dk di da db) (hbytes : n * 32 ≤ 140737488355328) :
    Calls Try.prog 3 #[.slice x m ca, .slice base n cap] w fun e w' => e = .returned (.bool true) ∧ Below w.heap.size w w' := by
  by_cases he : nsErr m n dk di = 0
  · unfold nsErr at he
    split at he
    · cases he
    · exact cnums_ok cb co m ca ab ao n cap x base f dk di da db w hx hxn h (by omega) (by omega) he
  · exact cnums_err m ca ab ao n cap x base dk di da db w h hbytes he
end Go.Proofs.Ytlbfkgecckdlgaa
