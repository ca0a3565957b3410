/-
  PixelBys: the law's walk.
-/
import Derived.Test.YtolekbgbcahfgaaPxF
namespace Go.Proofs.Ytolekbgbcahfgaa
open Go.RowKit pxm

set_option maxRecDepth 100000 in
set_option maxHeartbeats 2000000 in
theorem bys_law (p q : Int) (w : World) (_p1 : -9223372036854775808 ≤ p) (_p2 : p ≤ 9223372036854775807) (_q1 : -9223372036854775808 ≤ q) (_q2 : q ≤ 9223372036854775807) :
    Calls Try.prog 4 #[.int .i64 p, .int .i64 q] w fun e w' => e = .returned (.bool true) ∧ Below w.heap.size w w' := by
  have HA := Lib.hid (fun w => awake_any w)
  clear _p1 _p2 _q1 _q2
  by_cases h1 : p < 0
  · have t1 : decide (p < 0) = true := by simpa using h1
    clear h1
    go_enter Try.func4, Try.ntmps4
    go_wp2_with (fail)
    refine (HA.out _).mono ?_
    rintro e w1 ⟨rfl, hb⟩
    go_wp2_with (fail)
    go_ret
    exact ⟨rfl, hb⟩
  have t1 : decide (p < 0) = false := by simpa using h1
  by_cases h2 : 255 < p
  · have t2 : decide (255 < p) = true := by simpa using h2
    clear h1 h2
    go_enter Try.func4, Try.ntmps4
    go_wp2_with (fail)
    refine (HA.out _).mono ?_
    rintro e w1 ⟨rfl, hb⟩
    go_wp2_with (fail)
    go_ret
    exact ⟨rfl, hb⟩
  have t2 : decide (255 < p) = false := by simpa using h2
  by_cases h3 : q < 0
  · have t3 : decide (q < 0) = true := by simpa using h3
    clear h1 h2 h3
    go_enter Try.func4, Try.ntmps4
    go_wp2_with (fail)
    refine (HA.out _).mono ?_
    rintro e w1 ⟨rfl, hb⟩
    go_wp2_with (fail)
    go_ret
    exact ⟨rfl, hb⟩
  have t3 : decide (q < 0) = false := by simpa using h3
  by_cases h4 : 255 < q
  · have t4 : decide (255 < q) = true := by simpa using h4
    clear h1 h2 h3 h4
    go_enter Try.func4, Try.ntmps4
    go_wp2_with (fail)
    refine (HA.out _).mono ?_
    rintro e w1 ⟨rfl, hb⟩
    go_wp2_with (fail)
    go_ret
    exact ⟨rfl, hb⟩
  have t4 : decide (255 < q) = false := by simpa using h4
  obtain ⟨x, rfl⟩ : ∃ x : Nat, p = (x : Nat) := ⟨p.toNat, by omega⟩
  obtain ⟨y, rfl⟩ : ∃ y : Nat, q = (y : Nat) := ⟨q.toNat, by omega⟩
  have hx : x < 256 := by omega
  have hy : y < 256 := by omega
  have H1 := Lib.hid (fun w => by_any x y hx hy w)
  have H2 := Lib.hid (fun w => dby_any x y hx hy w)
  have H3 := Lib.hid (fun w => by_any y x hy hx w)
  have H4 : Hid (∀ w, Calls Try.prog 15 #[.int .i64 (x : Nat), .int .i64 255] w fun e w' => e = .returned (.int .i64 (x : Nat)) ∧ Drew w w') := fun w => by
    have := by_any x 255 hx (by omega) w
    rw [by_255] at this
    exact this
  have H5 : Hid (∀ w, Calls Try.prog 15 #[.int .i64 (x : Nat), .int .i64 0] w fun e w' => e = .returned (.int .i64 0) ∧ Drew w w') := fun w => by
    have := by_any x 0 hx (by omega) w
    rw [by_0] at this
    exact this
  rw [by_comm y x] at H3
  clear h1 h2 h3 h4 hx hy
  generalize by_ x y = z at *
  go_enter Try.func4, Try.ntmps4
  go_wp2_with (fail)
  refine (H1.out _).mono ?_
  rintro e w1 ⟨rfl, hd⟩
  have D1 := Lib.hid hd
  clear hd
  go_wp2_with (fail)
  refine (H2.out _).mono ?_
  rintro e w2 ⟨rfl, hd⟩
  have D2 := Lib.hid (D1.out.trans hd)
  clear hd
  go_wp2_with (fail)
  refine (H3.out _).mono ?_
  rintro e w3 ⟨rfl, hd⟩
  have D3 := Lib.hid (D2.out.trans hd)
  clear hd
  go_wp2_with (fail)
  refine (H1.out _).mono ?_
  rintro e w4 ⟨rfl, hd⟩
  have D4 := Lib.hid (D3.out.trans hd)
  clear hd
  go_wp2_with (fail)
  refine (H4.out _).mono ?_
  rintro e w5 ⟨rfl, hd⟩
  have D5 := Lib.hid (D4.out.trans hd)
  clear hd
  go_wp2_with (fail)
  refine (H5.out _).mono ?_
  rintro e w6 ⟨rfl, hd⟩
  have D6 := Lib.hid (D5.out.trans hd)
  clear hd
  go_wp2_with (fail)
  refine (HA.out _).mono ?_
  rintro e w7 ⟨rfl, hb⟩
  have B7 := Lib.hid (bel_step (D6.out.below _) (Nat.le_refl _) hb)
  clear hb
  go_wp2_with (fail)
  go_ret
  exact ⟨rfl, B7.out⟩
end Go.Proofs.Ytolekbgbcahfgaa
