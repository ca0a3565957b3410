/-
  Layer 5: the fixed answer.
-/
import Derived.Test.YteomackicpcmgaaFxD
namespace Go.Proofs.Yteomackicpcmgaa
open Go.RowKit

theorem aw1 : dotV [131072, 196608, 262144] = 655360 ∧ dotB [131072, 196608, 262144] = true := by decide
theorem aw2 : dotV [1073741824, 1073741824] = 0 ∧ dotB [1073741824, 1073741824] = false := by decide
theorem aw3 : rnd (98304 * 98304) 65536 = 147456 ∧ rnd (-3) 2 = -1 ∧ ceilI 1 = 1 ∧ (-1 : Int) / 65536 = -1 := by decide
theorem aw4 : allR [1073741824, -1073741824] = true ∧ allR [0, 1073741825] = false := by decide
set_option maxRecDepth 100000 in
set_option maxHeartbeats 1000000 in
theorem awake_any (w : World) : Calls Try.prog 7 #[] w fun e w' => e = .returned (.bool true) ∧ Below w.heap.size w w' := by
  go_enter Try.func7, Try.ntmps7
  go_wp2_with (fail)
  refine (dot_any _ [131072, 196608, 262144] 3 _ (row_new w [131072, 196608, 262144] 2) (Nat.le_refl 3) (by decide)).mono ?_
  rw [aw1.1, aw1.2]
  rintro e w1 ⟨rfl, hb⟩
  have B1 : Hid (Below w.heap.size w w1) := ((Below.refl _ _).alloc (Nat.le_refl _) _).trans (hb.mono (by simp))
  clear hb
  go_wp2_with (fail)
  refine (dot_any _ [1073741824, 1073741824] 2 _ (row_new w1 [1073741824, 1073741824] 2) (Nat.le_refl 2) (by decide)).mono ?_
  rw [aw2.1, aw2.2]
  rintro e w2 ⟨rfl, hb⟩
  have B2 : Hid (Below w.heap.size w w2) := (B1.out.alloc B1.out.size _).trans (hb.mono (by have := B1.out.size; simp; omega))
  clear hb B1
  go_wp2_with (fail)
  refine (of_any (-3) w2 (by decide) (by decide)).mono ?_
  rintro e w3 ⟨rfl, m3, rfl⟩
  go_wp2_with (fail)
  refine (mul_any 98304 98304 _ (by decide) (by decide) (by decide) (by decide)).mono ?_
  rw [aw3.1]
  rintro e w4 ⟨rfl, hb⟩
  have B4 : Hid (Below w.heap.size w w4) := (Below.drewN' B2.out _).trans (hb.mono B2.out.size)
  clear hb B2
  go_wp2_with (fail)
  refine (round_any (-3) 2 _ (by decide) (by decide) (by decide) (by decide)).mono ?_
  rw [aw3.2.1]
  rintro e w5 ⟨rfl, m5, rfl⟩
  go_wp2_with (fail)
  refine (floor_any (-1) _ (by decide) (by decide)).mono ?_
  rw [aw3.2.2.2]
  rintro e w6 ⟨rfl, m6, rfl⟩
  go_wp2_with (fail)
  refine (ceil_any 1 _ (by decide) (by decide)).mono ?_
  rw [aw3.2.2.1]
  rintro e w7 ⟨rfl, m7, rfl⟩
  go_wp2_with (fail)
  refine (right_any _ [1073741824, -1073741824] 2 _ (row_new _ [1073741824, -1073741824] 2) (Nat.le_refl 2) (by decide)).mono ?_
  rw [aw4.1]
  rintro e w8 ⟨rfl, rfl⟩
  go_wp2_with (fail)
  refine (right_any _ [0, 1073741825] 2 _ (row_new' _ [0, 1073741825] 2 (by simp)) (Nat.le_refl 2) (by decide)).mono ?_
  rw [aw4.2]
  rintro e w9 ⟨rfl, rfl⟩
  go_wp2_with (fail)
  go_ret
  refine ⟨rfl, ?_⟩
  have hs := B4.out.size
  refine Below.alloc (Below.alloc (Below.drewN' ?_ _) ?_ _) ?_ _
  · first | exact B4.out | exact Below.drewN' B4.out _
  · simpa using hs
  · simp; omega

theorem fixDots_body (A : Option Addr) (l : List Int) (c : Nat) (w : World) (hr : Row eI w A l) (h1 : l.length ≤ c) (h2 : c ≤ 9223372036854775807) :
    Calls Try.prog 5 #[.slice A l.length c] w fun e w' => e = .returned (.bool true) ∧ Below w.heap.size w w' := by
  by_cases h : 60 < l.length
  · have t : decide (60 < (l.length : Int)) = true := by simp; omega
    clear h hr
    go_enter Try.func5, Try.ntmps5
    go_wp2_with (fail)
    refine (awake_any _).mono ?_
    rintro e w' ⟨rfl, hb⟩
    have B := Lib.hid hb
    clear hb
    go_wp2_with (fail)
    go_ret
    exact ⟨rfl, B.out⟩
  · have t : decide (60 < (l.length : Int)) = false := by simp; omega
    have HRow := Lib.hid hr
    clear hr h
    go_enter Try.func5, Try.ntmps5
    go_wp2_with (fail)
    refine (dot_any A l c w HRow.out h1 h2).mono ?_
    rintro e w1 ⟨rfl, hb⟩
    have B := Lib.hid hb
    clear hb
    go_wp2_with (fail)
    refine (ddot_any A l c w1 (HRow.out.below B.out) h1 h2).mono ?_
    rintro e w2 ⟨rfl, m, rfl⟩
    generalize dotV l = x
    generalize dotB l = y
    have t1 : (x == x) = true := by simp
    have t2 : (y == y) = true := by simp
    go_wp2_with (fail)
    refine (awake_any _).mono ?_
    rintro e w' ⟨rfl, hb⟩
    have B2 : Hid (Below w.heap.size w w') := (Below.drewN' B.out m).trans (hb.mono B.out.size)
    clear hb
    go_wp2_with (fail)
    go_ret
    exact ⟨rfl, B2.out⟩
end Go.Proofs.Yteomackicpcmgaa
