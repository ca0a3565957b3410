/-
  Layer 5: the laws' walks.
-/
import Derived.Test.YteomackicpcmgaaFxE
namespace Go.Proofs.Yteomackicpcmgaa
open Go.RowKit

theorem rnd_facts (n d : Int) (h3 : 1 ≤ d) :
    (-(d / 2) ≤ n - rnd n d * d ∧ n - rnd n d * d < d - (n - rnd n d * d)) := by
  have g1 := Int.emod_nonneg n (show d ≠ 0 by omega)
  have g2 := Int.emod_lt_of_pos n (show 0 < d by omega)
  have g3 : n / d * d + n % d = n := by rw [Int.mul_comm]; exact Int.mul_ediv_add_emod n d
  unfold rnd
  by_cases h : d - n % d ≤ n % d
  · rw [if_pos h, Int.add_mul]
    omega
  · rw [if_neg h]
    omega

theorem fixRounds_out (n d : Int) (w : World) (h : d < 1 ∨ 4611686018427387904 < d ∨ n < -4611686018427387904 ∨ 4611686018427387904 < n) :
    Calls Try.prog 3 #[.int .i64 n, .int .i64 d] w fun e w' => e = .returned (.bool true) ∧ Below w.heap.size w w' := by
  have hw := Lib.hid (awake_any w)
  by_cases h1 : d < 1
  · have t1 : decide (d < 1) = true := by simpa using h1
    clear h h1
    go_enter Try.func3, Try.ntmps3
    go_wp2_with (fail)
    refine hw.out.mono ?_
    rintro e w' ⟨rfl, hb⟩
    have B := Lib.hid hb
    clear hb
    go_wp2_with (fail)
    go_ret
    exact ⟨rfl, B.out⟩
  have t1 : decide (d < 1) = false := by simpa using h1
  by_cases h2 : 4611686018427387904 < d
  · have t2 : decide (4611686018427387904 < d) = true := by simpa using h2
    clear h h1 h2
    go_enter Try.func3, Try.ntmps3
    go_wp2_with (fail)
    refine hw.out.mono ?_
    rintro e w' ⟨rfl, hb⟩
    have B := Lib.hid hb
    clear hb
    go_wp2_with (fail)
    go_ret
    exact ⟨rfl, B.out⟩
  have t2 : decide (4611686018427387904 < d) = false := by simpa using h2
  by_cases h3 : n < -4611686018427387904
  · have t3 : decide (n < -4611686018427387904) = true := by simpa using h3
    clear h h1 h2 h3
    go_enter Try.func3, Try.ntmps3
    go_wp2_with (fail)
    refine hw.out.mono ?_
    rintro e w' ⟨rfl, hb⟩
    have B := Lib.hid hb
    clear hb
    go_wp2_with (fail)
    go_ret
    exact ⟨rfl, B.out⟩
  have t3 : decide (n < -4611686018427387904) = false := by simpa using h3
  have t4 : decide (4611686018427387904 < n) = true := by simp; omega
  clear h h1 h2 h3
  go_enter Try.func3, Try.ntmps3
  go_wp2_with (fail)
  refine hw.out.mono ?_
  rintro e w' ⟨rfl, hb⟩
  have B := Lib.hid hb
  clear hb
  go_wp2_with (fail)
  go_ret
  exact ⟨rfl, B.out⟩

set_option maxHeartbeats 1000000 in
theorem fixRounds_in (n d : Int) (w : World) (h1 : -4611686018427387904 ≤ n) (h2 : n ≤ 4611686018427387904) (h3 : 1 ≤ d) (h4 : d ≤ 4611686018427387904) :
    Calls Try.prog 3 #[.int .i64 n, .int .i64 d] w fun e w' => e = .returned (.bool true) ∧ Below w.heap.size w w' := by
  have t1 : decide (d < 1) = false := by simp; omega
  have t2 : decide (4611686018427387904 < d) = false := by simp; omega
  have t3 : decide (n < -4611686018427387904) = false := by simp; omega
  have t4 : decide (4611686018427387904 < n) = false := by simp; omega
  have H1 := Lib.hid (round_any n d w h1 h2 h3 h4)
  have H2 := Lib.hid (fun w => dround_any n d w h1 h2 h3 h4)
  obtain ⟨g1, g2⟩ := rnd_facts n d h3
  obtain ⟨q, hq⟩ : ∃ q, rnd n d = q := ⟨_, rfl⟩
  rw [hq] at H1 H2 g1 g2
  obtain ⟨m, hm⟩ : ∃ m, q * d = m := ⟨_, rfl⟩
  rw [hm] at g1 g2
  have g5 : -9223372036854775808 ≤ m ∧ m ≤ 9223372036854775807 := by omega
  have g6 : -9223372036854775808 ≤ n - m ∧ n - m ≤ 9223372036854775807 := by omega
  have g7 : -9223372036854775808 ≤ d - (n - m) ∧ d - (n - m) ≤ 9223372036854775807 := by omega
  have t5 : (q != q) = false := by simp
  have t6 : decide (-(d / 2) ≤ n - m) = true := by simpa using g1
  have t7 : decide (n - m < d - (n - m)) = true := by simpa using g2
  have q1 : wrap64 m = m := IntWalk.wrap64_in _ g5
  have q2 : wrap64 (n - m) = n - m := IntWalk.wrap64_in _ g6
  have q3 : wrap64 (d - (n - m)) = d - (n - m) := IntWalk.wrap64_in _ g7
  clear hq g1 g2 g5 g6 g7
  go_enter Try.func3, Try.ntmps3
  go_wp2_with (fail)
  refine H1.out.mono ?_
  rintro e w' ⟨rfl, k, rfl⟩
  go_wp2_with (fail)
  refine (H2.out _).mono ?_
  rintro e w' ⟨rfl, rfl⟩
  go_wp2_with (fail)
  refine (awake_any _).mono ?_
  rintro e w' ⟨rfl, hb⟩
  have B : Hid (Below w.heap.size w w') := (Below.drewN' (Below.refl _ _) _).trans (hb.mono (Nat.le_refl _))
  clear hb
  go_wp2_with (fail)
  go_ret
  exact ⟨rfl, B.out⟩
theorem fixRounds_walk (n d : Int) (w : World) : Calls Try.prog 3 #[.int .i64 n, .int .i64 d] w fun e w' => e = .returned (.bool true) ∧ Below w.heap.size w w' := by
  by_cases h : d < 1 ∨ 4611686018427387904 < d ∨ n < -4611686018427387904 ∨ 4611686018427387904 < n
  · exact fixRounds_out n d w h
  · exact fixRounds_in n d w (by omega) (by omega) (by omega) (by omega)

theorem allR_two (a b : Int) : allR [a, b] = (rightB a && rightB b) := by simp [allR]
set_option maxHeartbeats 1000000 in
theorem fixMuls_no (a b : Int) (w : World) (h : (rightB a && rightB b) = false) : Calls Try.prog 4 #[.int .i64 a, .int .i64 b] w fun e w' => e = .returned (.bool true) ∧ Below w.heap.size w w' := by
  have R1 : Hid (allR [a, b] = false) := by show _ = _; rw [allR_two, h]
  have R2 : Hid (allR [b, a] = false) := by show _ = _; rw [allR_two, Bool.and_comm, h]
  have HA := Lib.hid (dright_any a w)
  have HB := Lib.hid (dright_any b w)
  cases ha : rightB a with
  | false =>
    rw [ha] at HA
    clear ha h HB
    go_enter Try.func4, Try.ntmps4
    go_wp2_with (fail)
    refine HA.out.mono ?_
    rintro e w' ⟨rfl, rfl⟩
    go_wp2_with (fail)
    refine (right_any _ [a, b] 2 _ (row_new' _ [a, b] 2 (by simp)) (Nat.le_refl 2) (by decide)).mono ?_
    rw [R1.out]
    rintro e w' ⟨rfl, rfl⟩
    go_wp2_with (fail)
    refine (right_any _ [b, a] 2 _ (row_new' _ [b, a] 2 (by simp)) (Nat.le_refl 2) (by decide)).mono ?_
    rw [R2.out]
    rintro e w' ⟨rfl, rfl⟩
    go_wp2_with (fail)
    refine (awake_any _).mono ?_
    rintro e w' ⟨rfl, hb⟩
    have B : Hid (Below w.heap.size w w') := (Below.alloc (Below.alloc (Below.refl _ _) (Nat.le_refl _) _) (by simp) _).trans (hb.mono (by simp; omega))
    clear hb
    go_wp2_with (fail)
    go_ret
    exact ⟨rfl, B.out⟩
  | true =>
    rw [ha] at HA
    have hb : rightB b = false := by rw [ha] at h; simpa using h
    rw [hb] at HB
    clear ha h hb
    go_enter Try.func4, Try.ntmps4
    go_wp2_with (fail)
    refine HA.out.mono ?_
    rintro e w' ⟨rfl, rfl⟩
    go_wp2_with (fail)
    refine HB.out.mono ?_
    rintro e w' ⟨rfl, rfl⟩
    go_wp2_with (fail)
    refine (right_any _ [a, b] 2 _ (row_new' _ [a, b] 2 (by simp)) (Nat.le_refl 2) (by decide)).mono ?_
    rw [R1.out]
    rintro e w' ⟨rfl, rfl⟩
    go_wp2_with (fail)
    refine (right_any _ [b, a] 2 _ (row_new' _ [b, a] 2 (by simp)) (Nat.le_refl 2) (by decide)).mono ?_
    rw [R2.out]
    rintro e w' ⟨rfl, rfl⟩
    go_wp2_with (fail)
    refine (awake_any _).mono ?_
    rintro e w' ⟨rfl, hb⟩
    have B : Hid (Below w.heap.size w w') := (Below.alloc (Below.alloc (Below.refl _ _) (Nat.le_refl _) _) (by simp) _).trans (hb.mono (by simp; omega))
    clear hb
    go_wp2_with (fail)
    go_ret
    exact ⟨rfl, B.out⟩
set_option maxRecDepth 100000 in
set_option maxHeartbeats 2000000 in
theorem fixMuls_yes (a b : Int) (w : World) (h1 : -1073741824 ≤ a) (h2 : a ≤ 1073741824) (h3 : -1073741824 ≤ b) (h4 : b ≤ 1073741824) :
    Calls Try.prog 4 #[.int .i64 a, .int .i64 b] w fun e w' => e = .returned (.bool true) ∧ Below w.heap.size w w' := by
  have R1 : Hid (allR [a, b] = true) := by show _ = _; rw [allR_two, rightB_yes h1 h2, rightB_yes h3 h4]; rfl
  have HA := Lib.hid (dright_any a w)
  have HB := Lib.hid (dright_any b w)
  rw [rightB_yes h1 h2] at HA
  rw [rightB_yes h3 h4] at HB
  have HF := Lib.hid (fun w => floor_any a w (by omega) (by omega))
  have HC := Lib.hid (fun w => ceil_any a w (by omega) (by omega))
  have HDF := Lib.hid (fun w => dfloor_any a 65536 w (by omega) (by omega) (by omega) (by omega))
  have HM1 := Lib.hid (fun w => mul_any a b w h1 h2 h3 h4)
  have HM2 := Lib.hid (fun w => mul_any b a w h3 h4 h1 h2)
  have HM3 := Lib.hid (fun w => dmul_any a b w h1 h2 h3 h4)
  rw [Int.mul_comm b a] at HM2
  generalize rnd (a * b) 65536 = M at HM1 HM2 HM3
  have f1 : a / 65536 * 65536 ≤ a ∧ a ≤ ceilI a * 65536 ∧ ceilI a - a / 65536 ≤ 1 ∧ (a / 65536 * 65536 ≤ 9223372036854775807 ∧ -9223372036854775808 ≤ a / 65536 * 65536 ∧ -9223372036854775808 ≤ ceilI a * 65536 ∧ ceilI a * 65536 ≤ 9223372036854775807 ∧ ceilI a - a / 65536 ≤ 9223372036854775807 ∧ -9223372036854775808 ≤ ceilI a - a / 65536) := by unfold ceilI; split <;> omega
  have f2 : (ceilI a == a / 65536) = (a.tmod 65536 == 0) := by
    have ht := Int.tmod_eq_emod (a := a) (b := 65536)
    have hdv : (65536 ∣ a) ↔ a % 65536 = 0 := ⟨Int.emod_eq_zero_of_dvd, Int.dvd_of_emod_eq_zero⟩
    rw [Bool.eq_iff_iff, beq_iff_eq, beq_iff_eq]
    unfold ceilI
    by_cases hm : a % 65536 = 0
    · rw [if_neg (by omega)]
      simp only [hdv.2 hm, or_true, if_true] at ht
      omega
    · rw [if_pos (by omega)]
      have : ¬ 65536 ∣ a := fun h => hm (hdv.1 h)
      simp only [this, or_false] at ht
      split at ht
      · omega
      · have : (65536 : Int).sign = 1 := rfl
        omega
  obtain ⟨F, hF⟩ : ∃ F, a / 65536 = F := ⟨_, rfl⟩
  obtain ⟨C, hC⟩ : ∃ C, ceilI a = C := ⟨_, rfl⟩
  rw [hF] at f1 f2 HF HDF
  rw [hC] at f1 f2 HC
  obtain ⟨f3, f4, f5, f6, f7, f8, f9, f10, f11⟩ := f1
  have q1 : wrap64 (F * 65536) = F * 65536 := IntWalk.wrap64_in _ ⟨f7, f6⟩
  have q2 : wrap64 (C * 65536) = C * 65536 := IntWalk.wrap64_in _ ⟨f8, f9⟩
  have q3 : wrap64 (C - F) = C - F := IntWalk.wrap64_in _ ⟨f11, f10⟩
  have t1 : decide (F * 65536 ≤ a) = true := by simpa using f3
  have t2 : decide (a ≤ C * 65536) = true := by simpa using f4
  have t3 : decide (C - F ≤ 1) = true := by simpa using f5
  have t4 : (M == M) = true := by simp
  have t5 : (F == F) = true := by simp
  have t6 : ((C == F) == (a.tmod 65536 == 0)) = true := by rw [f2]; simp
  clear hF hC f3 f4 f5 f6 f7 f8 f9 f10 f11 f2
  go_enter Try.func4, Try.ntmps4
  go_wp2_with (fail)
  refine HA.out.mono ?_
  rintro e w' ⟨rfl, rfl⟩
  go_wp2_with (fail)
  refine HB.out.mono ?_
  rintro e w' ⟨rfl, rfl⟩
  go_wp2_with (fail)
  refine (HF.out _).mono ?_
  rintro e w' ⟨rfl, k1, rfl⟩
  go_wp2_with (fail)
  refine (HC.out _).mono ?_
  rintro e w' ⟨rfl, k2, rfl⟩
  go_wp2_with (fail)
  refine (right_any _ [a, b] 2 _ (row_new' _ [a, b] 2 (by simp)) (Nat.le_refl 2) (by decide)).mono ?_
  rw [R1.out]
  rintro e w' ⟨rfl, rfl⟩
  go_wp2_with (fail)
  refine (HM1.out _).mono ?_
  rintro e w1 ⟨rfl, hb⟩
  have B1 : Hid (Below w.heap.size w w1) := (Below.alloc (Below.drewN' (Below.refl _ _) _) (Nat.le_refl _) _).trans (hb.mono (by simp))
  clear hb
  go_wp2_with (fail)
  refine (HM3.out _).mono ?_
  rintro e w' ⟨rfl, rfl⟩
  go_wp2_with (fail)
  refine (HM2.out _).mono ?_
  rintro e w2 ⟨rfl, hb⟩
  have B2 : Hid (Below w.heap.size w w2) := B1.out.trans (hb.mono B1.out.size)
  clear hb B1
  go_wp2_with (fail)
  refine (HM1.out _).mono ?_
  rintro e w3 ⟨rfl, hb⟩
  have B3 : Hid (Below w.heap.size w w3) := B2.out.trans (hb.mono B2.out.size)
  clear hb B2
  go_wp2_with (fail)
  refine (HDF.out _).mono ?_
  rintro e w' ⟨rfl, rfl⟩
  go_wp2_with (fail)
  refine (awake_any _).mono ?_
  rintro e w4 ⟨rfl, hb⟩
  have B4 : Hid (Below w.heap.size w w4) := B3.out.trans (hb.mono B3.out.size)
  clear hb B3
  go_wp2_with (fail)
  go_ret
  exact ⟨rfl, B4.out⟩
theorem fixMuls_walk (a b : Int) (w : World) : Calls Try.prog 4 #[.int .i64 a, .int .i64 b] w fun e w' => e = .returned (.bool true) ∧ Below w.heap.size w w' := by
  by_cases h : (rightB a && rightB b) = true
  · rw [Bool.and_eq_true] at h
    exact fixMuls_yes a b w (rightB_of h.1).1 (rightB_of h.1).2 (rightB_of h.2).1 (rightB_of h.2).2
  · exact fixMuls_no a b w (by simpa using h)

theorem rnd_whole (z : Int) : rnd (z * 65536) 65536 = z := by
  have g := Int.mul_emod_left z 65536
  have g2 := Int.mul_ediv_cancel z (show (65536 : Int) ≠ 0 by decide)
  unfold rnd
  rw [if_neg (by omega), g2]
theorem dot_whole {n a : Int} (h1 : -16384 ≤ n) (h2 : n ≤ 16384) (h3 : -1073741824 ≤ a) (h4 : a ≤ 1073741824) :
    dotB [n * 65536, a] = rightB (n * a) ∧ (rightB (n * a) = true → dotV [n * 65536, a] = n * a) := by
  have hd : dots [n * 65536, a] = n * a * 65536 := by
    show n * 65536 * a + 0 = _
    rw [Int.mul_right_comm]
    omega
  have hr : allR [n * 65536, a] = true := by rw [allR_two, rightB_yes (by omega) (by omega), rightB_yes h3 h4]; rfl
  unfold dotB dotV
  rw [hd, rnd_whole, hr]
  refine ⟨by simp, fun h => ?_⟩
  rw [if_pos ⟨by simp, rfl, h⟩]
theorem na_bd {n a : Int} (h1 : -16384 ≤ n) (h2 : n ≤ 16384) (h3 : -1073741824 ≤ a) (h4 : a ≤ 1073741824) : -1152921504606846976 ≤ n * a ∧ n * a ≤ 1152921504606846976 :=
  prod_bd (by omega) (by omega) h3 h4

set_option maxHeartbeats 1000000 in
theorem fixWhole_no (n a : Int) (w : World) (i1 : -9223372036854775808 ≤ n) (i2 : n ≤ 9223372036854775807) (h : ¬ (-16384 ≤ n ∧ n ≤ 16384)) :
    Calls Try.prog 6 #[.int .i64 n, .int .i64 a] w fun e w' => e = .returned (.bool true) ∧ Below w.heap.size w w' := by
  have HO := Lib.hid (of_any n w i1 i2)
  rw [if_neg h, decide_eq_false h] at HO
  by_cases h1 : -16384 ≤ n
  · have t1 : decide (-16384 ≤ n) = true := by simpa using h1
    have t2 : decide (n ≤ 16384) = false := by simp; omega
    clear h h1
    go_enter Try.func6, Try.ntmps6
    go_wp2_with (fail)
    refine HO.out.mono ?_
    rintro e w' ⟨rfl, k1, rfl⟩
    go_wp2_with (fail)
    refine (awake_any _).mono ?_
    rintro e w1 ⟨rfl, hb⟩
    have B1 : Hid (Below w.heap.size w w1) := (Below.drewN' (Below.refl _ _) _).trans (hb.mono (Nat.le_refl _))
    clear hb
    go_wp2_with (fail)
    go_ret
    exact ⟨rfl, B1.out⟩
  · have t1 : decide (-16384 ≤ n) = false := by simpa using h1
    clear h h1
    go_enter Try.func6, Try.ntmps6
    go_wp2_with (fail)
    refine HO.out.mono ?_
    rintro e w' ⟨rfl, k1, rfl⟩
    go_wp2_with (fail)
    refine (awake_any _).mono ?_
    rintro e w1 ⟨rfl, hb⟩
    have B1 : Hid (Below w.heap.size w w1) := (Below.drewN' (Below.refl _ _) _).trans (hb.mono (Nat.le_refl _))
    clear hb
    go_wp2_with (fail)
    go_ret
    exact ⟨rfl, B1.out⟩
set_option maxRecDepth 100000 in
set_option maxHeartbeats 2000000 in
theorem fixWhole_yes (n a : Int) (w : World) (h1 : -16384 ≤ n) (h2 : n ≤ 16384) :
    Calls Try.prog 6 #[.int .i64 n, .int .i64 a] w fun e w' => e = .returned (.bool true) ∧ Below w.heap.size w w' := by
  have HO := Lib.hid (of_any n w (by omega) (by omega))
  rw [if_pos ⟨h1, h2⟩, decide_eq_true (⟨h1, h2⟩ : -16384 ≤ n ∧ n ≤ 16384)] at HO
  have t1 : decide (-16384 ≤ n) = true := by simpa using h1
  have t2 : decide (n ≤ 16384) = true := by simpa using h2
  cases ha : rightB a with
  | false =>
    have HR := Lib.hid (fun w => dright_any a w)
    rw [ha] at HR
    clear ha
    go_enter Try.func6, Try.ntmps6
    go_wp2_with (fail)
    refine HO.out.mono ?_
    rintro e w' ⟨rfl, k1, rfl⟩
    go_wp2_with (fail)
    refine (HR.out _).mono ?_
    rintro e w' ⟨rfl, rfl⟩
    go_wp2_with (fail)
    refine (awake_any _).mono ?_
    rintro e w1 ⟨rfl, hb⟩
    have B1 : Hid (Below w.heap.size w w1) := (Below.drewN' (Below.refl _ _) _).trans (hb.mono (Nat.le_refl _))
    clear hb
    go_wp2_with (fail)
    go_ret
    exact ⟨rfl, B1.out⟩
  | true =>
    have HR := Lib.hid (fun w => dright_any a w)
    rw [ha] at HR
    obtain ⟨h3, h4⟩ := rightB_of ha
    obtain ⟨hd1, hd2⟩ := dot_whole h1 h2 h3 h4
    obtain ⟨b1, b2⟩ := na_bd h1 h2 h3 h4
    have HD1 := Lib.hid hd1
    have HD2 := Lib.hid hd2
    have HF := Lib.hid (fun w => floor_any (n * 65536) w (by omega) (by omega))
    have HC := Lib.hid (fun w => ceil_any (n * 65536) w (by omega) (by omega))
    have HM := Lib.hid (fun w => mul_any (n * 65536) a w (by omega) (by omega) h3 h4)
    have e1 : n * 65536 / 65536 = n := Int.mul_ediv_cancel n (by decide)
    have e2 : ceilI (n * 65536) = n := by unfold ceilI; rw [if_neg (by omega)]; exact e1
    have e3 : rnd (n * 65536 * a) 65536 = n * a := by rw [Int.mul_right_comm, rnd_whole]
    rw [e1] at HF
    rw [e2] at HC
    rw [e3] at HM
    have HZ := Lib.hid (fun w => dright_any (n * a) w)
    obtain ⟨z, hz⟩ : ∃ z, n * a = z := ⟨_, rfl⟩
    rw [hz] at HD1 HD2 HM HZ b1 b2
    have q1 : wrap64 z = z := IntWalk.wrap64_in _ (by omega)
    have q2 : wrap64 (n * 65536) = n * 65536 := IntWalk.wrap64_in _ (by omega)
    have q3 : wrap64 n = n := IntWalk.wrap64_in _ (by omega)
    have t3 : (z == z) = true := by simp
    have t4 : (n == n) = true := by simp
    have t5 : (n * 65536 == n * 65536) = true := by simp
    have t6 : (z != z) = false := by simp
    clear ha hd1 hd2 e1 e2 e3
    go_enter Try.func6, Try.ntmps6
    go_wp2_with (fail)
    refine HO.out.mono ?_
    rintro e w' ⟨rfl, k1, rfl⟩
    go_wp2_with (fail)
    refine (HR.out _).mono ?_
    rintro e w' ⟨rfl, rfl⟩
    go_wp2_with (fail)
    refine (dot_any _ [n * 65536, a] 2 _ (row_new' _ [n * 65536, a] 2 (by simp)) (Nat.le_refl 2) (by decide)).mono ?_
    rintro e w1 ⟨rfl, hb⟩
    have B1 : Hid (Below w.heap.size w w1) := (Below.alloc (Below.drewN' (Below.refl _ _) _) (Nat.le_refl _) _).trans (hb.mono (by simp))
    clear hb
    rw [HD1.out]
    cases hx : rightB z with
    | true =>
      rw [HD2.out hx]
      rw [hx] at HZ
      clear hx
      go_wp2_with (fail)
      refine (HZ.out _).mono ?_
      rintro e w' ⟨rfl, rfl⟩
      go_wp2_with (fail)
      refine (HF.out _).mono ?_
      rintro e w' ⟨rfl, k2, rfl⟩
      go_wp2_with (fail)
      refine (HC.out _).mono ?_
      rintro e w' ⟨rfl, k3, rfl⟩
      go_wp2_with (fail)
      refine (HM.out _).mono ?_
      rintro e w2 ⟨rfl, hb⟩
      have B2 : Hid (Below w.heap.size w w2) := (Below.drewN' B1.out _).trans (hb.mono B1.out.size)
      clear hb B1
      go_wp2_with (fail)
      refine (awake_any _).mono ?_
      rintro e w3 ⟨rfl, hb⟩
      have B3 : Hid (Below w.heap.size w w3) := B2.out.trans (hb.mono B2.out.size)
      clear hb B2
      go_wp2_with (fail)
      go_ret
      exact ⟨rfl, B3.out⟩
    | false =>
      rw [hx] at HZ
      clear hx
      generalize dotV [n * 65536, a] = y
      go_wp2_with (fail)
      refine (HZ.out _).mono ?_
      rintro e w' ⟨rfl, rfl⟩
      go_wp2_with (fail)
      refine (HF.out _).mono ?_
      rintro e w' ⟨rfl, k2, rfl⟩
      go_wp2_with (fail)
      refine (HC.out _).mono ?_
      rintro e w' ⟨rfl, k3, rfl⟩
      go_wp2_with (fail)
      refine (HM.out _).mono ?_
      rintro e w2 ⟨rfl, hb⟩
      have B2 : Hid (Below w.heap.size w w2) := (Below.drewN' B1.out _).trans (hb.mono B1.out.size)
      clear hb B1
      go_wp2_with (fail)
      refine (awake_any _).mono ?_
      rintro e w3 ⟨rfl, hb⟩
      have B3 : Hid (Below w.heap.size w w3) := B2.out.trans (hb.mono B2.out.size)
      clear hb B2
      go_wp2_with (fail)
      go_ret
      exact ⟨rfl, B3.out⟩
theorem fixWhole_walk (n a : Int) (w : World) (i1 : -9223372036854775808 ≤ n) (i2 : n ≤ 9223372036854775807) : Calls Try.prog 6 #[.int .i64 n, .int .i64 a] w fun e w' => e = .returned (.bool true) ∧ Below w.heap.size w w' := by
  by_cases h : -16384 ≤ n ∧ n ≤ 16384
  · exact fixWhole_yes n a w h.1 h.2
  · exact fixWhole_no n a w i1 i2 h
/-! ### As the rows want them -/
theorem fixRounds_w (a b : Int) (w : World) (_ : -9223372036854775808 ≤ a) (_ : a ≤ 9223372036854775807) (_ : -9223372036854775808 ≤ b) (_ : b ≤ 9223372036854775807) : Calls Try.prog 3 #[.int .i64 a, .int .i64 b] w fun e w' => e = .returned (.bool true) ∧ Below w.heap.size w w' := fixRounds_walk a b w
theorem fixMuls_w (a b : Int) (w : World) (_ : -9223372036854775808 ≤ a) (_ : a ≤ 9223372036854775807) (_ : -9223372036854775808 ≤ b) (_ : b ≤ 9223372036854775807) : Calls Try.prog 4 #[.int .i64 a, .int .i64 b] w fun e w' => e = .returned (.bool true) ∧ Below w.heap.size w w' := fixMuls_walk a b w
theorem fixWhole_w (a b : Int) (w : World) (h1 : -9223372036854775808 ≤ a) (h2 : a ≤ 9223372036854775807) (_ : -9223372036854775808 ≤ b) (_ : b ≤ 9223372036854775807) : Calls Try.prog 6 #[.int .i64 a, .int .i64 b] w fun e w' => e = .returned (.bool true) ∧ Below w.heap.size w w' := fixWhole_walk a b w h1 h2
end Go.Proofs.Yteomackicpcmgaa
