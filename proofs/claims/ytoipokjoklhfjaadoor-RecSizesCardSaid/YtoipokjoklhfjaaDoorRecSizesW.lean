/-
  The walk of the law RecSizes.
-/
import Derived.Test.YtoipokjoklhfjaaDoorRcH
namespace Go.Proofs.YtoipokjoklhfjaaDoor
open Go.RowKit numb

theorem uint_div {x : Nat} (h : 128 ≤ x) : (uint x).length = (uint (x / 128)).length + 1 := by rw [uint_big h, List.length_cons]
set_option maxRecDepth 100000 in
set_option maxHeartbeats 1000000 in
theorem sizes_walk (n : Int) (w : World) (i1 : -9223372036854775808 ≤ n) (i2 : n ≤ 9223372036854775807) (ht : TabAt w) :
    Calls Tryd.prog 7 #[.int .i64 n] w fun e w' => e = .returned (.bool true) ∧ Below w.heap.size w w' := by
  have HT := Lib.hid ht
  have HS := Lib.hid (size_any n w i1 i2)
  clear ht
  by_cases hr : n < 0 ∨ 1048576 < n
  · have he : sizeI n = 0 := by unfold sizeI; rw [if_pos hr]
    rw [he] at HS
    clear he
    by_cases h0 : n < 0
    · have t0 : decide (n < 0) = true := by simpa using h0
      clear hr h0
      go_enter Tryd.func7, Tryd.ntmps7
      go_wp2_with (fail)
      refine HS.out.mono ?_
      rintro e w1 ⟨rfl, hb⟩
      have B1 := Lib.hid hb
      clear hb
      go_wp2_with (fail)
      refine (awake_any w1 (tab_below HT.out B1.out)).mono ?_
      rintro e w2 ⟨rfl, hb⟩
      have B2 := Lib.hid (B1.out.trans (hb.mono B1.out.size))
      clear hb
      go_wp2_with (fail)
      go_ret
      exact ⟨rfl, B2.out⟩
    · have t0 : decide (n < 0) = false := by simpa using h0
      have t1 : decide (1048576 < n) = true := by simp; omega
      clear hr h0
      go_enter Tryd.func7, Tryd.ntmps7
      go_wp2_with (fail)
      refine HS.out.mono ?_
      rintro e w1 ⟨rfl, hb⟩
      have B1 := Lib.hid hb
      clear hb
      go_wp2_with (fail)
      refine (awake_any w1 (tab_below HT.out B1.out)).mono ?_
      rintro e w2 ⟨rfl, hb⟩
      have B2 := Lib.hid (B1.out.trans (hb.mono B1.out.size))
      clear hb
      go_wp2_with (fail)
      go_ret
      exact ⟨rfl, B2.out⟩
  · obtain ⟨m, rfl⟩ := Int.eq_ofNat_of_zero_le (show 0 ≤ n by omega)
    have hm : m ≤ 1048576 := by omega
    have he : sizeI (m : Int) = ((uint m).length : Int) + 1 + m + 4 := by unfold sizeI; rw [if_neg hr]; rfl
    have t0 : decide ((m : Int) < 0) = false := by simp
    have t1 : decide ((1048576 : Int) < (m : Int)) = false := by simp; omega
    have hu := uint_length_le (v := m) (k := 10) (by omega) (by omega)
    have hmi : (m : Int) ≤ 1048576 := by omega
    have HE : Hid (((uint m).length : Int) + 1 + m + 4 = (m : Int) + ((uint m).length : Nat) + 5) := by show _ = _; omega
    rw [he, HE.out] at HS
    obtain ⟨u, hum⟩ : ∃ u, u = (uint m).length := ⟨_, rfl⟩
    rw [← hum] at HS hu
    have HU := Lib.hid hu
    have HM := Lib.hid hum
    clear hr he hu i1 i2 HE hum
    go_enter Tryd.func7, Tryd.ntmps7
    go_wp2_with (fail)
    refine HS.out.mono ?_
    rintro e w1 ⟨rfl, hb⟩
    have B1 := Lib.hid hb
    clear hb
    go_wp2_with (fail)
    go_loop [4, 5] (fun d x => ∃ (j y : Nat), y ≤ 1048576 ∧ j ≤ 10 ∧ d = .int .i64 j ∧ x = .int .i64 y ∧ Hid (j + (uint y).length = u + 1)) (fun _ x => (intOf x).toNat)
    case atStart => exact ⟨1, m, hm, by omega, rfl, rfl, by show _ = _; rw [HM.out]; omega⟩
    case round =>
      obtain ⟨j, y, hy, hj, rfl, rfl, HJ⟩ := hrel
      by_cases h128 : 128 ≤ y
      · have hd := uint_div h128
        have hp := uint_pos (y / 128)
        have HJ2 : Hid (j + 1 + (uint (y / 128)).length = u + 1) := by have := HJ.out; show _ = _; omega
        have hj2 : (j : Int) + 1 ≤ 10 := by have := HJ.out; have := HU.out; omega
        have hyi : (128 : Int) ≤ (y : Int) := by omega
        have hyl : (y : Int) ≤ 1048576 := by omega
        clear hd hp h128 HJ
        go_wp2_with (fail)
        go_round
        case rel => exact ⟨j + 1, y / 128, by omega, by omega, by go_num, by go_num, HJ2⟩
        case measure => simp [intOf]; omega
      · have h1 : j = u := by
          have := HJ.out
          rw [uint_small (by omega), List.length_singleton] at this
          omega
        have hyi : (y : Int) < 128 := by omega
        have t2 : ((m : Int) + (j : Int) + 5 == (m : Int) + (j : Int) + 5) = true := by simp
        have hji : (j : Int) ≤ 10 := by omega
        clear h128 HJ hy hj
        subst h1
        go_wp2_with (fail)
        refine (awake_any _ (tab_below HT.out B1.out)).mono ?_
        rintro e w2 ⟨rfl, hb⟩
        have B2 := Lib.hid (B1.out.trans (hb.mono B1.out.size))
        clear hb
        go_wp2_with (fail)
        go_ret
        exact ⟨rfl, B2.out⟩
end Go.Proofs.YtoipokjoklhfjaaDoor
