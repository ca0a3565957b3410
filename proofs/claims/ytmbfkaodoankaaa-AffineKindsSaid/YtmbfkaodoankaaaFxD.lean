/-
  Layer 5: the document's own sum of products.
-/
import Derived.Test.YtmbfkaodoankaaaFxC
namespace Go.Proofs.Ytmbfkaodoankaaa
open Go.RowKit

/-! ### The document's own: places are gone through -/
theorem half_at {l : List Int} {i : Nat} (hi : i = 2 * (i / 2)) (hle : i ≤ l.length + 1) (h8 : l.length ≤ 8) (hr : allR l = true) {P : Int} (hP : P = dots l - dots (l.drop i)) :
    -4611686018427387904 ≤ P ∧ P ≤ 4611686018427387904 := by
  by_cases h : i ≤ l.length
  · have := dots_part hi h8 h hr
    omega
  · have := dots_part (k := 0) (j := 0) rfl h8 (by omega) hr
    rw [dots_none (by omega)] at hP
    omega

set_option maxRecDepth 100000 in
set_option maxHeartbeats 1000000 in
theorem ddot_any (A : Option Addr) (l : List Int) (c : Nat) (w : World) (hr : Row eI w A l) (h1 : l.length ≤ c) (h2 : c ≤ 9223372036854775807) :
    Calls Try.prog 27 #[.slice A l.length c] w fun e w' => e = .returned (.tuple #[.int .i64 (dotV l), .bool (dotB l)]) ∧ Drew w w' := by
  have HRow := Lib.hid hr
  clear hr
  by_cases h8 : 8 < l.length
  · have t : decide (8 < (l.length : Int)) = true := by simp; omega
    have HF := Lib.hid (dot_big h8)
    clear h8
    go_enter Try.func27, Try.ntmps27
    go_wp2_with (fail)
    go_ret2
    exact ⟨ret_ib HF.out.1.symm HF.out.2.symm, Drew.refl _⟩
  have t : decide (8 < (l.length : Int)) = false := by simp; omega
  have H8 : Hid (l.length ≤ 8) := by show _ ≤ _; omega
  clear h8
  go_enter Try.func27, Try.ntmps27
  go_wp2_with (fail)
  go_loop [5] (fun i => ∃ k : Nat, k ≤ l.length ∧ i = .int .i64 k ∧ Hid (allR (l.take k) = true)) (fun i => l.length - (intOf i).toNat)
  case atStart => exact ⟨0, Nat.zero_le _, rfl, by simp [Hid, allR]⟩
  case round =>
    obtain ⟨k, hk, rfl, HK⟩ := hrel
    by_cases hlt : k < l.length
    · obtain ⟨b, off, rfl, hc⟩ := HRow.out.at_ hlt
      unfold eI at hc
      have HL := Lib.hid (allR_snoc HK.out hlt)
      have HN := Lib.hid (allR_bad (l := l) hlt)
      generalize l[k] = x at *
      cases hx : rightB x with
      | true =>
        have HX := Lib.hid hx
        rw [hx] at HL
        have HB := Lib.hid (HL.out rfl)
        clear HL HN hx
        go_wp2_with (fail)
        refine (dright_any x w).mono ?_
        rw [HX.out]
        rintro e w' ⟨rfl, rfl⟩
        go_wp2_with (fail)
        go_round
        case rel => exact ⟨k + 1, by omega, by go_num, HB⟩
        case measure => simp [intOf]; omega
      | false =>
        have HX := Lib.hid hx
        rw [hx] at HN
        have HF := Lib.hid (dot_wrong (HN.out rfl))
        clear HL HN hx
        go_wp2_with (fail)
        refine (dright_any x w).mono ?_
        rw [HX.out]
        rintro e w' ⟨rfl, rfl⟩
        go_wp2_with (fail)
        go_ret2
        exact ⟨ret_ib HF.out.1.symm HF.out.2.symm, Drew.refl _⟩
    · have HA := Lib.hid (allR_take HK.out (by omega))
      obtain rfl : k = l.length := by omega
      clear HK hlt hk
      go_wp2_with (fail)
      go_loopw [4, 6] (fun s i wr => ∃ (k : Nat) (P : Int), k ≤ l.length + 1 ∧ i = .int .i64 k ∧ s = .int .i64 P ∧ Hid (k = 2 * (k / 2)) ∧ Hid (P = dots l - dots (l.drop k)) ∧ Hid (Drew w wr))
        (fun _ i _ => l.length + 1 - (intOf i).toNat)
      case atStart => exact ⟨0, 0, Nat.zero_le _, rfl, rfl, rfl, by simp [Hid], Drew.refl w⟩
      case round =>
        obtain ⟨k, P, hk, rfl, rfl, HK, HP, hw⟩ := hrel
        obtain ⟨p1, p2⟩ := half_at HK.out hk H8.out HA.out HP.out
        obtain ⟨m0, rfl⟩ := hw.out
        have HL8 := H8.out
        by_cases hlt : k < l.length
        · obtain ⟨b, off, rfl, hc⟩ := HRow.out.at_ hlt
          unfold eI at hc
          have hx := allR_at HA.out hlt
          by_cases hlt2 : k + 1 < l.length
          · have hy := allR_at HA.out hlt2
            have hs := dots_two hlt2
            obtain ⟨b', off', e, hc2⟩ := HRow.out.at_ hlt2
            simp only [Option.some.injEq, Addr.mk.injEq, and_true] at e
            obtain ⟨rfl, rfl⟩ := e
            unfold eI at hc2
            generalize l[k] = x at *
            generalize l[k + 1] = y at *
            obtain ⟨p3, p4⟩ := prod_bd hx.1 hx.2 hy.1 hy.2
            obtain ⟨M, hM⟩ : ∃ M, x * y = M := ⟨_, rfl⟩
            rw [hM] at p3 p4 hs
            have HP2 : Hid (P + M = dots l - dots (l.drop (k + 2))) := by have := HP.out; show _ = _; omega
            have HK2 : Hid (k + 2 = 2 * ((k + 2) / 2)) := by have := HK.out; show _ = _; omega
            obtain ⟨p5, p6⟩ := half_at HK2.out (by omega) H8.out HA.out HP2.out
            have t1 : decide ((k : Int) < (l.length : Int)) = true := by simp; omega
            have t2 : decide ((k : Int) + 1 < (l.length : Int)) = true := by simp; omega
            have hk0 : (k : Int) < (l.length : Int) := by omega
            have HLT : Hid (k + 1 < l.length) := hlt2
            have g4 : (k : Int) < (l.length : Int) ∧ (k : Int) + 1 < (l.length : Int) := by omega
            have G4 := Lib.hid g4
            have G7 : Hid (((k : Int) + 1).toNat = k + 1) := by show _ = _; omega
            have G1 : Hid (wrap64 M = M ∧ IntKind.i64.wrap M = M) := ⟨IntWalk.wrap64_in _ (by omega), IntWalk.i64_in _ (by omega)⟩
            have G2 : Hid (wrap64 (P + M) = P + M ∧ IntKind.i64.wrap (P + M) = P + M) := ⟨IntWalk.wrap64_in _ (by omega), IntWalk.i64_in _ (by omega)⟩
            have hk1 := g4.2
            clear g4
            clear hs hx hy HP HK hlt hlt2 hk0 hk HL8
            go_wp2_with (fail)
            obtain ⟨q1, q2⟩ := G1.out
            obtain ⟨q3, q4⟩ := G2.out
            have q7 := G7.out
            have hk0 := G4.out.1
            go_quiet (fail)
            clear q1 q2 q3 q4 q7 hk0 hk1
            have hkl : (k : Int) ≤ 10 := by have := HLT.out; have := H8.out; omega
            go_wp2_with (fail)
            go_roundw
            have hlt := HLT.out
            case rel => exact ⟨k + 2, _, by omega, by go_num, rfl, HK2, HP2, (Drew.refl w).more _⟩
            case measure => simp [intOf]; omega
          · have hs := dots_last (l := l) (k := k) (by omega)
            have hl := Lib.hid hlt
            generalize l[k] = x at *
            have p3 : -70368744177664 ≤ x * 65536 ∧ x * 65536 ≤ 70368744177664 := by omega
            have HP2 : Hid (P + x * 65536 = dots l - dots (l.drop (k + 2))) := by
              have := HP.out
              have h0 := dots_none (l := l) (k := k + 2) (by omega)
              show _ = _
              omega
            have HK2 : Hid (k + 2 = 2 * ((k + 2) / 2)) := by have := HK.out; show _ = _; omega
            obtain ⟨p5, p6⟩ := half_at HK2.out (by omega) H8.out HA.out HP2.out
            have t2 : decide ((k : Int) + 1 < (l.length : Int)) = false := by simp; omega
            have t1 : decide ((k : Int) < (l.length : Int)) = true := by simp; omega
            have hkl : (k : Int) ≤ 100 := by omega
            have G1 : Hid (wrap64 (x * 65536) = x * 65536) := IntWalk.wrap64_in _ (by omega)
            have G2 : Hid (wrap64 (P + x * 65536) = P + x * 65536) := IntWalk.wrap64_in _ (by omega)
            have q1 := G1.out
            have q2 := G2.out
            clear hs hx HP HK hlt hlt2 hk HL8 G1 G2 p3
            go_wp2_with (fail)
            have hlt := hl.out
            exact ⟨⟨k + 2, _, by omega, by go_num, rfl, HK2, HP2, (Drew.refl w).more _⟩, by simp [intOf]; omega⟩
        · have hP : Hid (P = dots l) := by
            have := HP.out
            have h0 := dots_none (l := l) (k := k) (by omega)
            show _ = _
            omega
          have HFIN : Hid (rightB (rnd (dots l) 65536) = true → dotV l = rnd (dots l) 65536 ∧ dotB l = true) := fun h => dot_yes H8.out HA.out h
          have HFIN2 := Lib.hid (dot_over (l := l))
          have t1 : decide (k < l.length) = false := by simp; omega
          have HD := Lib.hid (fun w => dround_any P 65536 w (by omega) (by omega) (by omega) (by omega))
          rw [← hP.out] at HFIN HFIN2
          obtain ⟨X, hX⟩ : ∃ X, rnd P 65536 = X := ⟨_, rfl⟩
          rw [hX] at HFIN HFIN2 HD
          clear hX HP HK hlt hk HL8 hP
          go_wp2_with (fail)
          refine (HD.out _).mono ?_
          rintro e w' ⟨rfl, rfl⟩
          go_wp2_with (fail)
          refine (dright_any X _).mono ?_
          rintro e w' ⟨rfl, rfl⟩
          cases hx : rightB X with
          | true =>
            rw [hx] at HFIN
            have HF := Lib.hid (HFIN.out rfl)
            clear HFIN HFIN2 hx
            go_wp2_with (fail)
            go_ret2
            exact ⟨ret_ib HF.out.1.symm HF.out.2.symm, (Drew.refl _).more _⟩
          | false =>
            rw [hx] at HFIN2
            have HF := Lib.hid (HFIN2.out rfl)
            clear HFIN HFIN2 hx
            go_wp2_with (fail)
            go_ret2
            exact ⟨ret_ib HF.out.1.symm HF.out.2.symm, (Drew.refl _).more _⟩
end Go.Proofs.Ytmbfkaodoankaaa
