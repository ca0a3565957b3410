/-
  Layer 10: rows of pixels, one behind the other, each handed to a function.
-/
import Derived.Test.YtboelbmpcbeifaaDoorImF
namespace Go.Proofs.YtboelbmpcbeifaaDoor
open Go.RowKit pxm imm

def pre (S : List Int) : Nat → Int
  | 0 => 0
  | k + 1 => pre S k + S.getD k 0
theorem pre_at (S : List Int) {k : Nat} (hk : k < S.length) : pre S (k + 1) = pre S k + S[k] := by simp [pre, hk]
/-- how far it is done: up to k, or up to where the row began that k lies in -/
def StG (S : List Int) (J : Nat → World → Prop) (k : Nat) (z : Int) (w : World) : Prop :=
  if pre S k = 0 then J k w else ∃ x0 : Nat, z = (x0 : Nat) ∧ x0 < k ∧ J x0 w ∧ ∀ j, x0 ≤ j → j < k → pre S (j + 1) ≠ 0
set_option maxHeartbeats 2000000 in
set_option maxRecDepth 100000 in
theorem eachRow_any (SS : List Nat) (S : List Int) (b c : Nat) (gl : Nat) (cl : Array Value) (he : Enters Tryd.prog gl) (J : Nat → World → Prop) (w : World)
    (hb : b < w.heap.size) (hS : b ∉ SS) (hrow : Row eI w (some ⟨b, 0, none⟩) S) (hL : S.length ≤ 1000000) (hpos : ∀ k, k ≤ S.length → 0 ≤ pre S k ∧ pre S k ≤ 2000000) (hend : pre S S.length = 0)
    (hdo : ∀ (x0 x : Nat) (w1 : World), x0 < x → x < S.length → (∀ j, x0 ≤ j → j < x → pre S (j + 1) ≠ 0) → pre S (x + 1) = 0 → J x0 w1 → Off SS w w1 → Calls Tryd.prog gl (#[.int .i64 (x0 : Nat), .int .i64 (x : Nat)] ++ cl) w1 fun e w2 => e = .returned (.tuple #[]) ∧ J x w2 ∧ Off SS w1 w2)
    (hskip : ∀ (x : Nat) (w1 : World), x < S.length → pre S (x + 1) = 0 → J x w1 → J (x + 1) w1) (hJ : J 0 w) :
    Calls Tryd.prog 44 #[.slice (some ⟨b, 0, none⟩) S.length c, .func (.func gl) #[] cl] w fun e w' => e = .returned (.tuple #[]) ∧ J S.length w' ∧ Off SS w w' := by
  have he' : ∀ (args : Array Value) (w : World), (callFunc gl args).run Tryd.prog w = .ok (.enter gl args) w := he
  have HD := Lib.hid hdo
  have HK := Lib.hid hskip
  have HP := Lib.hid hpos
  have HE := Lib.hid hend
  have HR := Lib.hid (And.intro hb (And.intro hS hrow))
  have H0 : Hid (StG S J 0 0 w) := by show StG S J 0 0 w; unfold StG; rw [if_pos (show pre S 0 = 0 from rfl)]; exact hJ
  clear hdo hskip hpos hend hb hS hrow he hJ
  go_enter Tryd.func44, Tryd.ntmps44
  go_wp2_with (fail)
  go_loopw [4, 5, 10] (fun p z i wr => ∃ (k : Nat) (zz : Int), k ≤ S.length ∧ i = .int .i64 k ∧ p = .int .i64 (pre S k) ∧ z = .int .i64 zz ∧ Hid (StG S J k zz wr) ∧ Hid (Off SS w wr)) (fun _ _ i _ => S.length - (intOf i).toNat)
  case atStart => exact ⟨0, 0, Nat.zero_le _, rfl, rfl, rfl, H0.out, Off.refl _ _⟩
  case round =>
    obtain ⟨k, zz, hk, rfl, rfl, rfl, HS, HO⟩ := hrel
    by_cases hlt : k < S.length
    · have t : decide (k < S.length) = true := by simpa using hlt
      obtain ⟨hb, hS, hrow⟩ := HR.out
      have hc : wr.cell? ⟨b, k, none⟩ = some (.int .i64 S[k]) := by
        obtain ⟨b', off, e, hc⟩ := hrow.at_ hlt
        simp only [Option.some.injEq, Addr.mk.injEq, and_true] at e
        obtain ⟨rfl, rfl⟩ := e
        rw [Nat.zero_add] at hc
        have := HO.out.far b hb hS
        have h2 : wr.cell? ⟨b, k, none⟩ = w.cell? ⟨b, k, none⟩ := by simp only [World.cell?, this]
        exact h2.trans hc
      have hbw : b < wr.heap.size := Nat.lt_of_lt_of_le hb HO.out.size
      have e1 := pre_at S hlt
      obtain ⟨p1, p2⟩ := HP.out k hk
      obtain ⟨q1, q2⟩ := HP.out (k + 1) hlt
      have ew : wrap64 (pre S k + S[k]) = pre S (k + 1) := by rw [← e1]; exact IntWalk.wrap64_in _ (by omega)
      have hSt : StG S J k zz wr := HS.out
      unfold StG at hSt
      have HKn := Lib.hid (HK.out k)
      have HDn := Lib.hid (fun x0 => HD.out x0 k)
      have hkb : (k : Int) ≤ 1000000 := by omega
      have HG : Hid (∀ z w, StG S J (k + 1) z w = if pre S (k + 1) = 0 then J (k + 1) w else ∃ x0 : Nat, z = (x0 : Nat) ∧ x0 < k + 1 ∧ J x0 w ∧ ∀ j, x0 ≤ j → j < k + 1 → pre S (j + 1) ≠ 0) := fun _ _ => rfl
      have HPK : Hid (pre S (k + 1) = pre S (k + 1)) := rfl
      obtain ⟨pk, hpk⟩ : ∃ x, pre S k = x := ⟨_, rfl⟩
      obtain ⟨pk1, hpk1⟩ : ∃ x, pre S (k + 1) = x := ⟨_, rfl⟩
      have HPK := Lib.hid hpk1
      have HSJ : Hid (∀ x0 : Nat, (∀ j, x0 ≤ j → j < k → pre S (j + 1) ≠ 0) → pk1 ≠ 0 → ∀ j, x0 ≤ j → j < k + 1 → pre S (j + 1) ≠ 0) := fun x0 h h1 j h2 h3 => by
        by_cases hj : j = k
        · subst hj; rw [HPK.out]; exact h1
        · exact h j h2 (by omega)
      clear hrow hb hS HS HD HK HE H0 e1 p1 p2 q1 q2
      rw [hpk] at ew hSt ⊢
      rw [hpk1] at ew
      generalize S[k] = s at *
      by_cases hz : pk = 0
      · rw [if_pos hz] at hSt
        have hSt := Lib.hid hSt
        subst hz
        rw [Int.zero_add] at ew
        have HW := Lib.hid ew
        by_cases hz1 : pk1 = 0
        · have HN : Hid (StG S J (k + 1) (k : Nat) wr) := by show StG _ _ _ _ _; rw [HG.out, HPK.out, if_pos hz1]; exact HKn.out wr hlt (HPK.out.trans hz1) hSt.out
          have HPZ : Hid (pre S (k + 1) = 0) := HPK.out.trans hz1
          subst hz1
          clear hpk hpk1 HPK HSJ hSt
          go_wp2_with (fail)
          go_roundw
          case rel => exact ⟨k + 1, (k : Nat), by omega, by go_num, by rw [HPZ.out, HW.out], rfl, HN, HO⟩
          case measure => simp [intOf]; omega
        · have q0 : (pk1 == 0) = false := by simpa using hz1
          have HN : Hid (StG S J (k + 1) (k : Nat) wr) := by
            show StG _ _ _ _ _
            rw [HG.out, HPK.out, if_neg hz1]
            refine ⟨k, rfl, by omega, hSt.out, fun j h1 h2 => ?_⟩
            obtain rfl : j = k := by omega
            rw [HPK.out]
            exact hz1
          clear hpk hpk1 HSJ hz1 hSt
          go_wp2_with (fail)
          go_roundw
          case rel => exact ⟨k + 1, (k : Nat), by omega, by go_num, by rw [HPK.out, HW.out], rfl, HN, HO⟩
          case measure => simp [intOf]; omega
      · rw [if_neg hz] at hSt
        obtain ⟨x0, rfl, hx0, hJ0, hne⟩ := hSt
        have q00 : (pk == 0) = false := by simpa using hz
        have t0 : decide (x0 < k) = true := by simpa using hx0
        have HJ0 := Lib.hid hJ0
        have HNE := Lib.hid hne
        have HW := Lib.hid ew
        clear hJ0 hne hz
        by_cases hz1 : pk1 = 0
        · have HPZ : Hid (pre S (k + 1) = 0) := HPK.out.trans hz1
          have HC := Lib.hid (HDn.out x0 wr hx0 hlt HNE.out HPZ.out HJ0.out HO.out)
          have HN : Hid (∀ w2, J k w2 → StG S J (k + 1) (x0 : Nat) w2) := fun w2 h2 => by rw [HG.out, HPK.out, if_pos hz1]; exact HKn.out w2 hlt HPZ.out h2
          subst hz1
          clear hpk hpk1 HPK HSJ
          go_wp2_with (fail)
          refine HC.out.mono ?_
          rintro e w2 ⟨rfl, hj2, ho2⟩
          have HO2 := Lib.hid (HO.out.trans ho2)
          have HN2 := Lib.hid (HN.out w2 hj2)
          clear hj2 ho2 HC HN
          go_wp2_with (fail)
          go_roundw
          case rel => exact ⟨k + 1, (x0 : Nat), by omega, by go_num, by rw [HPZ.out], rfl, HN2, HO2⟩
          case measure => simp [intOf]; omega
        · have q0 : (pk1 == 0) = false := by simpa using hz1
          have HN : Hid (StG S J (k + 1) (x0 : Nat) wr) := by
            show StG _ _ _ _ _
            rw [HG.out, HPK.out, if_neg hz1]
            exact ⟨x0, rfl, by omega, HJ0.out, HSJ.out x0 HNE.out hz1⟩
          clear hpk hpk1 HSJ hz1
          go_wp2_with (fail)
          go_roundw
          case rel => exact ⟨k + 1, (x0 : Nat), by omega, by go_num, by rw [HPK.out, HW.out], rfl, HN, HO⟩
          case measure => simp [intOf]; omega
    · obtain rfl : k = S.length := by omega
      have t : decide (S.length < S.length) = false := by simp
      have HJE : Hid (J S.length wr) := by
        have h := HS.out
        unfold StG at h
        rw [if_pos HE.out] at h
        exact h
      go_wp2_with (fail)
      go_end0
      exact ⟨rfl, HJE.out, HO.out⟩
end Go.Proofs.YtboelbmpcbeifaaDoor
