/-
  Layer 5: rows of right numbers, products; the document's own.
-/
import Derived.Test.YtmbfkaodoankaaaFxA
namespace Go.Proofs.Ytmbfkaodoankaaa
open Go.RowKit

def rightB (a : Int) : Bool := decide (-1073741824 ≤ a ∧ a ≤ 1073741824)
def allR (l : List Int) : Bool := l.all rightB
theorem rightB_yes {a : Int} (h : -1073741824 ≤ a) (h' : a ≤ 1073741824) : rightB a = true := decide_eq_true ⟨h, h'⟩
theorem rightB_no {a : Int} (h : a < -1073741824 ∨ 1073741824 < a) : rightB a = false := decide_eq_false (by omega)
theorem rightB_of {a : Int} (h : rightB a = true) : -1073741824 ≤ a ∧ a ≤ 1073741824 := of_decide_eq_true h
theorem allR_at {l : List Int} (h : allR l = true) {k : Nat} (hk : k < l.length) : -1073741824 ≤ l[k] ∧ l[k] ≤ 1073741824 := rightB_of (List.all_eq_true.1 h _ (List.getElem_mem hk))
theorem allR_snoc {l : List Int} {k : Nat} (h : allR (l.take k) = true) (hk : k < l.length) (hx : rightB l[k] = true) : allR (l.take (k + 1)) = true := by
  rw [List.take_succ_eq_append_getElem hk]
  unfold allR at *
  rw [List.all_append, h]
  simp only [List.all_cons, List.all_nil, hx, Bool.and_true]
theorem allR_bad {l : List Int} {k : Nat} (hk : k < l.length) (hx : rightB l[k] = false) : allR l = false := by
  unfold allR
  rw [List.all_eq_false]
  exact ⟨_, List.getElem_mem hk, by simp [hx]⟩
theorem allR_take {l : List Int} {k : Nat} (h : allR (l.take k) = true) (hk : l.length ≤ k) : allR l = true := by rwa [List.take_of_length_le hk] at h

set_option maxHeartbeats 400000 in
theorem right_any (A : Option Addr) (l : List Int) (c : Nat) (w : World) (hr : Row eI w A l) (h1 : l.length ≤ c) (h2 : c ≤ 9223372036854775807) :
    Calls Try.prog 25 #[.slice A l.length c] w fun e w' => e = .returned (.bool (allR l)) ∧ w = w' := by
  have HRow := Lib.hid hr
  clear hr
  go_enter Try.func25, Try.ntmps25
  go_wp2_with (fail)
  go_loop [7] (fun i => ∃ k : Nat, k ≤ l.length ∧ i = .int .i64 k ∧ Hid (allR (l.take k) = true)) (fun i => l.length - (intOf i).toNat)
  case atStart => exact ⟨0, Nat.zero_le _, rfl, by simp [Hid, allR]⟩
  case round =>
    obtain ⟨k, hk, rfl, HK⟩ := hrel
    by_cases hlt : k < l.length
    · obtain ⟨b, off, rfl, hc⟩ := HRow.out.at_ hlt
      unfold eI at hc
      have HL := Lib.hid (allR_snoc HK.out hlt)
      have HN := Lib.hid (allR_bad (l := l) hlt)
      have HY := Lib.hid (fun h h' => HL.out (rightB_yes h h'))
      have HZ := Lib.hid (fun h => HN.out (rightB_no h))
      clear HL HN
      generalize l[k] = x at *
      by_cases hx : x < -1073741824
      · have t1 : decide (x < -1073741824) = true := by simpa using hx
        have HB := Lib.hid (HZ.out (.inl hx))
        clear HY HZ hx
        go_wp2_with (fail)
        go_ret
        exact ⟨ret_bool HB.out.symm, rfl⟩
      · have t1 : decide (x < -1073741824) = false := by simpa using hx
        by_cases hx2 : 1073741824 < x
        · have t2 : decide (1073741824 < x) = true := by simpa using hx2
          have HB := Lib.hid (HZ.out (.inr hx2))
          clear HY HZ hx hx2
          go_wp2_with (fail)
          go_ret
          exact ⟨ret_bool HB.out.symm, rfl⟩
        · have t2 : decide (1073741824 < x) = false := by simpa using hx2
          have HB := Lib.hid (HY.out (by omega) (by omega))
          clear HY HZ hx hx2
          go_wp2_with (fail)
          go_round
          case rel => exact ⟨k + 1, by omega, by go_num, HB⟩
          case measure => simp [intOf]; omega
    · have HB := Lib.hid (allR_take HK.out (by omega))
      go_wp2_with (fail)
      go_ret
      exact ⟨ret_bool HB.out.symm, rfl⟩

/-! ### The document's own -/
set_option maxHeartbeats 400000 in
theorem dright_any (a : Int) (w : World) : Calls Try.prog 10 #[.int .i64 a] w fun e w' => e = .returned (.bool (rightB a)) ∧ w = w' := by
  by_cases h : -1073741824 ≤ a
  · have t1 : decide (-1073741824 ≤ a) = true := by simpa using h
    by_cases h2 : a ≤ 1073741824
    · have t2 : decide (a ≤ 1073741824) = true := by simpa using h2
      have HB := Lib.hid (rightB_yes h h2)
      clear h h2
      go_enter Try.func10, Try.ntmps10
      go_wp2_with (fail)
      go_ret
      exact ⟨ret_bool HB.out.symm, rfl⟩
    · have t2 : decide (a ≤ 1073741824) = false := by simpa using h2
      have HB := Lib.hid (rightB_no (a := a) (by omega))
      clear h h2
      go_enter Try.func10, Try.ntmps10
      go_wp2_with (fail)
      go_ret
      exact ⟨ret_bool HB.out.symm, rfl⟩
  · have t1 : decide (-1073741824 ≤ a) = false := by simpa using h
    have HB := Lib.hid (rightB_no (a := a) (by omega))
    clear h
    go_enter Try.func10, Try.ntmps10
    go_wp2_with (fail)
    go_ret
    exact ⟨ret_bool HB.out.symm, rfl⟩

theorem floor_of {n d q : Int} (hd : 1 ≤ d) (h1 : q * d ≤ n) (h2 : n < (q + 1) * d) : n / d = q := by
  have := Int.le_ediv_of_mul_le (show 0 < d by omega) h1
  have := Int.ediv_lt_of_lt_mul (show 0 < d by omega) h2
  omega
set_option maxHeartbeats 400000 in
theorem dfloor_any (n d : Int) (w : World) (h1 : -4611686018427387904 ≤ n) (h2 : n ≤ 4611686018427387904) (h3 : 1 ≤ d) (h4 : d ≤ 4611686018427387904) :
    Calls Try.prog 33 #[.int .i64 n, .int .i64 d] w fun e w' => e = .returned (.int .i64 (n / d)) ∧ w = w' := by
  obtain ⟨⟨a1, a2⟩, ⟨a3, a4⟩, a5, a6⟩ := tdiv_facts n d h1 h2 h3 h4
  have hd0 : (d == 0) = false := by simp; omega
  have hmul : n.tdiv d * d + n.tmod d = n := by rw [Int.mul_comm]; exact Int.mul_tdiv_add_tmod n d
  have hmul2 : (n.tdiv d - 1) * d = n.tdiv d * d - d := by rw [Int.sub_mul]; omega
  by_cases hn : n.tmod d < 0
  · have HF := Lib.hid (a5 hn).1
    have e1 : (n.tdiv d * d ≤ 9223372036854775807) ∧ (-9223372036854775808 ≤ n.tdiv d * d) ∧ n < n.tdiv d * d := by omega
    have e2 : n.tdiv d * d - d ≤ n ∧ (-9223372036854775808 ≤ n.tdiv d * d - d) := by omega
    have hlo := (a5 hn).2.2
    obtain ⟨Q, hQ⟩ : ∃ Q, n.tdiv d = Q := ⟨_, rfl⟩
    rw [hQ] at HF e1 e2 a1 a2 hmul2 hlo
    obtain ⟨M, hM⟩ : ∃ M, Q * d = M := ⟨_, rfl⟩
    rw [hM] at e1 e2 hmul2
    have q3 : wrap64 Q = Q := IntWalk.wrap64_in _ (by omega)
    have q4 : wrap64 M = M := IntWalk.wrap64_in _ (by omega)
    have q5 : wrap64 (Q - 1) = Q - 1 := IntWalk.wrap64_in _ (by omega)
    have q6 : wrap64 (M - d) = M - d := IntWalk.wrap64_in _ (by omega)
    have t1 : decide (n < M) = true := by simp; omega
    have t2 : decide (n < M - d) = false := by simp; omega
    clear a3 a4 a5 a6 hmul e1 e2 hn
    go_enter Try.func33, Try.ntmps33
    go_wp2_with (fail)
    go_loop [5] (fun q => q = .int .i64 Q ∨ q = .int .i64 (Q - 1)) (fun q => (intOf q - (Q - 1)).toNat)
    case atStart => exact .inl rfl
    case round =>
      rcases hrel with rfl | rfl
      · go_wp2_with (fail)
        go_round
        case rel => exact .inr rfl
        case measure => simp [intOf]; omega
      · go_wp2_with (fail)
        go_ret
        exact ⟨ret_num HF.out.symm, rfl⟩
  · have HF := Lib.hid (a6 (by omega)).1
    have e1 : (n.tdiv d * d ≤ 9223372036854775807) ∧ (-9223372036854775808 ≤ n.tdiv d * d) ∧ n.tdiv d * d ≤ n := by omega
    obtain ⟨Q, hQ⟩ : ∃ Q, n.tdiv d = Q := ⟨_, rfl⟩
    rw [hQ] at HF e1 a1 a2
    obtain ⟨M, hM⟩ : ∃ M, Q * d = M := ⟨_, rfl⟩
    rw [hM] at e1
    have q3 : wrap64 Q = Q := IntWalk.wrap64_in _ (by omega)
    have q4 : wrap64 M = M := IntWalk.wrap64_in _ (by omega)
    have t1 : decide (n < M) = false := by simp; omega
    clear a3 a4 a5 a6 hmul hmul2 e1 hn
    go_enter Try.func33, Try.ntmps33
    go_wp2_with (fail)
    go_loop [5] (fun q => q = .int .i64 Q) (fun q => 0)
    case atStart => rfl
    case round =>
      obtain rfl := hrel
      go_wp2_with (fail)
      go_ret
      exact ⟨ret_num HF.out.symm, rfl⟩
set_option maxHeartbeats 400000 in
theorem dround_any (n d : Int) (w : World) (h1 : -4611686018427387904 ≤ n) (h2 : n ≤ 4611686018427387904) (h3 : 1 ≤ d) (h4 : d ≤ 4611686018427387904) :
    Calls Try.prog 30 #[.int .i64 n, .int .i64 d] w fun e w' => e = .returned (.int .i64 (rnd n d)) ∧ w = w' := by
  obtain ⟨⟨a1, a2⟩, ⟨a3, a4⟩, a5, a6⟩ := tdiv_facts n d h1 h2 h3 h4
  have HR : Hid (rnd n d = if d - n % d ≤ n % d then n / d + 1 else n / d) := rfl
  have HD := Lib.hid (dfloor_any n d w h1 h2 h3 h4)
  have g1 := Int.emod_nonneg n (show d ≠ 0 by omega)
  have g2 := Int.emod_lt_of_pos n (show 0 < d by omega)
  have g3 : -4611686018427387904 ≤ n / d ∧ n / d ≤ 4611686018427387904 := by omega
  obtain ⟨g3, g5⟩ := g3
  have hm : n - n / d * d = n % d := by rw [Int.mul_comm]; have := Int.mul_ediv_add_emod n d; omega
  clear a1 a2 a3 a4 a5 a6
  generalize n / d = Q at *
  generalize n % d = R at *
  obtain ⟨M, hM⟩ : ∃ M, Q * d = M := ⟨_, rfl⟩
  rw [hM] at hm
  have q4 : wrap64 M = M := IntWalk.wrap64_in _ (by omega)
  have q5 : wrap64 (n - M) = R := by rw [hm]; exact IntWalk.wrap64_in _ (by omega)
  have q5' : n - M = R := hm
  clear hm
  go_enter Try.func30, Try.ntmps30
  go_wp2_with (fail)
  refine HD.out.mono ?_
  rintro e w' ⟨rfl, rfl⟩
  by_cases t : d - R ≤ R
  · have t1 : decide (d - R ≤ R) = true := by simpa using t
    rw [if_pos t] at HR
    clear t
    go_wp2_with (fail)
    go_ret
    exact ⟨ret_num HR.out.symm, rfl⟩
  · have t1 : decide (d - R ≤ R) = false := by simpa using t
    rw [if_neg t] at HR
    clear t
    go_wp2_with (fail)
    go_ret
    exact ⟨ret_num HR.out.symm, rfl⟩
theorem prod_bd {a b : Int} (h1 : -1073741824 ≤ a) (h2 : a ≤ 1073741824) (h3 : -1073741824 ≤ b) (h4 : b ≤ 1073741824) : -1152921504606846976 ≤ a * b ∧ a * b ≤ 1152921504606846976 := by
  have g1 : 0 ≤ (1073741824 - a) * (1073741824 - b) := Int.mul_nonneg (by omega) (by omega)
  have g2 : 0 ≤ (1073741824 + a) * (1073741824 + b) := Int.mul_nonneg (by omega) (by omega)
  have g3 : 0 ≤ (1073741824 - a) * (1073741824 + b) := Int.mul_nonneg (by omega) (by omega)
  have g4 : 0 ≤ (1073741824 + a) * (1073741824 - b) := Int.mul_nonneg (by omega) (by omega)
  rw [Int.sub_mul, Int.mul_sub, Int.mul_sub] at g1
  rw [Int.add_mul, Int.mul_add, Int.mul_add] at g2
  rw [Int.sub_mul, Int.mul_add, Int.mul_add] at g3
  rw [Int.add_mul, Int.mul_sub, Int.mul_sub] at g4
  omega
set_option maxHeartbeats 400000 in
theorem dmul_any (a b : Int) (w : World) (h1 : -1073741824 ≤ a) (h2 : a ≤ 1073741824) (h3 : -1073741824 ≤ b) (h4 : b ≤ 1073741824) :
    Calls Try.prog 21 #[.int .i64 a, .int .i64 b] w fun e w' => e = .returned (.int .i64 (rnd (a * b) 65536)) ∧ w = w' := by
  obtain ⟨p1, p2⟩ := prod_bd h1 h2 h3 h4
  have HD := Lib.hid (dround_any (a * b) 65536 w (by omega) (by omega) (by omega) (by omega))
  obtain ⟨M, hM⟩ : ∃ M, a * b = M := ⟨_, rfl⟩
  rw [hM] at HD p1 p2 ⊢
  have q4 : wrap64 M = M := IntWalk.wrap64_in _ (by omega)
  go_enter Try.func21, Try.ntmps21
  go_wp2_with (fail)
  refine HD.out.mono ?_
  rintro e w' ⟨rfl, rfl⟩
  go_wp2_with (fail)
  go_ret
  exact ⟨rfl, rfl⟩
end Go.Proofs.Ytmbfkaodoankaaa
