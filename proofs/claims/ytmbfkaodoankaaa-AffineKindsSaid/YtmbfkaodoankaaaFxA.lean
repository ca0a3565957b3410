/-
  Layer 5: the contracts of fix and of the document's own functions: ratios rounded.
-/
import Derived.Test.YtmbfkaodoankaaaRow
import Derived.Deep.QuietTactic
import Derived.BigQuiet
namespace Go.Proofs.Ytmbfkaodoankaaa
open Go.RowKit

/-- the ratio, rounded -/
def rnd (n d : Int) : Int := if d - n % d ≤ n % d then n / d + 1 else n / d


/-- Go's own division, and what is left, told by the one that rounds down -/
theorem tdiv_facts (n d : Int) (h1 : -4611686018427387904 ≤ n) (h2 : n ≤ 4611686018427387904) (h3 : 1 ≤ d) (h4 : d ≤ 4611686018427387904) :
    (-4611686018427387904 ≤ n.tdiv d ∧ n.tdiv d ≤ 4611686018427387904) ∧ (-d < n.tmod d ∧ n.tmod d < d) ∧
    (n.tmod d < 0 → n / d = n.tdiv d - 1 ∧ n % d = n.tmod d + d ∧ -4611686018427387904 ≤ n.tdiv d - 1) ∧ (0 ≤ n.tmod d → n / d = n.tdiv d ∧ n % d = n.tmod d) := by
  have g1 := Int.emod_nonneg n (show d ≠ 0 by omega)
  have g2 := Int.emod_lt_of_pos n (show 0 < d by omega)
  have g3 := Int.tdiv_eq_ediv (a := n) (b := d)
  have g4 := Int.tmod_eq_emod (a := n) (b := d)
  have hs : d.sign = 1 := Int.sign_eq_one_of_pos (by omega)
  have hn : (d.natAbs : Int) = d := by omega
  have b1 : -4611686018427387904 ≤ n / d ∧ n / d ≤ 4611686018427387904 := by
    constructor
    · rcases (by omega : 0 ≤ n ∨ n < 0) with h | h
      · have := Int.ediv_nonneg h (show 0 ≤ d by omega); omega
      · have hm : n * d ≤ n * 1 := Int.mul_le_mul_of_nonpos_left (by omega) h3
        have := Int.le_ediv_of_mul_le (show 0 < d by omega) (show n * d ≤ n by omega)
        omega
    · rcases (by omega : 0 ≤ n ∨ n < 0) with h | h
      · have := Int.ediv_le_self d h; omega
      · have := Int.ediv_neg_of_neg_of_pos h (show 0 < d by omega); omega
  rcases (by omega : 0 ≤ n ∨ n < 0) with h | h
  · simp only [h, true_or, if_true] at g3 g4
    omega
  · have hng : ¬ 0 ≤ n := by omega
    by_cases h0 : d ∣ n
    · simp only [h0, or_true, if_true] at g3 g4
      have := Int.emod_eq_zero_of_dvd h0
      omega
    · simp only [h0, hng, or_self, if_false, hs, hn] at g3 g4
      have : 0 < n % d := by
        rcases (by omega : n % d = 0 ∨ 0 < n % d) with h5 | h5
        · exact absurd (Int.dvd_of_emod_eq_zero h5) h0
        · exact h5
      have b2 : n / d < 0 := Int.ediv_neg_of_neg_of_pos h (show 0 < d by omega)
      omega

set_option maxHeartbeats 400000 in
theorem down_any (n d : Int) (w : World) (h1 : -4611686018427387904 ≤ n) (h2 : n ≤ 4611686018427387904) (h3 : 1 ≤ d) (h4 : d ≤ 4611686018427387904) :
    Calls Try.prog 34 #[.int .i64 n, .int .i64 d] w fun e w' => e = .returned (.tuple #[.int .i64 (n / d), .int .i64 (n % d)]) ∧ Drew w w' := by
  obtain ⟨⟨a1, a2⟩, ⟨a3, a4⟩, a5, a6⟩ := tdiv_facts n d h1 h2 h3 h4
  have hd0 : (d == 0) = false := by simp; omega
  have H5 := Lib.hid a5
  have H6 := Lib.hid a6
  clear a5 a6
  obtain ⟨Q, hQ⟩ : ∃ Q, n.tdiv d = Q := ⟨_, rfl⟩
  obtain ⟨R, hR⟩ : ∃ R, n.tmod d = R := ⟨_, rfl⟩
  rw [hQ, hR] at H5 H6
  rw [hQ] at a1 a2
  rw [hR] at a3 a4
  have q3 : wrap64 Q = Q := IntWalk.wrap64_in _ (by omega)
  by_cases hn : R < 0
  · have t : decide (R < 0) = true := by simpa using hn
    have q4 : wrap64 (Q - 1) = Q - 1 := IntWalk.wrap64_in _ (by omega)
    have q5 : wrap64 (R + d) = R + d := IntWalk.wrap64_in _ (by omega)
    have q6 : IntKind.i64.wrap (Q - 1) = Q - 1 := IntWalk.i64_in _ (by omega)
    have q7 : IntKind.i64.wrap (R + d) = R + d := IntWalk.i64_in _ (by omega)
    go_enter Try.func34, Try.ntmps34
    go_wp2_with (fail)
    go_quiet (fail)
    go_wp2_with (fail)
    go_ret2
    exact ⟨ret_two (H5.out hn).1.symm (H5.out hn).2.1.symm, (Drew.refl _).more _⟩
  · have t : decide (R < 0) = false := by simpa using hn
    go_enter Try.func34, Try.ntmps34
    go_wp2_with (fail)
    go_quiet (fail)
    go_wp2_with (fail)
    go_ret2
    exact ⟨ret_two (H6.out (by omega)).1.symm (H6.out (by omega)).2.symm, (Drew.refl _).more _⟩

set_option maxHeartbeats 400000 in
theorem round_any (n d : Int) (w : World) (h1 : -4611686018427387904 ≤ n) (h2 : n ≤ 4611686018427387904) (h3 : 1 ≤ d) (h4 : d ≤ 4611686018427387904) :
    Calls Try.prog 32 #[.int .i64 n, .int .i64 d] w fun e w' => e = .returned (.int .i64 (rnd n d)) ∧ Drew w w' := by
  obtain ⟨⟨a1, a2⟩, ⟨a3, a4⟩, a5, a6⟩ := tdiv_facts n d h1 h2 h3 h4
  have HR : Hid (rnd n d = if d - n % d ≤ n % d then n / d + 1 else n / d) := rfl
  have HD := Lib.hid (down_any n d w h1 h2 h3 h4)
  have t0 : decide (d < 1) = false := by simp; omega
  have g1 := Int.emod_nonneg n (show d ≠ 0 by omega)
  have g2 := Int.emod_lt_of_pos n (show 0 < d by omega)
  have g3 : -4611686018427387904 ≤ n / d ∧ n / d ≤ 4611686018427387904 := by omega
  obtain ⟨g3, g5⟩ := g3
  clear a1 a2 a3 a4 a5 a6
  generalize n / d = Q at *
  generalize n % d = R at *
  go_enter Try.func32, Try.ntmps32
  go_wp2_with (fail)
  refine HD.out.mono ?_
  rintro e w' ⟨rfl, m, rfl⟩
  by_cases t : d - R ≤ R
  · have t1 : decide (d - R ≤ R) = true := by simpa using t
    rw [if_pos t] at HR
    clear t
    go_wp2_with (fail)
    go_ret
    exact ⟨ret_num HR.out.symm, (Drew.refl _).more _⟩
  · have t1 : decide (d - R ≤ R) = false := by simpa using t
    rw [if_neg t] at HR
    clear t
    go_wp2_with (fail)
    go_ret
    exact ⟨ret_num HR.out.symm, (Drew.refl _).more _⟩
def ceilI (n : Int) : Int := if 0 < n % 65536 then n / 65536 + 1 else n / 65536
end Go.Proofs.Ytmbfkaodoankaaa
