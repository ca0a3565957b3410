/-
  The contract of 'number': the number at the beginning of bytes.
-/
import Derived.Test.YtoipokjoklhfjaaDoorCoA
import Derived.IntWalk
namespace Go.Proofs.YtoipokjoklhfjaaDoor
open Go.RowKit numb

def gotV (l : List Nat) : Value := .tuple #[.int .u64 ((read l).v : Nat), .int .i64 ((read l).n l : Nat), .int .i64 ((read l).e : Nat)]
theorem gotV_bad {l : List Nat} {e : Nat} (h : read l = .bad e) : gotV l = .tuple #[.int .u64 0, .int .i64 0, .int .i64 e] := by unfold gotV; rw [h]; rfl
theorem gotV_done {l : List Nat} {k v : Nat} (hk : k < l.length) (h : read l = .ok v (l.drop (k + 1))) : gotV l = .tuple #[.int .u64 v, .int .i64 ((k : Int) + 1), .int .i64 0] := by
  unfold gotV
  rw [h]
  simp [Got.v, Got.n, Got.e]
  omega
theorem and127 {x : Nat} (hx : x < 256) : bits .and .u8 (x : Int) 127 = ((x % 128 : Nat) : Int) := by
  have := u8_and_nat x 127 hx (by omega)
  rw [show x &&& 127 = x % 128 from Nat.and_two_pow_sub_one_eq_mod x 7] at this
  simpa using this
theorem pow7 (k : Nat) : 2 ^ (7 * k) = 128 ^ k := by rw [Nat.pow_mul]
theorem or_lay {a y k : Nat} (ha : a < 128 ^ k) (hs : 128 ^ k * y + 128 ^ k ≤ 18446744073709551616) (hp : 0 < y → 128 ^ k * y < 18446744073709551616) :
    bits .or .u64 (a : Int) ((128 ^ k * y : Nat) : Int) = ((a + 128 ^ k * y : Nat) : Int) := by
  have hpos : 0 < 128 ^ k := Nat.pow_pos (by omega)
  have hy : 128 ^ k * y < 18446744073709551616 := by
    rcases Nat.eq_zero_or_pos y with h | h
    · subst h; omega
    · exact hp h
  have h1 : 128 ^ k ≤ 18446744073709551616 := by omega
  rw [u64_or_nat _ _ (by omega) hy, ← pow7]
  rw [← pow7] at ha
  rw [Nat.add_comm a, Nat.two_pow_add_eq_or_of_lt ha, Nat.or_comm]
theorem wrap_in {n : Nat} (h : n < 18446744073709551616) : IntKind.u64.wrap (n : Int) = (n : Int) := by
  exact IntWalk.u64_in _ (by omega)
theorem or_num {a y k : Nat} (hk : k ≤ 9) (hy : y < 128) (h9 : k = 9 → y ≤ 1) (ha : a < 128 ^ k) :
    bits .or .u64 (a : Int) (IntKind.u64.wrap (IntKind.u64.wrap (y : Int) * 2 ^ (7 * k))) = ((a + 128 ^ k * y : Nat) : Int) := by
  have hpos : 0 < 128 ^ k := Nat.pow_pos (by omega)
  have hbd : 128 ^ k * y + 128 ^ k ≤ 18446744073709551616 ∧ 128 ^ k * y < 18446744073709551616 := by
    by_cases e : k = 9
    · have := h9 e
      have hm : 128 ^ k * y ≤ 128 ^ k * 1 := Nat.mul_le_mul_left _ this
      have hp : 128 ^ k = 9223372036854775808 := by rw [e]
      omega
    · have hp : 128 ^ k ≤ 128 ^ 8 := Nat.pow_le_pow_right (by omega) (by omega)
      have hm : 128 ^ k * y ≤ 128 ^ 8 * 127 := Nat.mul_le_mul hp (by omega)
      omega
  have e1 : IntKind.u64.wrap (IntKind.u64.wrap (y : Int) * 2 ^ (7 * k)) = ((128 ^ k * y : Nat) : Int) := by
    rw [wrap_in (by omega)]
    have : (y : Int) * 2 ^ (7 * k) = ((128 ^ k * y : Nat) : Int) := by
      rw [← pow7]
      push_cast
      rw [Int.mul_comm]
    rw [this]
    exact wrap_in hbd.2
  rw [e1]
  exact or_lay ha hbd.1 (fun _ => hbd.2)

set_option maxHeartbeats 2000000 in
theorem number_any (A : Option Addr) (l : List Nat) (c : Nat) (w : World) (hlc : l.length ≤ c) (hcm : c ≤ maxLen) (hb : Bs w A l) (hw : AreBytes l) :
    Calls Tryd.prog 41 #[.slice A l.length c] w fun e w' => e = .returned (gotV l) ∧ w = w' := by
  have hcm' : l.length ≤ 9223372036854775807 := by unfold maxLen at hcm; omega
  clear hcm hlc
  go_enter Tryd.func41, Tryd.ntmps41
  go_wp2
  go_loop [2, 5, 6, 9] (fun v _ _ i => ∃ k : Nat, k ≤ l.length ∧ k ≤ 9 ∧ i = .int .i64 k ∧ v = .int .u64 (num (l.take k) : Nat) ∧ Hid (∀ y ∈ l.take k, 128 ≤ y)) (fun _ _ _ i => l.length - (intOf i).toNat)
  case atStart => exact ⟨0, Nat.zero_le _, by omega, rfl, rfl, fun y hy => by simp at hy⟩
  case round =>
    obtain ⟨k, hk, hk9, rfl, rfl, hall⟩ := hrel
    by_cases hlt : k < l.length
    · obtain ⟨b, off, rfl, hcell⟩ := hb (by omega)
      have ck : w.cell? ⟨b, off + k, none⟩ = some (Value.int .u8 (l[k] : Nat)) := hcell k hlt
      have hx := hw.at_ hlt
      have ha := num_take_lt l k
      have T := Lib.hid (@read_tenth l)
      have Z := Lib.hid (@read_zero l k hall.out hlt hk9)
      have D := Lib.hid (@read_done l k hall.out hlt hk9)
      have NS := Lib.hid (num_snoc hlt)
      have AS := Lib.hid (all_snoc hall.out hlt)
      have AN := and127 hx
      have hy : l[k] % 128 < 128 := by omega
      have OR : Hid ((k = 9 → l[k] ≤ 1) → bits .or .u64 (num (l.take k) : Nat) (IntKind.u64.wrap ((l[k] % 128 : Nat) * 2 ^ (7 * k))) = (num (l.take (k + 1)) : Nat)) := fun h9 => by
        rw [NS.out, ← wrap_in (n := l[k] % 128) (by omega)]
        exact or_num hk9 hy (fun e => by have := h9 e; omega) ha
      have T9 : Hid (∀ e : k = 9, 1 < l[k] → read l = .bad 10) := fun e hx => by
        subst e
        exact T.out hall.out hlt hx
      clear hcell hb hw T
      generalize hyy : l[k] % 128 = y at *
      have hyx : Hid (l[k] < 128 → y = l[k]) := fun h => by omega
      generalize l[k] = x at *
      have HA := Lib.hid ha
      clear ha hyy
      generalize num (l.take k) = a at *
      by_cases h9 : k = 9
      · have t9 : ((k : Int) == 9) = true := by simp; omega
        by_cases hbig : 1 < x
        · have t1 : decide ((1 : Int) < (x : Int)) = true := by simp; omega
          have G := Lib.hid (gotV_bad (T9.out h9 hbig))
          clear OR T9 h9
          go_wp2_with (fail)
          exact bodyPost_ret (v := gotV l) (by rw [G.out]; simp [results, go_sem]) rfl ⟨rfl, rfl⟩
        · have t1 : decide ((1 : Int) < (x : Int)) = false := by simp; omega
          have t2 : decide ((127 : Int) < (x : Int)) = false := by simp; omega
          have OR' := Lib.hid (OR.out (fun e => by omega))
          clear OR T9
          by_cases h0 : x = 0
          · have t0 : ((x : Int) == 0) = true := by simp; omega
            have tk : decide ((0 : Int) < (k : Int)) = true := by simp; omega
            have hk0 : 0 < k := by omega
            have G := Lib.hid (gotV_bad (Z.out hk0 h0))
            clear h0 h9
            go_wp2_with (fail)
            exact bodyPost_ret (v := gotV l) (by rw [G.out]; simp [results, go_sem]) rfl ⟨rfl, rfl⟩
          · have t0 : ((x : Int) == 0) = false := by simp; omega
            have G := Lib.hid (gotV_done hlt (D.out (by omega) (fun e => by omega) (fun _ => h0)))
            clear h0 h9
            go_wp2_with (fail)
            exact bodyPost_ret (v := gotV l) (by rw [G.out, ← OR'.out]; simp [results, go_sem]) rfl ⟨rfl, rfl⟩
      · have t9 : ((k : Int) == 9) = false := by simp; omega
        have OR' := Lib.hid (OR.out (fun e => absurd e h9))
        clear OR T9
        by_cases hbig : 127 < x
        · have t1 : decide ((127 : Int) < (x : Int)) = true := by simp; omega
          go_wp2_with (fail)
          go_round
          case rel => exact ⟨k + 1, by omega, by omega, by go_num, by rw [← OR'.out], AS.out (by omega)⟩
          case measure => simp [intOf]; omega
        · have t1 : decide ((127 : Int) < (x : Int)) = false := by simp; omega
          by_cases h0 : x = 0
          · have t0 : ((x : Int) == 0) = true := by simp; omega
            by_cases hk0 : 0 < k
            · have G := Lib.hid (gotV_bad (Z.out hk0 h0))
              have tk : decide ((0 : Int) < (k : Int)) = true := by simp; omega
              clear h0
              go_wp2_with (fail)
              exact bodyPost_ret (v := gotV l) (by rw [G.out]; simp [results, go_sem]) rfl ⟨rfl, rfl⟩
            · have G := Lib.hid (gotV_done hlt (D.out (by omega) (fun e => absurd e h9) (fun e => absurd e hk0)))
              have tk : decide ((0 : Int) < (k : Int)) = false := by simp; omega
              have tk' : decide (0 < k) = false := by simp; omega
              clear h0 hk0
              go_wp2_with (fail)
              exact bodyPost_ret (v := gotV l) (by rw [G.out, ← OR'.out]; simp [results, go_sem]) rfl ⟨rfl, rfl⟩
          · have t0 : ((x : Int) == 0) = false := by simp; omega
            have G := Lib.hid (gotV_done hlt (D.out (by omega) (fun e => absurd e h9) (fun _ => h0)))
            clear h0
            go_wp2_with (fail)
            exact bodyPost_ret (v := gotV l) (by rw [G.out, ← OR'.out]; simp [results, go_sem]) rfl ⟨rfl, rfl⟩
    · have hk' : k = l.length := by omega
      subst hk'
      have G := Lib.hid (gotV_bad (read_short (l := l) (by simpa using hall.out) hk9))
      go_wp2_with (fail)
      exact bodyPost_ret (v := gotV l) (by rw [G.out]; simp [results, go_sem]) rfl ⟨rfl, rfl⟩
end Go.Proofs.YtoipokjoklhfjaaDoor
