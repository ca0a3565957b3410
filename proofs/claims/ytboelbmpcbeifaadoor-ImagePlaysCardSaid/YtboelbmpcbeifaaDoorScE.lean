/-
  The contract of the document's own sum, bit by bit.
-/
import Derived.Test.YtboelbmpcbeifaaDoorScD
namespace Go.Proofs.YtboelbmpcbeifaaDoor.crcs
open Go.RowKit crcm

/-- a text's bytes -/
def natsOf (s : ByteArray) : List Nat := s.data.toList.map (·.toNat)
theorem natsOf_length (s : ByteArray) : (natsOf s).length = s.size := by
  unfold natsOf
  rw [List.length_map, Array.length_toList]
  rfl
theorem natsOf_are (s : ByteArray) : AreBytes (natsOf s) := by
  intro z hz
  simp only [natsOf, List.mem_map] at hz
  obtain ⟨c, _, rfl⟩ := hz
  exact c.toNat_lt
theorem natsOf_at (s : ByteArray) {k : Nat} (h : k < s.size) : (natsOf s)[k]'(by rw [natsOf_length]; exact h) = s[k].toNat := by
  simp only [natsOf, List.getElem_map]
  rfl

theorem sts_snoc (k r : Nat) : sts (k + 1) r = st (sts k r) := sts_add k 1 r
theorem st_odd {r : Nat} (h : r % 2 = 1) : st r = (r / 2) ^^^ 3988292384 := by unfold st; rw [if_pos h]
theorem st_even {r : Nat} (h : r % 2 = 0) : st r = r / 2 := by unfold st; rw [if_neg (by omega)]

set_option maxHeartbeats 1000000 in
theorem ref_any (s : ByteArray) (w : World) (hs : s.size ≤ maxLen) :
    Calls Tryd.prog 22 #[.string s] w fun e w' => e = .returned (.int .u32 (sum (natsOf s) : Nat)) ∧ w = w' := by
  unfold maxLen at hs
  have hn := natsOf_length s
  go_enter Tryd.func22, Tryd.ntmps22
  go_wp2
  go_loop [3, 4, 5] (fun x i _ => ∃ k : Nat, k ≤ s.size ∧ i = .int .i64 k ∧ x = .int .u32 (crc 4294967295 ((natsOf s).take k) : Nat)) (fun _ i _ => s.size - (intOf i).toNat)
  case atStart => exact ⟨0, Nat.zero_le _, rfl, rfl⟩
  case round =>
    obtain ⟨k, hk, rfl, rfl⟩ := hrel
    have hy := crc_lt (r := 4294967295) (l := (natsOf s).take k) (by omega) ((natsOf_are s).take k)
    by_cases hlt : k < s.size
    · have hcs := crc_snoc 4294967295 (natsOf s) (k := k) (by omega)
      rw [natsOf_at s hlt] at hcs
      have hbyte : s[k].toNat < 256 := s[k].toNat_lt
      have HC := Lib.hid hcs
      clear hcs hn
      generalize hyy : crc 4294967295 ((natsOf s).take k) = y at *
      clear hyy
      have e1 : bits .xor .u32 (y : Int) (s[k].toNat : Int) = ((y ^^^ s[k].toNat : Nat) : Int) := u32_xor_nat y _ hy (by omega)
      have hx : y ^^^ s[k].toNat < 4294967296 := xor_lt hy (by omega)
      generalize y ^^^ s[k].toNat = x at *
      go_wp2
      go_loop [3, 5] (fun z j => ∃ m : Nat, m ≤ 8 ∧ j = .int .i64 m ∧ z = .int .u32 (sts m x : Nat)) (fun _ j => 8 - (intOf j).toNat)
      case atStart => exact ⟨0, by omega, rfl, rfl⟩
      case round =>
        obtain ⟨m, hm, rfl, rfl⟩ := hrel
        have hz := sts_lt m hx
        by_cases hm8 : m < 8
        · have HS := Lib.hid (sts_snoc m x)
          generalize sts m x = z at *
          have e2 : bits .xor .u32 ((z : Int) / 2) 3988292384 = (((z / 2) ^^^ 3988292384 : Nat) : Int) := by
            have : (z : Int) / 2 = ((z / 2 : Nat) : Int) := by simp
            rw [this]
            exact u32_xor_nat _ 3988292384 (by omega) (by omega)
          rcases Nat.mod_two_eq_zero_or_one z with h2 | h2
          · have H2 := Lib.hid (st_even h2)
            have t2 : ((z : Int) % 2 == 1) = false := by simp; omega
            clear h2
            go_wp2
            go_round
            case rel => exact ⟨m + 1, by omega, by go_num, by rw [HS.out, H2.out]; go_num⟩
            case measure => simp [intOf]; omega
          · have H2 := Lib.hid (st_odd h2)
            have t2 : ((z : Int) % 2 == 1) = true := by simp; omega
            clear h2
            go_wp2
            go_round
            case rel => exact ⟨m + 1, by omega, by go_num, by rw [HS.out, H2.out]⟩
            case measure => simp [intOf]; omega
        · go_wp2
          have : m = 8 := by omega
          subst this
          go_round
          case rel => exact ⟨k + 1, by omega, by go_num, by rw [HC.out]⟩
          case measure => simp [intOf]; omega
    · have hk' : k = s.size := by omega
      subst hk'
      have e2 : bits .xor .u32 (crc 4294967295 ((natsOf s).take s.size) : Nat) 4294967295 = (sum (natsOf s) : Nat) := by
        rw [List.take_of_length_le (by omega)] at hy ⊢
        exact u32_xor_nat _ 4294967295 hy (by omega)
      clear hn
      generalize crc 4294967295 ((natsOf s).take s.size) = y at *
      go_wp2
      go_ret
      exact ⟨rfl, rfl⟩
end Go.Proofs.YtboelbmpcbeifaaDoor.crcs
