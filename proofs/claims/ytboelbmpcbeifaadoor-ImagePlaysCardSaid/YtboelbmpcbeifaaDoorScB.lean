/-
  The contract of four bytes at once.
-/
import Derived.Test.YtboelbmpcbeifaaDoorScA
namespace Go.Proofs.YtboelbmpcbeifaaDoor.crcs
open Go.RowKit crcm

theorem or_four {a b c d : Nat} (ha : a < 256) (hb : b < 256) (hc : c < 256) (hd : d < 256) :
    bits .or .u32 (bits .or .u32 (bits .or .u32 (a : Int) ((b : Int) * 256)) ((c : Int) * 65536)) ((d : Int) * 16777216) = ((a + b * 256 + c * 65536 + d * 16777216 : Nat) : Int) := by
  have e1 : (b : Int) * 256 = ((b * 256 : Nat) : Int) := by simp
  have e2 : (c : Int) * 65536 = ((c * 65536 : Nat) : Int) := by simp
  have e3 : (d : Int) * 16777216 = ((d * 16777216 : Nat) : Int) := by simp
  have j1 : a ||| b * 256 = a + b * 256 := by rw [Nat.or_comm, nat_join 8 (b * 256) a (by omega) (by omega)]; omega
  have j2 : (a + b * 256) ||| c * 65536 = a + b * 256 + c * 65536 := by rw [Nat.or_comm, nat_join 16 (c * 65536) _ (by omega) (by omega)]; omega
  have j3 : (a + b * 256 + c * 65536) ||| d * 16777216 = a + b * 256 + c * 65536 + d * 16777216 := by rw [Nat.or_comm, nat_join 24 (d * 16777216) _ (by omega) (by omega)]; omega
  rw [e1, e2, e3, u32_or_nat _ _ (by omega) (by omega), j1, u32_or_nat _ _ (by omega) (by omega), j2, u32_or_nat _ _ (by omega) (by omega), j3]

theorem four_eq (x : Nat) (hx : x < 4294967296) :
    bits .xor .u32 (bits .xor .u32 (bits .xor .u32 (bits .xor .u32 (bits .xor .u32 (bits .xor .u32 (bits .xor .u32 (tabN (112 + x % 16) : Nat) (tabN (96 + x / 16 % 16) : Nat)) (tabN (80 + x / 256 % 16) : Nat)) (tabN (64 + x / 4096 % 16) : Nat))
      (tabN (48 + x / 65536 % 16) : Nat)) (tabN (32 + x / 1048576 % 16) : Nat)) (tabN (16 + x / 16777216 % 16) : Nat)) (tabN (x / 268435456) : Nat) = (sts 32 x : Nat) := by
  have t : ∀ j, tabN j < 4294967296 := fun _ => tabN_lt
  have u2 := xor_lt (t (112 + x % 16)) (t (96 + x / 16 % 16))
  have u3 := xor_lt u2 (t (80 + x / 256 % 16))
  have u4 := xor_lt u3 (t (64 + x / 4096 % 16))
  have u5 := xor_lt u4 (t (48 + x / 65536 % 16))
  have u6 := xor_lt u5 (t (32 + x / 1048576 % 16))
  have u7 := xor_lt u6 (t (16 + x / 16777216 % 16))
  rw [u32_xor_nat _ _ (t _) (t _), u32_xor_nat _ _ u2 (t _), u32_xor_nat _ _ u3 (t _), u32_xor_nat _ _ u4 (t _), u32_xor_nat _ _ u5 (t _), u32_xor_nat _ _ u6 (t _), u32_xor_nat _ _ u7 (t _), four_sum x hx]

set_option maxHeartbeats 1000000 in
theorem four_any (r a b c d : Nat) (w : World) (hr : r < 4294967296) (ha : a < 256) (hb : b < 256) (hc : c < 256) (hd : d < 256) (ht : TabAt w) :
    Calls Tryd.prog 54 #[.int .u32 r, .int .u8 a, .int .u8 b, .int .u8 c, .int .u8 d] w fun e w' => e = .returned (.int .u32 (sts 8 (sts 8 (sts 8 (sts 8 (r ^^^ a) ^^^ b) ^^^ c) ^^^ d) : Nat)) ∧ ∃ n, w' = w.drewN n := by
  have hm : a + b * 256 + c * 65536 + d * 16777216 < 4294967296 := by omega
  have hx : r ^^^ (a + b * 256 + c * 65536 + d * 16777216) < 4294967296 := xor_lt hr hm
  have e1 : bits .xor .u32 (r : Int) (bits .or .u32 (bits .or .u32 (bits .or .u32 (a : Int) ((b : Int) * 256)) ((c : Int) * 65536)) ((d : Int) * 16777216)) = ((r ^^^ (a + b * 256 + c * 65536 + d * 16777216) : Nat) : Int) := by
    rw [or_four ha hb hc hd, u32_xor_nat _ _ hr hm]
  have hfin := four_by (r := r) (d := d) ha hb hc
  generalize sts 8 (sts 8 (sts 8 (sts 8 (r ^^^ a) ^^^ b) ^^^ c) ^^^ d) = y at *
  generalize r ^^^ (a + b * 256 + c * 65536 + d * 16777216) = x at *
  have h7 := ht (112 + x % 16) (by omega)
  have h6 := ht (96 + x / 16 % 16) (by omega)
  have h5 := ht (80 + x / 256 % 16) (by omega)
  have h4 := ht (64 + x / 4096 % 16) (by omega)
  have h3 := ht (48 + x / 65536 % 16) (by omega)
  have h2 := ht (32 + x / 1048576 % 16) (by omega)
  have h1 := ht (16 + x / 16777216 % 16) (by omega)
  have h0 := ht (x / 268435456) (by omega)
  have b7 : bits .and .u32 (x : Int) 15 = ((x % 16 : Nat) : Int) := by simpa using and15 x 1 hx
  have b6 : bits .and .u32 ((x : Int) / 16) 15 = ((x / 16 % 16 : Nat) : Int) := and15 x 16 hx
  have b5 : bits .and .u32 ((x : Int) / 256) 15 = ((x / 256 % 16 : Nat) : Int) := and15 x 256 hx
  have b4 : bits .and .u32 ((x : Int) / 4096) 15 = ((x / 4096 % 16 : Nat) : Int) := and15 x 4096 hx
  have b3 : bits .and .u32 ((x : Int) / 65536) 15 = ((x / 65536 % 16 : Nat) : Int) := and15 x 65536 hx
  have b2 : bits .and .u32 ((x : Int) / 1048576) 15 = ((x / 1048576 % 16 : Nat) : Int) := and15 x 1048576 hx
  have b1 : bits .and .u32 ((x : Int) / 16777216) 15 = ((x / 16777216 % 16 : Nat) : Int) := and15 x 16777216 hx
  have e2 := four_eq x hx
  rw [hfin] at e2
  have hxi : (x : Int) < 4294967296 := by omega
  clear ht hfin hm
  go_enter Tryd.func54, Tryd.ntmps54
  go_wp2
  go_quiet (fail)
  go_wp2
  go_ret
  exact ⟨rfl, _, rfl⟩
end Go.Proofs.YtboelbmpcbeifaaDoor.crcs
