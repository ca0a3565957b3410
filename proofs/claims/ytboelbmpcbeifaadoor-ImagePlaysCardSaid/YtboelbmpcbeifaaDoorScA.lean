/-
  The contracts of the layer's leaves: one byte, four bytes, a byte behind a sum.
-/
import Derived.Test.YtboelbmpcbeifaaDoorScMath
import Derived.Test.YtboelbmpcbeifaaDoorProg
import Derived.WalkKit
import Derived.Deep.QuietTactic
import Derived.BigQuiet
namespace Go.Proofs.YtboelbmpcbeifaaDoor.crcs
open Go.RowKit crcm

/-- what the tables' variable holds -/
def TabAt (w : World) : Prop := ∀ j, j < 128 → w.cell? ⟨0, j, none⟩ = some (.int .u32 (tabN j))
theorem TabAt.drewN {w : World} (h : TabAt w) (n : Nat) : TabAt (w.drewN n) := h

theorem and15 (x d : Nat) (h : x < 4294967296) : bits .and .u32 ((x : Int) / (d : Int)) 15 = ((x / d % 16 : Nat) : Int) := by
  have h1 : x / d ≤ x := Nat.div_le_self x d
  have := u32_and_nat (x / d) 15 (by omega) (by omega)
  rw [nat_mask4] at this
  simpa using this
theorem xor_lt {a b : Nat} (ha : a < 4294967296) (hb : b < 4294967296) : a ^^^ b < 4294967296 := Nat.xor_lt_two_pow (n := 32) ha hb

theorem one_eq (x : Nat) (hx : x < 4294967296) :
    bits .xor .u32 (bits .xor .u32 ((x : Int) / 256) (tabN (16 + x % 16) : Nat)) (tabN (x / 16 % 16) : Nat) = (sts 8 x : Nat) := by
  have e : (x : Int) / 256 = ((x / 256 : Nat) : Int) := by simp
  rw [e, u32_xor_nat _ _ (by omega) tabN_lt, u32_xor_nat _ _ (xor_lt (by omega) tabN_lt) tabN_lt, one_sum]

set_option maxHeartbeats 400000 in
theorem one_any (r z : Nat) (w : World) (hr : r < 4294967296) (hz : z < 256) (ht : TabAt w) :
    Calls Tryd.prog 55 #[.int .u32 r, .int .u8 z] w fun e w' => e = .returned (.int .u32 (sts 8 (r ^^^ z) : Nat)) ∧ ∃ n, w' = w.drewN n := by
  have hx : r ^^^ z < 4294967296 := xor_lt hr (by omega)
  have e1 : bits .xor .u32 (r : Int) (z : Int) = ((r ^^^ z : Nat) : Int) := u32_xor_nat r z hr (by omega)
  generalize r ^^^ z = x at *
  have h1 := ht (16 + x % 16) (by omega)
  have h0 := ht (x / 16 % 16) (by omega)
  have b1 : bits .and .u32 (x : Int) 15 = ((x % 16 : Nat) : Int) := by simpa using and15 x 1 hx
  have b0 : bits .and .u32 ((x : Int) / 16) 15 = ((x / 16 % 16 : Nat) : Int) := and15 x 16 hx
  have e2 := one_eq x hx
  clear ht
  go_enter Tryd.func55, Tryd.ntmps55
  go_wp2
  go_quiet (fail)
  go_wp2
  go_ret
  exact ⟨rfl, _, rfl⟩
end Go.Proofs.YtboelbmpcbeifaaDoor.crcs
