/-
  Layer 11: nodes: Clip, Plain, Check.
-/
import Derived.Test.YtfmlecjobpdbbaaNdE
import Derived.Test.YtfmlecjobpdbbaaStow
import Derived.ChangeKeysEq
namespace Go.Proofs.Ytfmlecjobpdbbaa
open Go.RowKit pxm imm

theorem max4 (x y z u : Int) : ∃ M : Int, (∀ (P : Program) (w : World) (ts : Array TypeId) (t : TypeId), (Builtin.max_ ts t #[.int .i64 x, .int .i64 y, .int .i64 z, .int .i64 u]).run P w = .ok (.int .i64 M) w) ∧ (∀ a, M ≤ a ↔ x ≤ a ∧ y ≤ a ∧ z ≤ a ∧ u ≤ a) := by
  refine ⟨if u > (if z > (if y > x then y else x) then z else (if y > x then y else x)) then u else (if z > (if y > x then y else x) then z else (if y > x then y else x)), fun P w ts t => by simp [Builtin.max_, Builtin.max2], fun a => ?_⟩
  split <;> split <;> split <;> omega
theorem min4 (x y z u : Int) : ∃ M : Int, (∀ (P : Program) (w : World) (ts : Array TypeId) (t : TypeId), (Builtin.min_ ts t #[.int .i64 x, .int .i64 y, .int .i64 z, .int .i64 u]).run P w = .ok (.int .i64 M) w) ∧ (∀ a, a ≤ M ↔ a ≤ x ∧ a ≤ y ∧ a ≤ z ∧ a ≤ u) := by
  refine ⟨if u < (if z < (if y < x then y else x) then z else (if y < x then y else x)) then u else (if z < (if y < x then y else x) then z else (if y < x then y else x)), fun P w ts t => by simp [Builtin.min_, Builtin.min2], fun a => ?_⟩
  split <;> split <;> split <;> omega
def clB (r : Bx) : Bool := decide ((-16384 ≤ r.a ∧ -16384 ≤ r.b ∧ -16384 ≤ r.c ∧ -16384 ≤ r.d) ∧ (r.a ≤ 16384 ∧ r.b ≤ 16384 ∧ r.c ≤ 16384 ∧ r.d ≤ 16384))
set_option maxHeartbeats 1000000 in
theorem clips_any (r : Bx) (w : World) : Calls Try.prog 24 #[r.v] w fun e w' => e = .returned (.bool (clB r)) ∧ Below w.heap.size w w' := by
  obtain ⟨x0, y0, x1, y1⟩ := r
  have HC : Hid (clB ⟨x0, y0, x1, y1⟩ = decide ((-16384 ≤ x0 ∧ -16384 ≤ y0 ∧ -16384 ≤ x1 ∧ -16384 ≤ y1) ∧ (x0 ≤ 16384 ∧ y0 ≤ 16384 ∧ x1 ≤ 16384 ∧ y1 ≤ 16384))) := rfl
  obtain ⟨M, hmax, hM⟩ := max4 x0 y0 x1 y1
  obtain ⟨m, hmin, hm⟩ := min4 x0 y0 x1 y1
  specialize hM 16384
  specialize hm (-16384)
  generalize clB ⟨x0, y0, x1, y1⟩ = R at *
  unfold Bx.v
  simp only
  by_cases t1 : -16384 ≤ m
  · have t : decide (-16384 ≤ m) = true := by simpa using t1
    have HS : Hid (R = decide (M ≤ 16384)) := HC.out.trans (decide_eq_decide.2 ⟨fun h => hM.2 h.2, fun h => ⟨hm.1 t1, hM.1 h⟩⟩)
    generalize hd : decide (M ≤ 16384) = d at *
    clear hM hm t1 HC
    go_enter Try.func24, Try.ntmps24
    go_wp2_with (fail)
    go_ret
    exact ⟨ret_bool HS.out.symm, (Below.refl _ _).alloc (Nat.le_refl _) _⟩
  · have t : decide (-16384 ≤ m) = false := by simpa using t1
    have HS : Hid (R = false) := HC.out.trans (decide_eq_false (fun h => t1 (hm.2 h.1)))
    clear hM hm t1 HC
    go_enter Try.func24, Try.ntmps24
    go_wp2_with (fail)
    go_ret
    exact ⟨ret_bool HS.out.symm, (Below.refl _ _).alloc (Nat.le_refl _) _⟩
/-- a node's value -/
def ndV (m : Mp) (op : Int) (hi cl : Bool) (r : Bx) (k W H : Int) (p : Nat) (iw ih : Int) (A : Option Addr) (n c : Nat) : Value :=
  .agg #[.int .i64 m.a, .int .i64 m.b, .int .i64 m.c, .int .i64 m.d, .int .i64 m.e, .int .i64 m.f, .int .i64 op, .bool hi, .bool cl, .int .i64 r.a, .int .i64 r.b, .int .i64 r.c, .int .i64 r.d, .int .i64 k, .int .i64 W, .int .i64 H, .int .u32 (p : Nat), .int .i64 iw, .int .i64 ih, .slice A n c]
set_option maxHeartbeats 1000000 in
theorem plain_any (w : World) : Calls Try.prog 16 #[] w fun e w' => e = .returned (ndV Mp.one 255 false false Bx.o 0 0 0 0 0 0 none 0 0) ∧ Below w.heap.size w w' := by
  have HO := Lib.hid (fun w => mp_one w)
  unfold ndV
  unfold Mp.v Mp.one Bx.o at *
  simp only at *
  go_enter Try.func16, Try.ntmps16
  go_wp2_with (fail)
  refine (HO.out _).mono ?_
  rintro e w1 ⟨rfl, hb⟩
  have HB : Hid (Below w.heap.size w w1) := bel1 hb
  have hK : Hid (Blk w1 w.heap.size [.int .i64 0, .int .i64 0, .int .i64 0, .int .i64 0, .int .i64 0, .int .i64 0, .int .i64 0, .bool false, .bool false, .int .i64 0, .int .i64 0, .int .i64 0, .int .i64 0, .int .i64 0, .int .i64 0, .int .i64 0, .int .u32 0, .int .i64 0, .int .i64 0, .slice none 0 0]) := (blk_new w [.int .i64 0, .int .i64 0, .int .i64 0, .int .i64 0, .int .i64 0, .int .i64 0, .int .i64 0, .bool false, .bool false, .int .i64 0, .int .i64 0, .int .i64 0, .int .i64 0, .int .i64 0, .int .i64 0, .int .i64 0, .int .u32 0, .int .i64 0, .int .i64 0, .slice none 0 0] _).below hb (by simp)
  clear hb HO
  have hlt := hK.out.inside
  go_wp2_with (refine wpl_stow 34 _ _ rfl rfl rfl _ 0 rfl [.int .i64 65536, .int .i64 0, .int .i64 0, .int .i64 65536, .int .i64 0, .int .i64 0, .int .i64 255, .bool false, .bool false, .int .i64 0, .int .i64 0, .int .i64 0, .int .i64 0, .int .i64 0, .int .i64 0, .int .i64 0, .int .u32 0, .int .i64 0, .int .i64 0, .slice none 0 0] rfl _ hK.out [.int .i64 65536, .int .i64 0, .int .i64 0, .int .i64 65536, .int .i64 0, .int .i64 0, .int .i64 255, .bool false, .bool false, .int .i64 0, .int .i64 0, .int .i64 0, .int .i64 0, .int .i64 0, .int .i64 0, .int .i64 0, .int .u32 0, .int .i64 0, .int .i64 0, .slice none 0 0] rfl (by simp) (by kernel_rfl) rfl ?_; intro w2 HW HK)
  exact blk_ret rfl rfl HK.out Try.underlying34 rfl (by kernel_rfl) ⟨rfl, HW.out.below HB.out (Nat.le_refl _)⟩
def ndC (m : Mp) (op : Int) (cl : Bool) (r : Bx) (lk : Int) : Int := if (m.right && decide (0 ≤ op ∧ op ≤ 255)) = true then (if cl = true then (if clB r = true then lk else 11) else (if r = Bx.o then lk else 10)) else 11
end Go.Proofs.Ytfmlecjobpdbbaa
