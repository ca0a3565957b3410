/-
  Layer 19: an op's plain form, by the document.
-/
import Derived.Test.YtgadheamldianaaEvU
namespace Go.Proofs.Ytgadheamldianaa
open Go.RowKit pxm imm

/-- pixels that are another's, or none -/
def DOpQ (o : Op9) (A : Option Addr) (w : World) (e : Ending) (w' : World) : Prop := ∃ A9 c9, e = .returned (.agg (o.cs A9 c9).toArray) ∧ (o.lk.l ≠ [] → A9 = A) ∧ Below w.heap.size w w'
theorem DOpQ.of {o : Op9} {A A9 : Option Addr} {c9 : Nat} {w w' : World} {ls : List Value} (hl : ls = o.cs A9 c9) (h1 : o.lk.l ≠ [] → A9 = A) (h2 : Below w.heap.size w w') : DOpQ o A w (.returned (.agg ls.toArray)) w' := ⟨A9, c9, by rw [hl], h1, h2⟩
theorem build_zm (w : World) : (Instr.build 41 #[]).run Try.prog w = .ok (.agg Mp.o.cs.toArray) w := by kernel_rfl
theorem build_zr (w : World) : (Instr.build 43 #[]).run Try.prog w = .ok (.agg Bx.o.cs4.toArray) w := by kernel_rfl
theorem build_zl (w : World) : (Instr.build 50 #[]).run Try.prog w = .ok (.agg (Lk.o.cs none 0).toArray) w := by kernel_rfl
set_option maxHeartbeats 8000000 in
set_option maxRecDepth 100000 in
theorem dplain_any (o : Op9) (A : Option Addr) (c : Nat) (w : World) : Calls Try.prog 19 #[.agg (o.cs A c).toArray] w (DOpQ (plainO o) A w) := by
  have HB0 : Hid (Below w.heap.size w ((w.alloc (.cells (o.cs A c).toArray 52)).alloc (.cells #[.int .i64 0, .int .i64 0, .int .i64 0, .int .i64 0, .int .i64 0, .int .i64 0, .int .i64 0, .int .i64 0, .int .i64 0, .int .i64 0, .int .i64 0, .int .i64 0, .int .i64 0, .int .i64 0, .bool false, .int .i64 0, .int .i64 0, .int .i64 0, .int .i64 0, .int .u32 0, .int .i64 0, .int .i64 0, .slice none 0 0] 52))) := ((Below.refl _ _).alloc (Nat.le_refl _) _).alloc (by simp) _
  have HK0 : Hid (Blk ((w.alloc (.cells (o.cs A c).toArray 52)).alloc (.cells #[.int .i64 0, .int .i64 0, .int .i64 0, .int .i64 0, .int .i64 0, .int .i64 0, .int .i64 0, .int .i64 0, .int .i64 0, .int .i64 0, .int .i64 0, .int .i64 0, .int .i64 0, .int .i64 0, .bool false, .int .i64 0, .int .i64 0, .int .i64 0, .int .i64 0, .int .u32 0, .int .i64 0, .int .i64 0, .slice none 0 0] 52)) w.heap.size (o.cs A c)) := (blk_new w (o.cs A c) _).alloc _
  have HR0 : Hid (Blk ((w.alloc (.cells (o.cs A c).toArray 52)).alloc (.cells #[.int .i64 0, .int .i64 0, .int .i64 0, .int .i64 0, .int .i64 0, .int .i64 0, .int .i64 0, .int .i64 0, .int .i64 0, .int .i64 0, .int .i64 0, .int .i64 0, .int .i64 0, .int .i64 0, .bool false, .int .i64 0, .int .i64 0, .int .i64 0, .int .i64 0, .int .u32 0, .int .i64 0, .int .i64 0, .slice none 0 0] 52)) (w.heap.size + 1) [.int .i64 0, .int .i64 0, .int .i64 0, .int .i64 0, .int .i64 0, .int .i64 0, .int .i64 0, .int .i64 0, .int .i64 0, .int .i64 0, .int .i64 0, .int .i64 0, .int .i64 0, .int .i64 0, .bool false, .int .i64 0, .int .i64 0, .int .i64 0, .int .i64 0, .int .u32 0, .int .i64 0, .int .i64 0, .slice none 0 0]) := blk_at (w.alloc _) _ (by simp) [.int .i64 0, .int .i64 0, .int .i64 0, .int .i64 0, .int .i64 0, .int .i64 0, .int .i64 0, .int .i64 0, .int .i64 0, .int .i64 0, .int .i64 0, .int .i64 0, .int .i64 0, .int .i64 0, .bool false, .int .i64 0, .int .i64 0, .int .i64 0, .int .i64 0, .int .u32 0, .int .i64 0, .int .i64 0, .slice none 0 0] _
  obtain ⟨X, hX⟩ : ∃ X, plainO o = X := ⟨_, rfl⟩
  rw [hX]
  have HPX := Lib.hid hX
  clear hX
  go_enter Try.func19, Try.ntmps19
  go_upto_region 1 with (fail)
  generalize ((w.alloc (.cells (o.cs A c).toArray 52)).alloc (.cells #[.int .i64 0, .int .i64 0, .int .i64 0, .int .i64 0, .int .i64 0, .int .i64 0, .int .i64 0, .int .i64 0, .int .i64 0, .int .i64 0, .int .i64 0, .int .i64 0, .int .i64 0, .int .i64 0, .bool false, .int .i64 0, .int .i64 0, .int .i64 0, .int .i64 0, .int .u32 0, .int .i64 0, .int .i64 0, .slice none 0 0] 52)) = w0 at *
  have c0 : w0.cell? ⟨w.heap.size, 0, none⟩ = some (.int .i64 o.k) := HK0.out.cell 0
  have i0 : w.heap.size < w0.heap.size := HK0.out.inside
  go_upto_region 2 with (fail)
  clear c0 i0
  by_cases hc : o.k < 1
  · have tl : decide (o.k < 1) = true := decide_eq_true hc
    obtain rfl : X = { Op9.o with k := o.k } := by rw [← HPX.out]; unfold plainO; rw [if_neg (by omega), if_neg (by omega), if_neg (by omega), if_neg (by omega), if_neg (by omega), if_neg (by omega), if_neg (by omega)]
    clear hc HPX
    go_wp2_with (first | ((with_reducible show wpList _ _ _ (Oper.mk _ (Op.store _ _ _) _ _ _ _ :: _) _ _); refine wpl_stow 52 _ _ rfl rfl rfl _ 0 rfl (({ Op9.o with k := o.k } : Op9).cs none 0) rfl ([.int .i64 0, .int .i64 0, .int .i64 0, .int .i64 0, .int .i64 0, .int .i64 0, .int .i64 0, .int .i64 0, .int .i64 0, .int .i64 0, .int .i64 0, .int .i64 0, .int .i64 0, .int .i64 0, .bool false, .int .i64 0, .int .i64 0, .int .i64 0, .int .i64 0, .int .u32 0, .int .i64 0, .int .i64 0, .slice none 0 0]) HR0.out (({ Op9.o with k := o.k } : Op9).cs none 0) rfl (Nat.le_of_ble_eq_true rfl) (by kernel_rfl) (Op9.one _ _ _) ?_; intro w9 HW9 HK9) | ((with_reducible show wpList _ _ _ (Oper.mk _ (Op.build _ _) _ _ _ _ :: _) _ _); refine wpl_build _ _ rfl rfl (by simp [go_sem]) (build_p0 o.k _) ?_))
    exact blk_ret rfl rfl HK9.out Try.underlying52 rfl (by kernel_rfl) (DOpQ.of (A9 := none) (c9 := 0) rfl (fun h => absurd rfl h) (HW9.out.below HB0.out (by omega)))
  have hlo := hc
  clear hc
  by_cases hc : 8 < o.k
  · have tl : decide (o.k < 1) = false := decide_eq_false (by omega)
    have tg : decide (8 < o.k) = true := decide_eq_true hc
    obtain rfl : X = { Op9.o with k := o.k } := by rw [← HPX.out]; unfold plainO; rw [if_neg (by omega), if_neg (by omega), if_neg (by omega), if_neg (by omega), if_neg (by omega), if_neg (by omega), if_neg (by omega)]
    clear hc HPX
    go_wp2_with (first | ((with_reducible show wpList _ _ _ (Oper.mk _ (Op.store _ _ _) _ _ _ _ :: _) _ _); refine wpl_stow 52 _ _ rfl rfl rfl _ 0 rfl (({ Op9.o with k := o.k } : Op9).cs none 0) rfl ([.int .i64 0, .int .i64 0, .int .i64 0, .int .i64 0, .int .i64 0, .int .i64 0, .int .i64 0, .int .i64 0, .int .i64 0, .int .i64 0, .int .i64 0, .int .i64 0, .int .i64 0, .int .i64 0, .bool false, .int .i64 0, .int .i64 0, .int .i64 0, .int .i64 0, .int .u32 0, .int .i64 0, .int .i64 0, .slice none 0 0]) HR0.out (({ Op9.o with k := o.k } : Op9).cs none 0) rfl (Nat.le_of_ble_eq_true rfl) (by kernel_rfl) (Op9.one _ _ _) ?_; intro w9 HW9 HK9) | ((with_reducible show wpList _ _ _ (Oper.mk _ (Op.build _ _) _ _ _ _ :: _) _ _); refine wpl_build _ _ rfl rfl (by simp [go_sem]) (build_p0 o.k _) ?_))
    exact blk_ret rfl rfl HK9.out Try.underlying52 rfl (by kernel_rfl) (DOpQ.of (A9 := none) (c9 := 0) rfl (fun h => absurd rfl h) (HW9.out.below HB0.out (by omega)))
  have hk : o.k = 1 ∨ o.k = 2 ∨ o.k = 3 ∨ o.k = 4 ∨ o.k = 5 ∨ o.k = 6 ∨ o.k = 7 ∨ o.k = 8 := by omega
  clear hc hlo
  rcases hk with hk | hk | hk | hk | hk | hk | hk | hk
  · have tl : decide (o.k < 1) = false := decide_eq_false (by omega)
    have tg : decide (8 < o.k) = false := decide_eq_false (by omega)
    have t1 : (o.k != 1) = false := by simp [hk]
    have t3 : (o.k != 3) = true := by simp [hk]
    have t4 : (o.k != 4) = true := by simp [hk]
    have t5 : (o.k != 5) = true := by simp [hk]
    have t6 : (o.k != 6) = true := by simp [hk]
    have t7 : (o.k != 7) = true := by simp [hk]
    have t8 : (o.k != 8) = true := by simp [hk]
    obtain rfl : X = { Op9.o with k := o.k, i := o.i, p := o.p, n := o.n } := by rw [← HPX.out]; unfold plainO; rw [if_pos (Or.inl hk)]
    clear hk HPX
    have i0 : w.heap.size < w0.heap.size := HK0.out.inside
    go_upto_region 8 with (first | ((with_reducible show wpList _ _ _ (Oper.mk _ (Op.store _ _ _) _ _ _ _ :: _) _ _); refine wpl_stow 41 _ _ rfl rfl rfl _ 4 rfl (Mp.o.cs) rfl (o.cs A c) HK0.out (({ o with m := Mp.o } : Op9).cs A c) rfl (Nat.le_of_ble_eq_true rfl) (by kernel_rfl) (Mp.one1 _) ?_; intro w1 HW1 HK1) | ((with_reducible show wpList _ _ _ (Oper.mk _ (Op.build _ _) _ _ _ _ :: _) _ _); refine wpl_build _ _ rfl rfl (by simp [go_sem]) (build_zm _) ?_))
    clear i0
    have HB1 : Hid (Below w.heap.size w w1) := HW1.out.below HB0.out (Nat.le_refl _)
    have HR1 : Hid (Blk w1 (w.heap.size + 1) [.int .i64 0, .int .i64 0, .int .i64 0, .int .i64 0, .int .i64 0, .int .i64 0, .int .i64 0, .int .i64 0, .int .i64 0, .int .i64 0, .int .i64 0, .int .i64 0, .int .i64 0, .int .i64 0, .bool false, .int .i64 0, .int .i64 0, .int .i64 0, .int .i64 0, .int .u32 0, .int .i64 0, .int .i64 0, .slice none 0 0]) := HW1.out.blk (by omega) HR0.out
    clear HW1 HB0 HR0 HK0
    have i0 : w.heap.size < w1.heap.size := HK1.out.inside
    go_upto_region 10 with (first | ((with_reducible show wpList _ _ _ (Oper.mk _ (Op.store _ _ _) _ _ _ _ :: _) _ _); refine wpl_stow 43 _ _ rfl rfl rfl _ 10 rfl (Bx.o.cs4) rfl (({ o with m := Mp.o } : Op9).cs A c) HK1.out (({ o with m := Mp.o, r := Bx.o } : Op9).cs A c) rfl (Nat.le_of_ble_eq_true rfl) (by kernel_rfl) rfl ?_; intro w2 HW2 HK2) | ((with_reducible show wpList _ _ _ (Oper.mk _ (Op.build _ _) _ _ _ _ :: _) _ _); refine wpl_build _ _ rfl rfl (by simp [go_sem]) (build_zr _) ?_))
    clear i0
    have HB2 : Hid (Below w.heap.size w w2) := HW2.out.below HB1.out (Nat.le_refl _)
    have HR2 : Hid (Blk w2 (w.heap.size + 1) [.int .i64 0, .int .i64 0, .int .i64 0, .int .i64 0, .int .i64 0, .int .i64 0, .int .i64 0, .int .i64 0, .int .i64 0, .int .i64 0, .int .i64 0, .int .i64 0, .int .i64 0, .int .i64 0, .bool false, .int .i64 0, .int .i64 0, .int .i64 0, .int .i64 0, .int .u32 0, .int .i64 0, .int .i64 0, .slice none 0 0]) := HW2.out.blk (by omega) HR1.out
    clear HW2 HB1 HR1 HK1
    have i0 : w.heap.size < w2.heap.size := HK2.out.inside
    have d14 : w2.cell? ⟨w.heap.size, 14, none⟩ = some (.bool o.on) := HK2.out.cell 14
    have f14 : w2.frozen? ⟨w.heap.size, 14, none⟩ = false := HK2.out.free 14
    go_upto_region 12 with (fail)
    have HW3 : Hid (Wrote w.heap.size w2 ((w2).setCell ⟨w.heap.size, 14, none⟩ (.bool false))) := ⟨14, [.bool false], rfl⟩
    have HK3 : Hid (Blk ((w2).setCell ⟨w.heap.size, 14, none⟩ (.bool false)) w.heap.size (({ o with m := Mp.o, r := Bx.o, on := false } : Op9).cs A c)) := (HK2.out).set 14 (.bool false)
    generalize (w2).setCell ⟨w.heap.size, 14, none⟩ (.bool false) = w3 at *
    clear i0 d14 f14
    have HB3 : Hid (Below w.heap.size w w3) := HW3.out.below HB2.out (Nat.le_refl _)
    have HR3 : Hid (Blk w3 (w.heap.size + 1) [.int .i64 0, .int .i64 0, .int .i64 0, .int .i64 0, .int .i64 0, .int .i64 0, .int .i64 0, .int .i64 0, .int .i64 0, .int .i64 0, .int .i64 0, .int .i64 0, .int .i64 0, .int .i64 0, .bool false, .int .i64 0, .int .i64 0, .int .i64 0, .int .i64 0, .int .u32 0, .int .i64 0, .int .i64 0, .slice none 0 0]) := HW3.out.blk (by omega) HR2.out
    clear HW3 HB2 HR2 HK2
    have i0 : w.heap.size < w3.heap.size := HK3.out.inside
    have d15 : w3.cell? ⟨w.heap.size, 15, none⟩ = some (.int .i64 o.N) := HK3.out.cell 15
    have f15 : w3.frozen? ⟨w.heap.size, 15, none⟩ = false := HK3.out.free 15
    go_upto_region 14 with (fail)
    have HW4 : Hid (Wrote w.heap.size w3 ((w3).setCell ⟨w.heap.size, 15, none⟩ (.int .i64 0))) := ⟨15, [.int .i64 0], rfl⟩
    have HK4 : Hid (Blk ((w3).setCell ⟨w.heap.size, 15, none⟩ (.int .i64 0)) w.heap.size (({ o with m := Mp.o, r := Bx.o, on := false, N := 0 } : Op9).cs A c)) := (HK3.out).set 15 (.int .i64 0)
    generalize (w3).setCell ⟨w.heap.size, 15, none⟩ (.int .i64 0) = w4 at *
    clear i0 d15 f15
    have HB4 : Hid (Below w.heap.size w w4) := HW4.out.below HB3.out (Nat.le_refl _)
    have HR4 : Hid (Blk w4 (w.heap.size + 1) [.int .i64 0, .int .i64 0, .int .i64 0, .int .i64 0, .int .i64 0, .int .i64 0, .int .i64 0, .int .i64 0, .int .i64 0, .int .i64 0, .int .i64 0, .int .i64 0, .int .i64 0, .int .i64 0, .bool false, .int .i64 0, .int .i64 0, .int .i64 0, .int .i64 0, .int .u32 0, .int .i64 0, .int .i64 0, .slice none 0 0]) := HW4.out.blk (by omega) HR3.out
    clear HW4 HB3 HR3 HK3
    have i0 : w.heap.size < w4.heap.size := HK4.out.inside
    go_upto_region 16 with (first | ((with_reducible show wpList _ _ _ (Oper.mk _ (Op.store _ _ _) _ _ _ _ :: _) _ _); refine wpl_stow 50 _ _ rfl rfl rfl _ 16 rfl (Lk.o.cs none 0) rfl (({ o with m := Mp.o, r := Bx.o, on := false, N := 0 } : Op9).cs A c) HK4.out (({ o with m := Mp.o, r := Bx.o, on := false, N := 0, lk := Lk.o } : Op9).cs none 0) rfl (Nat.le_of_ble_eq_true rfl) (by kernel_rfl) (Lk.one _ _ _) ?_; intro w5 HW5 HK5) | ((with_reducible show wpList _ _ _ (Oper.mk _ (Op.build _ _) _ _ _ _ :: _) _ _); refine wpl_build _ _ rfl rfl (by simp [go_sem]) (build_zl _) ?_))
    clear i0
    have HB5 : Hid (Below w.heap.size w w5) := HW5.out.below HB4.out (Nat.le_refl _)
    have HR5 : Hid (Blk w5 (w.heap.size + 1) [.int .i64 0, .int .i64 0, .int .i64 0, .int .i64 0, .int .i64 0, .int .i64 0, .int .i64 0, .int .i64 0, .int .i64 0, .int .i64 0, .int .i64 0, .int .i64 0, .int .i64 0, .int .i64 0, .bool false, .int .i64 0, .int .i64 0, .int .i64 0, .int .i64 0, .int .u32 0, .int .i64 0, .int .i64 0, .slice none 0 0]) := HW5.out.blk (by omega) HR4.out
    clear HW5 HB4 HR4 HK4
    go_wp2_with (first | ((with_reducible show wpList _ _ _ (Oper.mk _ (Op.load _ _) _ _ _ _ :: _) _ _); refine wpl_take 52 _ rfl rfl _ 0 rfl _ HK5.out (({ o with m := Mp.o, r := Bx.o, on := false, N := 0, lk := Lk.o } : Op9).cs none 0) rfl _ Try.underlying52 rfl (by kernel_rfl) ?_) | ((with_reducible show wpList _ _ _ (Oper.mk _ (Op.store _ _ _) _ _ _ _ :: _) _ _); refine wpl_stow 52 _ _ rfl rfl rfl _ 0 rfl (({ o with m := Mp.o, r := Bx.o, on := false, N := 0, lk := Lk.o } : Op9).cs none 0) rfl ([.int .i64 0, .int .i64 0, .int .i64 0, .int .i64 0, .int .i64 0, .int .i64 0, .int .i64 0, .int .i64 0, .int .i64 0, .int .i64 0, .int .i64 0, .int .i64 0, .int .i64 0, .int .i64 0, .bool false, .int .i64 0, .int .i64 0, .int .i64 0, .int .i64 0, .int .u32 0, .int .i64 0, .int .i64 0, .slice none 0 0]) HR5.out (({ o with m := Mp.o, r := Bx.o, on := false, N := 0, lk := Lk.o } : Op9).cs none 0) rfl (Nat.le_of_ble_eq_true rfl) (by kernel_rfl) (Op9.one _ _ _) ?_; intro w9 HW9 HK9))
    exact blk_ret rfl rfl HK9.out Try.underlying52 rfl (by kernel_rfl) (DOpQ.of (A9 := none) (c9 := 0) rfl (fun h => absurd rfl h) (HW9.out.below HB5.out (by omega)))
  · have tl : decide (o.k < 1) = false := decide_eq_false (by omega)
    have tg : decide (8 < o.k) = false := decide_eq_false (by omega)
    have t1 : (o.k != 1) = true := by simp [hk]
    have t3 : (o.k != 3) = true := by simp [hk]
    have t4 : (o.k != 4) = true := by simp [hk]
    have t5 : (o.k != 5) = true := by simp [hk]
    have t6 : (o.k != 6) = true := by simp [hk]
    have t7 : (o.k != 7) = true := by simp [hk]
    have t8 : (o.k != 8) = true := by simp [hk]
    obtain rfl : X = { Op9.o with k := o.k, i := o.i } := by rw [← HPX.out]; unfold plainO; rw [if_neg (by omega), if_pos hk]
    clear hk HPX
    have i0 : w.heap.size < w0.heap.size := HK0.out.inside
    have d2 : w0.cell? ⟨w.heap.size, 2, none⟩ = some (.int .i64 o.p) := HK0.out.cell 2
    have f2 : w0.frozen? ⟨w.heap.size, 2, none⟩ = false := HK0.out.free 2
    have d3 : w0.cell? ⟨w.heap.size, 3, none⟩ = some (.int .i64 o.n) := HK0.out.cell 3
    have f3 : w0.frozen? ⟨w.heap.size, 3, none⟩ = false := HK0.out.free 3
    go_upto_region 6 with (fail)
    have HW1 : Hid (Wrote w.heap.size w0 (((w0).setCell ⟨w.heap.size, 2, none⟩ (.int .i64 0)).setCell ⟨w.heap.size, 3, none⟩ (.int .i64 0))) := ⟨2, [.int .i64 0, .int .i64 0], rfl⟩
    have HK1 : Hid (Blk (((w0).setCell ⟨w.heap.size, 2, none⟩ (.int .i64 0)).setCell ⟨w.heap.size, 3, none⟩ (.int .i64 0)) w.heap.size (({ o with p := 0, n := 0 } : Op9).cs A c)) := ((HK0.out).set 2 (.int .i64 0)).set 3 (.int .i64 0)
    generalize ((w0).setCell ⟨w.heap.size, 2, none⟩ (.int .i64 0)).setCell ⟨w.heap.size, 3, none⟩ (.int .i64 0) = w1 at *
    clear i0 d2 f2 d3 f3
    have HB1 : Hid (Below w.heap.size w w1) := HW1.out.below HB0.out (Nat.le_refl _)
    have HR1 : Hid (Blk w1 (w.heap.size + 1) [.int .i64 0, .int .i64 0, .int .i64 0, .int .i64 0, .int .i64 0, .int .i64 0, .int .i64 0, .int .i64 0, .int .i64 0, .int .i64 0, .int .i64 0, .int .i64 0, .int .i64 0, .int .i64 0, .bool false, .int .i64 0, .int .i64 0, .int .i64 0, .int .i64 0, .int .u32 0, .int .i64 0, .int .i64 0, .slice none 0 0]) := HW1.out.blk (by omega) HR0.out
    clear HW1 HB0 HR0 HK0
    have i0 : w.heap.size < w1.heap.size := HK1.out.inside
    go_upto_region 8 with (first | ((with_reducible show wpList _ _ _ (Oper.mk _ (Op.store _ _ _) _ _ _ _ :: _) _ _); refine wpl_stow 41 _ _ rfl rfl rfl _ 4 rfl (Mp.o.cs) rfl (({ o with p := 0, n := 0 } : Op9).cs A c) HK1.out (({ o with p := 0, n := 0, m := Mp.o } : Op9).cs A c) rfl (Nat.le_of_ble_eq_true rfl) (by kernel_rfl) (Mp.one1 _) ?_; intro w2 HW2 HK2) | ((with_reducible show wpList _ _ _ (Oper.mk _ (Op.build _ _) _ _ _ _ :: _) _ _); refine wpl_build _ _ rfl rfl (by simp [go_sem]) (build_zm _) ?_))
    clear i0
    have HB2 : Hid (Below w.heap.size w w2) := HW2.out.below HB1.out (Nat.le_refl _)
    have HR2 : Hid (Blk w2 (w.heap.size + 1) [.int .i64 0, .int .i64 0, .int .i64 0, .int .i64 0, .int .i64 0, .int .i64 0, .int .i64 0, .int .i64 0, .int .i64 0, .int .i64 0, .int .i64 0, .int .i64 0, .int .i64 0, .int .i64 0, .bool false, .int .i64 0, .int .i64 0, .int .i64 0, .int .i64 0, .int .u32 0, .int .i64 0, .int .i64 0, .slice none 0 0]) := HW2.out.blk (by omega) HR1.out
    clear HW2 HB1 HR1 HK1
    have i0 : w.heap.size < w2.heap.size := HK2.out.inside
    go_upto_region 10 with (first | ((with_reducible show wpList _ _ _ (Oper.mk _ (Op.store _ _ _) _ _ _ _ :: _) _ _); refine wpl_stow 43 _ _ rfl rfl rfl _ 10 rfl (Bx.o.cs4) rfl (({ o with p := 0, n := 0, m := Mp.o } : Op9).cs A c) HK2.out (({ o with p := 0, n := 0, m := Mp.o, r := Bx.o } : Op9).cs A c) rfl (Nat.le_of_ble_eq_true rfl) (by kernel_rfl) rfl ?_; intro w3 HW3 HK3) | ((with_reducible show wpList _ _ _ (Oper.mk _ (Op.build _ _) _ _ _ _ :: _) _ _); refine wpl_build _ _ rfl rfl (by simp [go_sem]) (build_zr _) ?_))
    clear i0
    have HB3 : Hid (Below w.heap.size w w3) := HW3.out.below HB2.out (Nat.le_refl _)
    have HR3 : Hid (Blk w3 (w.heap.size + 1) [.int .i64 0, .int .i64 0, .int .i64 0, .int .i64 0, .int .i64 0, .int .i64 0, .int .i64 0, .int .i64 0, .int .i64 0, .int .i64 0, .int .i64 0, .int .i64 0, .int .i64 0, .int .i64 0, .bool false, .int .i64 0, .int .i64 0, .int .i64 0, .int .i64 0, .int .u32 0, .int .i64 0, .int .i64 0, .slice none 0 0]) := HW3.out.blk (by omega) HR2.out
    clear HW3 HB2 HR2 HK2
    have i0 : w.heap.size < w3.heap.size := HK3.out.inside
    have d14 : w3.cell? ⟨w.heap.size, 14, none⟩ = some (.bool o.on) := HK3.out.cell 14
    have f14 : w3.frozen? ⟨w.heap.size, 14, none⟩ = false := HK3.out.free 14
    go_upto_region 12 with (fail)
    have HW4 : Hid (Wrote w.heap.size w3 ((w3).setCell ⟨w.heap.size, 14, none⟩ (.bool false))) := ⟨14, [.bool false], rfl⟩
    have HK4 : Hid (Blk ((w3).setCell ⟨w.heap.size, 14, none⟩ (.bool false)) w.heap.size (({ o with p := 0, n := 0, m := Mp.o, r := Bx.o, on := false } : Op9).cs A c)) := (HK3.out).set 14 (.bool false)
    generalize (w3).setCell ⟨w.heap.size, 14, none⟩ (.bool false) = w4 at *
    clear i0 d14 f14
    have HB4 : Hid (Below w.heap.size w w4) := HW4.out.below HB3.out (Nat.le_refl _)
    have HR4 : Hid (Blk w4 (w.heap.size + 1) [.int .i64 0, .int .i64 0, .int .i64 0, .int .i64 0, .int .i64 0, .int .i64 0, .int .i64 0, .int .i64 0, .int .i64 0, .int .i64 0, .int .i64 0, .int .i64 0, .int .i64 0, .int .i64 0, .bool false, .int .i64 0, .int .i64 0, .int .i64 0, .int .i64 0, .int .u32 0, .int .i64 0, .int .i64 0, .slice none 0 0]) := HW4.out.blk (by omega) HR3.out
    clear HW4 HB3 HR3 HK3
    have i0 : w.heap.size < w4.heap.size := HK4.out.inside
    have d15 : w4.cell? ⟨w.heap.size, 15, none⟩ = some (.int .i64 o.N) := HK4.out.cell 15
    have f15 : w4.frozen? ⟨w.heap.size, 15, none⟩ = false := HK4.out.free 15
    go_upto_region 14 with (fail)
    have HW5 : Hid (Wrote w.heap.size w4 ((w4).setCell ⟨w.heap.size, 15, none⟩ (.int .i64 0))) := ⟨15, [.int .i64 0], rfl⟩
    have HK5 : Hid (Blk ((w4).setCell ⟨w.heap.size, 15, none⟩ (.int .i64 0)) w.heap.size (({ o with p := 0, n := 0, m := Mp.o, r := Bx.o, on := false, N := 0 } : Op9).cs A c)) := (HK4.out).set 15 (.int .i64 0)
    generalize (w4).setCell ⟨w.heap.size, 15, none⟩ (.int .i64 0) = w5 at *
    clear i0 d15 f15
    have HB5 : Hid (Below w.heap.size w w5) := HW5.out.below HB4.out (Nat.le_refl _)
    have HR5 : Hid (Blk w5 (w.heap.size + 1) [.int .i64 0, .int .i64 0, .int .i64 0, .int .i64 0, .int .i64 0, .int .i64 0, .int .i64 0, .int .i64 0, .int .i64 0, .int .i64 0, .int .i64 0, .int .i64 0, .int .i64 0, .int .i64 0, .bool false, .int .i64 0, .int .i64 0, .int .i64 0, .int .i64 0, .int .u32 0, .int .i64 0, .int .i64 0, .slice none 0 0]) := HW5.out.blk (by omega) HR4.out
    clear HW5 HB4 HR4 HK4
    have i0 : w.heap.size < w5.heap.size := HK5.out.inside
    go_upto_region 16 with (first | ((with_reducible show wpList _ _ _ (Oper.mk _ (Op.store _ _ _) _ _ _ _ :: _) _ _); refine wpl_stow 50 _ _ rfl rfl rfl _ 16 rfl (Lk.o.cs none 0) rfl (({ o with p := 0, n := 0, m := Mp.o, r := Bx.o, on := false, N := 0 } : Op9).cs A c) HK5.out (({ o with p := 0, n := 0, m := Mp.o, r := Bx.o, on := false, N := 0, lk := Lk.o } : Op9).cs none 0) rfl (Nat.le_of_ble_eq_true rfl) (by kernel_rfl) (Lk.one _ _ _) ?_; intro w6 HW6 HK6) | ((with_reducible show wpList _ _ _ (Oper.mk _ (Op.build _ _) _ _ _ _ :: _) _ _); refine wpl_build _ _ rfl rfl (by simp [go_sem]) (build_zl _) ?_))
    clear i0
    have HB6 : Hid (Below w.heap.size w w6) := HW6.out.below HB5.out (Nat.le_refl _)
    have HR6 : Hid (Blk w6 (w.heap.size + 1) [.int .i64 0, .int .i64 0, .int .i64 0, .int .i64 0, .int .i64 0, .int .i64 0, .int .i64 0, .int .i64 0, .int .i64 0, .int .i64 0, .int .i64 0, .int .i64 0, .int .i64 0, .int .i64 0, .bool false, .int .i64 0, .int .i64 0, .int .i64 0, .int .i64 0, .int .u32 0, .int .i64 0, .int .i64 0, .slice none 0 0]) := HW6.out.blk (by omega) HR5.out
    clear HW6 HB5 HR5 HK5
    go_wp2_with (first | ((with_reducible show wpList _ _ _ (Oper.mk _ (Op.load _ _) _ _ _ _ :: _) _ _); refine wpl_take 52 _ rfl rfl _ 0 rfl _ HK6.out (({ o with p := 0, n := 0, m := Mp.o, r := Bx.o, on := false, N := 0, lk := Lk.o } : Op9).cs none 0) rfl _ Try.underlying52 rfl (by kernel_rfl) ?_) | ((with_reducible show wpList _ _ _ (Oper.mk _ (Op.store _ _ _) _ _ _ _ :: _) _ _); refine wpl_stow 52 _ _ rfl rfl rfl _ 0 rfl (({ o with p := 0, n := 0, m := Mp.o, r := Bx.o, on := false, N := 0, lk := Lk.o } : Op9).cs none 0) rfl ([.int .i64 0, .int .i64 0, .int .i64 0, .int .i64 0, .int .i64 0, .int .i64 0, .int .i64 0, .int .i64 0, .int .i64 0, .int .i64 0, .int .i64 0, .int .i64 0, .int .i64 0, .int .i64 0, .bool false, .int .i64 0, .int .i64 0, .int .i64 0, .int .i64 0, .int .u32 0, .int .i64 0, .int .i64 0, .slice none 0 0]) HR6.out (({ o with p := 0, n := 0, m := Mp.o, r := Bx.o, on := false, N := 0, lk := Lk.o } : Op9).cs none 0) rfl (Nat.le_of_ble_eq_true rfl) (by kernel_rfl) (Op9.one _ _ _) ?_; intro w9 HW9 HK9))
    exact blk_ret rfl rfl HK9.out Try.underlying52 rfl (by kernel_rfl) (DOpQ.of (A9 := none) (c9 := 0) rfl (fun h => absurd rfl h) (HW9.out.below HB6.out (by omega)))
  · have tl : decide (o.k < 1) = false := decide_eq_false (by omega)
    have tg : decide (8 < o.k) = false := decide_eq_false (by omega)
    have t1 : (o.k != 1) = true := by simp [hk]
    have t3 : (o.k != 3) = false := by simp [hk]
    have t4 : (o.k != 4) = true := by simp [hk]
    have t5 : (o.k != 5) = true := by simp [hk]
    have t6 : (o.k != 6) = true := by simp [hk]
    have t7 : (o.k != 7) = true := by simp [hk]
    have t8 : (o.k != 8) = true := by simp [hk]
    obtain rfl : X = { Op9.o with k := o.k, i := o.i, p := o.p, n := o.n } := by rw [← HPX.out]; unfold plainO; rw [if_pos (Or.inr hk)]
    clear hk HPX
    have i0 : w.heap.size < w0.heap.size := HK0.out.inside
    go_upto_region 8 with (first | ((with_reducible show wpList _ _ _ (Oper.mk _ (Op.store _ _ _) _ _ _ _ :: _) _ _); refine wpl_stow 41 _ _ rfl rfl rfl _ 4 rfl (Mp.o.cs) rfl (o.cs A c) HK0.out (({ o with m := Mp.o } : Op9).cs A c) rfl (Nat.le_of_ble_eq_true rfl) (by kernel_rfl) (Mp.one1 _) ?_; intro w1 HW1 HK1) | ((with_reducible show wpList _ _ _ (Oper.mk _ (Op.build _ _) _ _ _ _ :: _) _ _); refine wpl_build _ _ rfl rfl (by simp [go_sem]) (build_zm _) ?_))
    clear i0
    have HB1 : Hid (Below w.heap.size w w1) := HW1.out.below HB0.out (Nat.le_refl _)
    have HR1 : Hid (Blk w1 (w.heap.size + 1) [.int .i64 0, .int .i64 0, .int .i64 0, .int .i64 0, .int .i64 0, .int .i64 0, .int .i64 0, .int .i64 0, .int .i64 0, .int .i64 0, .int .i64 0, .int .i64 0, .int .i64 0, .int .i64 0, .bool false, .int .i64 0, .int .i64 0, .int .i64 0, .int .i64 0, .int .u32 0, .int .i64 0, .int .i64 0, .slice none 0 0]) := HW1.out.blk (by omega) HR0.out
    clear HW1 HB0 HR0 HK0
    have i0 : w.heap.size < w1.heap.size := HK1.out.inside
    go_upto_region 10 with (first | ((with_reducible show wpList _ _ _ (Oper.mk _ (Op.store _ _ _) _ _ _ _ :: _) _ _); refine wpl_stow 43 _ _ rfl rfl rfl _ 10 rfl (Bx.o.cs4) rfl (({ o with m := Mp.o } : Op9).cs A c) HK1.out (({ o with m := Mp.o, r := Bx.o } : Op9).cs A c) rfl (Nat.le_of_ble_eq_true rfl) (by kernel_rfl) rfl ?_; intro w2 HW2 HK2) | ((with_reducible show wpList _ _ _ (Oper.mk _ (Op.build _ _) _ _ _ _ :: _) _ _); refine wpl_build _ _ rfl rfl (by simp [go_sem]) (build_zr _) ?_))
    clear i0
    have HB2 : Hid (Below w.heap.size w w2) := HW2.out.below HB1.out (Nat.le_refl _)
    have HR2 : Hid (Blk w2 (w.heap.size + 1) [.int .i64 0, .int .i64 0, .int .i64 0, .int .i64 0, .int .i64 0, .int .i64 0, .int .i64 0, .int .i64 0, .int .i64 0, .int .i64 0, .int .i64 0, .int .i64 0, .int .i64 0, .int .i64 0, .bool false, .int .i64 0, .int .i64 0, .int .i64 0, .int .i64 0, .int .u32 0, .int .i64 0, .int .i64 0, .slice none 0 0]) := HW2.out.blk (by omega) HR1.out
    clear HW2 HB1 HR1 HK1
    have i0 : w.heap.size < w2.heap.size := HK2.out.inside
    have d14 : w2.cell? ⟨w.heap.size, 14, none⟩ = some (.bool o.on) := HK2.out.cell 14
    have f14 : w2.frozen? ⟨w.heap.size, 14, none⟩ = false := HK2.out.free 14
    go_upto_region 12 with (fail)
    have HW3 : Hid (Wrote w.heap.size w2 ((w2).setCell ⟨w.heap.size, 14, none⟩ (.bool false))) := ⟨14, [.bool false], rfl⟩
    have HK3 : Hid (Blk ((w2).setCell ⟨w.heap.size, 14, none⟩ (.bool false)) w.heap.size (({ o with m := Mp.o, r := Bx.o, on := false } : Op9).cs A c)) := (HK2.out).set 14 (.bool false)
    generalize (w2).setCell ⟨w.heap.size, 14, none⟩ (.bool false) = w3 at *
    clear i0 d14 f14
    have HB3 : Hid (Below w.heap.size w w3) := HW3.out.below HB2.out (Nat.le_refl _)
    have HR3 : Hid (Blk w3 (w.heap.size + 1) [.int .i64 0, .int .i64 0, .int .i64 0, .int .i64 0, .int .i64 0, .int .i64 0, .int .i64 0, .int .i64 0, .int .i64 0, .int .i64 0, .int .i64 0, .int .i64 0, .int .i64 0, .int .i64 0, .bool false, .int .i64 0, .int .i64 0, .int .i64 0, .int .i64 0, .int .u32 0, .int .i64 0, .int .i64 0, .slice none 0 0]) := HW3.out.blk (by omega) HR2.out
    clear HW3 HB2 HR2 HK2
    have i0 : w.heap.size < w3.heap.size := HK3.out.inside
    have d15 : w3.cell? ⟨w.heap.size, 15, none⟩ = some (.int .i64 o.N) := HK3.out.cell 15
    have f15 : w3.frozen? ⟨w.heap.size, 15, none⟩ = false := HK3.out.free 15
    go_upto_region 14 with (fail)
    have HW4 : Hid (Wrote w.heap.size w3 ((w3).setCell ⟨w.heap.size, 15, none⟩ (.int .i64 0))) := ⟨15, [.int .i64 0], rfl⟩
    have HK4 : Hid (Blk ((w3).setCell ⟨w.heap.size, 15, none⟩ (.int .i64 0)) w.heap.size (({ o with m := Mp.o, r := Bx.o, on := false, N := 0 } : Op9).cs A c)) := (HK3.out).set 15 (.int .i64 0)
    generalize (w3).setCell ⟨w.heap.size, 15, none⟩ (.int .i64 0) = w4 at *
    clear i0 d15 f15
    have HB4 : Hid (Below w.heap.size w w4) := HW4.out.below HB3.out (Nat.le_refl _)
    have HR4 : Hid (Blk w4 (w.heap.size + 1) [.int .i64 0, .int .i64 0, .int .i64 0, .int .i64 0, .int .i64 0, .int .i64 0, .int .i64 0, .int .i64 0, .int .i64 0, .int .i64 0, .int .i64 0, .int .i64 0, .int .i64 0, .int .i64 0, .bool false, .int .i64 0, .int .i64 0, .int .i64 0, .int .i64 0, .int .u32 0, .int .i64 0, .int .i64 0, .slice none 0 0]) := HW4.out.blk (by omega) HR3.out
    clear HW4 HB3 HR3 HK3
    have i0 : w.heap.size < w4.heap.size := HK4.out.inside
    go_upto_region 16 with (first | ((with_reducible show wpList _ _ _ (Oper.mk _ (Op.store _ _ _) _ _ _ _ :: _) _ _); refine wpl_stow 50 _ _ rfl rfl rfl _ 16 rfl (Lk.o.cs none 0) rfl (({ o with m := Mp.o, r := Bx.o, on := false, N := 0 } : Op9).cs A c) HK4.out (({ o with m := Mp.o, r := Bx.o, on := false, N := 0, lk := Lk.o } : Op9).cs none 0) rfl (Nat.le_of_ble_eq_true rfl) (by kernel_rfl) (Lk.one _ _ _) ?_; intro w5 HW5 HK5) | ((with_reducible show wpList _ _ _ (Oper.mk _ (Op.build _ _) _ _ _ _ :: _) _ _); refine wpl_build _ _ rfl rfl (by simp [go_sem]) (build_zl _) ?_))
    clear i0
    have HB5 : Hid (Below w.heap.size w w5) := HW5.out.below HB4.out (Nat.le_refl _)
    have HR5 : Hid (Blk w5 (w.heap.size + 1) [.int .i64 0, .int .i64 0, .int .i64 0, .int .i64 0, .int .i64 0, .int .i64 0, .int .i64 0, .int .i64 0, .int .i64 0, .int .i64 0, .int .i64 0, .int .i64 0, .int .i64 0, .int .i64 0, .bool false, .int .i64 0, .int .i64 0, .int .i64 0, .int .i64 0, .int .u32 0, .int .i64 0, .int .i64 0, .slice none 0 0]) := HW5.out.blk (by omega) HR4.out
    clear HW5 HB4 HR4 HK4
    go_wp2_with (first | ((with_reducible show wpList _ _ _ (Oper.mk _ (Op.load _ _) _ _ _ _ :: _) _ _); refine wpl_take 52 _ rfl rfl _ 0 rfl _ HK5.out (({ o with m := Mp.o, r := Bx.o, on := false, N := 0, lk := Lk.o } : Op9).cs none 0) rfl _ Try.underlying52 rfl (by kernel_rfl) ?_) | ((with_reducible show wpList _ _ _ (Oper.mk _ (Op.store _ _ _) _ _ _ _ :: _) _ _); refine wpl_stow 52 _ _ rfl rfl rfl _ 0 rfl (({ o with m := Mp.o, r := Bx.o, on := false, N := 0, lk := Lk.o } : Op9).cs none 0) rfl ([.int .i64 0, .int .i64 0, .int .i64 0, .int .i64 0, .int .i64 0, .int .i64 0, .int .i64 0, .int .i64 0, .int .i64 0, .int .i64 0, .int .i64 0, .int .i64 0, .int .i64 0, .int .i64 0, .bool false, .int .i64 0, .int .i64 0, .int .i64 0, .int .i64 0, .int .u32 0, .int .i64 0, .int .i64 0, .slice none 0 0]) HR5.out (({ o with m := Mp.o, r := Bx.o, on := false, N := 0, lk := Lk.o } : Op9).cs none 0) rfl (Nat.le_of_ble_eq_true rfl) (by kernel_rfl) (Op9.one _ _ _) ?_; intro w9 HW9 HK9))
    exact blk_ret rfl rfl HK9.out Try.underlying52 rfl (by kernel_rfl) (DOpQ.of (A9 := none) (c9 := 0) rfl (fun h => absurd rfl h) (HW9.out.below HB5.out (by omega)))
  · have tl : decide (o.k < 1) = false := decide_eq_false (by omega)
    have tg : decide (8 < o.k) = false := decide_eq_false (by omega)
    have t1 : (o.k != 1) = true := by simp [hk]
    have t3 : (o.k != 3) = true := by simp [hk]
    have t4 : (o.k != 4) = false := by simp [hk]
    have t5 : (o.k != 5) = true := by simp [hk]
    have t6 : (o.k != 6) = true := by simp [hk]
    have t7 : (o.k != 7) = true := by simp [hk]
    have t8 : (o.k != 8) = true := by simp [hk]
    obtain rfl : X = { Op9.o with k := o.k, i := o.i, m := o.m } := by rw [← HPX.out]; unfold plainO; rw [if_neg (by omega), if_neg (by omega), if_pos hk]
    clear hk HPX
    have i0 : w.heap.size < w0.heap.size := HK0.out.inside
    have d2 : w0.cell? ⟨w.heap.size, 2, none⟩ = some (.int .i64 o.p) := HK0.out.cell 2
    have f2 : w0.frozen? ⟨w.heap.size, 2, none⟩ = false := HK0.out.free 2
    have d3 : w0.cell? ⟨w.heap.size, 3, none⟩ = some (.int .i64 o.n) := HK0.out.cell 3
    have f3 : w0.frozen? ⟨w.heap.size, 3, none⟩ = false := HK0.out.free 3
    go_upto_region 6 with (fail)
    have HW1 : Hid (Wrote w.heap.size w0 (((w0).setCell ⟨w.heap.size, 2, none⟩ (.int .i64 0)).setCell ⟨w.heap.size, 3, none⟩ (.int .i64 0))) := ⟨2, [.int .i64 0, .int .i64 0], rfl⟩
    have HK1 : Hid (Blk (((w0).setCell ⟨w.heap.size, 2, none⟩ (.int .i64 0)).setCell ⟨w.heap.size, 3, none⟩ (.int .i64 0)) w.heap.size (({ o with p := 0, n := 0 } : Op9).cs A c)) := ((HK0.out).set 2 (.int .i64 0)).set 3 (.int .i64 0)
    generalize ((w0).setCell ⟨w.heap.size, 2, none⟩ (.int .i64 0)).setCell ⟨w.heap.size, 3, none⟩ (.int .i64 0) = w1 at *
    clear i0 d2 f2 d3 f3
    have HB1 : Hid (Below w.heap.size w w1) := HW1.out.below HB0.out (Nat.le_refl _)
    have HR1 : Hid (Blk w1 (w.heap.size + 1) [.int .i64 0, .int .i64 0, .int .i64 0, .int .i64 0, .int .i64 0, .int .i64 0, .int .i64 0, .int .i64 0, .int .i64 0, .int .i64 0, .int .i64 0, .int .i64 0, .int .i64 0, .int .i64 0, .bool false, .int .i64 0, .int .i64 0, .int .i64 0, .int .i64 0, .int .u32 0, .int .i64 0, .int .i64 0, .slice none 0 0]) := HW1.out.blk (by omega) HR0.out
    clear HW1 HB0 HR0 HK0
    have i0 : w.heap.size < w1.heap.size := HK1.out.inside
    go_upto_region 10 with (first | ((with_reducible show wpList _ _ _ (Oper.mk _ (Op.store _ _ _) _ _ _ _ :: _) _ _); refine wpl_stow 43 _ _ rfl rfl rfl _ 10 rfl (Bx.o.cs4) rfl (({ o with p := 0, n := 0 } : Op9).cs A c) HK1.out (({ o with p := 0, n := 0, r := Bx.o } : Op9).cs A c) rfl (Nat.le_of_ble_eq_true rfl) (by kernel_rfl) rfl ?_; intro w2 HW2 HK2) | ((with_reducible show wpList _ _ _ (Oper.mk _ (Op.build _ _) _ _ _ _ :: _) _ _); refine wpl_build _ _ rfl rfl (by simp [go_sem]) (build_zr _) ?_))
    clear i0
    have HB2 : Hid (Below w.heap.size w w2) := HW2.out.below HB1.out (Nat.le_refl _)
    have HR2 : Hid (Blk w2 (w.heap.size + 1) [.int .i64 0, .int .i64 0, .int .i64 0, .int .i64 0, .int .i64 0, .int .i64 0, .int .i64 0, .int .i64 0, .int .i64 0, .int .i64 0, .int .i64 0, .int .i64 0, .int .i64 0, .int .i64 0, .bool false, .int .i64 0, .int .i64 0, .int .i64 0, .int .i64 0, .int .u32 0, .int .i64 0, .int .i64 0, .slice none 0 0]) := HW2.out.blk (by omega) HR1.out
    clear HW2 HB1 HR1 HK1
    have i0 : w.heap.size < w2.heap.size := HK2.out.inside
    have d14 : w2.cell? ⟨w.heap.size, 14, none⟩ = some (.bool o.on) := HK2.out.cell 14
    have f14 : w2.frozen? ⟨w.heap.size, 14, none⟩ = false := HK2.out.free 14
    go_upto_region 12 with (fail)
    have HW3 : Hid (Wrote w.heap.size w2 ((w2).setCell ⟨w.heap.size, 14, none⟩ (.bool false))) := ⟨14, [.bool false], rfl⟩
    have HK3 : Hid (Blk ((w2).setCell ⟨w.heap.size, 14, none⟩ (.bool false)) w.heap.size (({ o with p := 0, n := 0, r := Bx.o, on := false } : Op9).cs A c)) := (HK2.out).set 14 (.bool false)
    generalize (w2).setCell ⟨w.heap.size, 14, none⟩ (.bool false) = w3 at *
    clear i0 d14 f14
    have HB3 : Hid (Below w.heap.size w w3) := HW3.out.below HB2.out (Nat.le_refl _)
    have HR3 : Hid (Blk w3 (w.heap.size + 1) [.int .i64 0, .int .i64 0, .int .i64 0, .int .i64 0, .int .i64 0, .int .i64 0, .int .i64 0, .int .i64 0, .int .i64 0, .int .i64 0, .int .i64 0, .int .i64 0, .int .i64 0, .int .i64 0, .bool false, .int .i64 0, .int .i64 0, .int .i64 0, .int .i64 0, .int .u32 0, .int .i64 0, .int .i64 0, .slice none 0 0]) := HW3.out.blk (by omega) HR2.out
    clear HW3 HB2 HR2 HK2
    have i0 : w.heap.size < w3.heap.size := HK3.out.inside
    have d15 : w3.cell? ⟨w.heap.size, 15, none⟩ = some (.int .i64 o.N) := HK3.out.cell 15
    have f15 : w3.frozen? ⟨w.heap.size, 15, none⟩ = false := HK3.out.free 15
    go_upto_region 14 with (fail)
    have HW4 : Hid (Wrote w.heap.size w3 ((w3).setCell ⟨w.heap.size, 15, none⟩ (.int .i64 0))) := ⟨15, [.int .i64 0], rfl⟩
    have HK4 : Hid (Blk ((w3).setCell ⟨w.heap.size, 15, none⟩ (.int .i64 0)) w.heap.size (({ o with p := 0, n := 0, r := Bx.o, on := false, N := 0 } : Op9).cs A c)) := (HK3.out).set 15 (.int .i64 0)
    generalize (w3).setCell ⟨w.heap.size, 15, none⟩ (.int .i64 0) = w4 at *
    clear i0 d15 f15
    have HB4 : Hid (Below w.heap.size w w4) := HW4.out.below HB3.out (Nat.le_refl _)
    have HR4 : Hid (Blk w4 (w.heap.size + 1) [.int .i64 0, .int .i64 0, .int .i64 0, .int .i64 0, .int .i64 0, .int .i64 0, .int .i64 0, .int .i64 0, .int .i64 0, .int .i64 0, .int .i64 0, .int .i64 0, .int .i64 0, .int .i64 0, .bool false, .int .i64 0, .int .i64 0, .int .i64 0, .int .i64 0, .int .u32 0, .int .i64 0, .int .i64 0, .slice none 0 0]) := HW4.out.blk (by omega) HR3.out
    clear HW4 HB3 HR3 HK3
    have i0 : w.heap.size < w4.heap.size := HK4.out.inside
    go_upto_region 16 with (first | ((with_reducible show wpList _ _ _ (Oper.mk _ (Op.store _ _ _) _ _ _ _ :: _) _ _); refine wpl_stow 50 _ _ rfl rfl rfl _ 16 rfl (Lk.o.cs none 0) rfl (({ o with p := 0, n := 0, r := Bx.o, on := false, N := 0 } : Op9).cs A c) HK4.out (({ o with p := 0, n := 0, r := Bx.o, on := false, N := 0, lk := Lk.o } : Op9).cs none 0) rfl (Nat.le_of_ble_eq_true rfl) (by kernel_rfl) (Lk.one _ _ _) ?_; intro w5 HW5 HK5) | ((with_reducible show wpList _ _ _ (Oper.mk _ (Op.build _ _) _ _ _ _ :: _) _ _); refine wpl_build _ _ rfl rfl (by simp [go_sem]) (build_zl _) ?_))
    clear i0
    have HB5 : Hid (Below w.heap.size w w5) := HW5.out.below HB4.out (Nat.le_refl _)
    have HR5 : Hid (Blk w5 (w.heap.size + 1) [.int .i64 0, .int .i64 0, .int .i64 0, .int .i64 0, .int .i64 0, .int .i64 0, .int .i64 0, .int .i64 0, .int .i64 0, .int .i64 0, .int .i64 0, .int .i64 0, .int .i64 0, .int .i64 0, .bool false, .int .i64 0, .int .i64 0, .int .i64 0, .int .i64 0, .int .u32 0, .int .i64 0, .int .i64 0, .slice none 0 0]) := HW5.out.blk (by omega) HR4.out
    clear HW5 HB4 HR4 HK4
    go_wp2_with (first | ((with_reducible show wpList _ _ _ (Oper.mk _ (Op.load _ _) _ _ _ _ :: _) _ _); refine wpl_take 52 _ rfl rfl _ 0 rfl _ HK5.out (({ o with p := 0, n := 0, r := Bx.o, on := false, N := 0, lk := Lk.o } : Op9).cs none 0) rfl _ Try.underlying52 rfl (by kernel_rfl) ?_) | ((with_reducible show wpList _ _ _ (Oper.mk _ (Op.store _ _ _) _ _ _ _ :: _) _ _); refine wpl_stow 52 _ _ rfl rfl rfl _ 0 rfl (({ o with p := 0, n := 0, r := Bx.o, on := false, N := 0, lk := Lk.o } : Op9).cs none 0) rfl ([.int .i64 0, .int .i64 0, .int .i64 0, .int .i64 0, .int .i64 0, .int .i64 0, .int .i64 0, .int .i64 0, .int .i64 0, .int .i64 0, .int .i64 0, .int .i64 0, .int .i64 0, .int .i64 0, .bool false, .int .i64 0, .int .i64 0, .int .i64 0, .int .i64 0, .int .u32 0, .int .i64 0, .int .i64 0, .slice none 0 0]) HR5.out (({ o with p := 0, n := 0, r := Bx.o, on := false, N := 0, lk := Lk.o } : Op9).cs none 0) rfl (Nat.le_of_ble_eq_true rfl) (by kernel_rfl) (Op9.one _ _ _) ?_; intro w9 HW9 HK9))
    exact blk_ret rfl rfl HK9.out Try.underlying52 rfl (by kernel_rfl) (DOpQ.of (A9 := none) (c9 := 0) rfl (fun h => absurd rfl h) (HW9.out.below HB5.out (by omega)))
  · have tl : decide (o.k < 1) = false := decide_eq_false (by omega)
    have tg : decide (8 < o.k) = false := decide_eq_false (by omega)
    have t1 : (o.k != 1) = true := by simp [hk]
    have t3 : (o.k != 3) = true := by simp [hk]
    have t4 : (o.k != 4) = true := by simp [hk]
    have t5 : (o.k != 5) = false := by simp [hk]
    have t6 : (o.k != 6) = true := by simp [hk]
    have t7 : (o.k != 7) = true := by simp [hk]
    have t8 : (o.k != 8) = true := by simp [hk]
    obtain rfl : X = { Op9.o with k := o.k, i := o.i, on := o.on, r := o.r } := by rw [← HPX.out]; unfold plainO; rw [if_neg (by omega), if_neg (by omega), if_neg (by omega), if_pos hk]
    clear hk HPX
    have i0 : w.heap.size < w0.heap.size := HK0.out.inside
    have d2 : w0.cell? ⟨w.heap.size, 2, none⟩ = some (.int .i64 o.p) := HK0.out.cell 2
    have f2 : w0.frozen? ⟨w.heap.size, 2, none⟩ = false := HK0.out.free 2
    have d3 : w0.cell? ⟨w.heap.size, 3, none⟩ = some (.int .i64 o.n) := HK0.out.cell 3
    have f3 : w0.frozen? ⟨w.heap.size, 3, none⟩ = false := HK0.out.free 3
    go_upto_region 6 with (fail)
    have HW1 : Hid (Wrote w.heap.size w0 (((w0).setCell ⟨w.heap.size, 2, none⟩ (.int .i64 0)).setCell ⟨w.heap.size, 3, none⟩ (.int .i64 0))) := ⟨2, [.int .i64 0, .int .i64 0], rfl⟩
    have HK1 : Hid (Blk (((w0).setCell ⟨w.heap.size, 2, none⟩ (.int .i64 0)).setCell ⟨w.heap.size, 3, none⟩ (.int .i64 0)) w.heap.size (({ o with p := 0, n := 0 } : Op9).cs A c)) := ((HK0.out).set 2 (.int .i64 0)).set 3 (.int .i64 0)
    generalize ((w0).setCell ⟨w.heap.size, 2, none⟩ (.int .i64 0)).setCell ⟨w.heap.size, 3, none⟩ (.int .i64 0) = w1 at *
    clear i0 d2 f2 d3 f3
    have HB1 : Hid (Below w.heap.size w w1) := HW1.out.below HB0.out (Nat.le_refl _)
    have HR1 : Hid (Blk w1 (w.heap.size + 1) [.int .i64 0, .int .i64 0, .int .i64 0, .int .i64 0, .int .i64 0, .int .i64 0, .int .i64 0, .int .i64 0, .int .i64 0, .int .i64 0, .int .i64 0, .int .i64 0, .int .i64 0, .int .i64 0, .bool false, .int .i64 0, .int .i64 0, .int .i64 0, .int .i64 0, .int .u32 0, .int .i64 0, .int .i64 0, .slice none 0 0]) := HW1.out.blk (by omega) HR0.out
    clear HW1 HB0 HR0 HK0
    have i0 : w.heap.size < w1.heap.size := HK1.out.inside
    go_upto_region 8 with (first | ((with_reducible show wpList _ _ _ (Oper.mk _ (Op.store _ _ _) _ _ _ _ :: _) _ _); refine wpl_stow 41 _ _ rfl rfl rfl _ 4 rfl (Mp.o.cs) rfl (({ o with p := 0, n := 0 } : Op9).cs A c) HK1.out (({ o with p := 0, n := 0, m := Mp.o } : Op9).cs A c) rfl (Nat.le_of_ble_eq_true rfl) (by kernel_rfl) (Mp.one1 _) ?_; intro w2 HW2 HK2) | ((with_reducible show wpList _ _ _ (Oper.mk _ (Op.build _ _) _ _ _ _ :: _) _ _); refine wpl_build _ _ rfl rfl (by simp [go_sem]) (build_zm _) ?_))
    clear i0
    have HB2 : Hid (Below w.heap.size w w2) := HW2.out.below HB1.out (Nat.le_refl _)
    have HR2 : Hid (Blk w2 (w.heap.size + 1) [.int .i64 0, .int .i64 0, .int .i64 0, .int .i64 0, .int .i64 0, .int .i64 0, .int .i64 0, .int .i64 0, .int .i64 0, .int .i64 0, .int .i64 0, .int .i64 0, .int .i64 0, .int .i64 0, .bool false, .int .i64 0, .int .i64 0, .int .i64 0, .int .i64 0, .int .u32 0, .int .i64 0, .int .i64 0, .slice none 0 0]) := HW2.out.blk (by omega) HR1.out
    clear HW2 HB1 HR1 HK1
    have i0 : w.heap.size < w2.heap.size := HK2.out.inside
    have d15 : w2.cell? ⟨w.heap.size, 15, none⟩ = some (.int .i64 o.N) := HK2.out.cell 15
    have f15 : w2.frozen? ⟨w.heap.size, 15, none⟩ = false := HK2.out.free 15
    go_upto_region 14 with (fail)
    have HW3 : Hid (Wrote w.heap.size w2 ((w2).setCell ⟨w.heap.size, 15, none⟩ (.int .i64 0))) := ⟨15, [.int .i64 0], rfl⟩
    have HK3 : Hid (Blk ((w2).setCell ⟨w.heap.size, 15, none⟩ (.int .i64 0)) w.heap.size (({ o with p := 0, n := 0, m := Mp.o, N := 0 } : Op9).cs A c)) := (HK2.out).set 15 (.int .i64 0)
    generalize (w2).setCell ⟨w.heap.size, 15, none⟩ (.int .i64 0) = w3 at *
    clear i0 d15 f15
    have HB3 : Hid (Below w.heap.size w w3) := HW3.out.below HB2.out (Nat.le_refl _)
    have HR3 : Hid (Blk w3 (w.heap.size + 1) [.int .i64 0, .int .i64 0, .int .i64 0, .int .i64 0, .int .i64 0, .int .i64 0, .int .i64 0, .int .i64 0, .int .i64 0, .int .i64 0, .int .i64 0, .int .i64 0, .int .i64 0, .int .i64 0, .bool false, .int .i64 0, .int .i64 0, .int .i64 0, .int .i64 0, .int .u32 0, .int .i64 0, .int .i64 0, .slice none 0 0]) := HW3.out.blk (by omega) HR2.out
    clear HW3 HB2 HR2 HK2
    have i0 : w.heap.size < w3.heap.size := HK3.out.inside
    go_upto_region 16 with (first | ((with_reducible show wpList _ _ _ (Oper.mk _ (Op.store _ _ _) _ _ _ _ :: _) _ _); refine wpl_stow 50 _ _ rfl rfl rfl _ 16 rfl (Lk.o.cs none 0) rfl (({ o with p := 0, n := 0, m := Mp.o, N := 0 } : Op9).cs A c) HK3.out (({ o with p := 0, n := 0, m := Mp.o, N := 0, lk := Lk.o } : Op9).cs none 0) rfl (Nat.le_of_ble_eq_true rfl) (by kernel_rfl) (Lk.one _ _ _) ?_; intro w4 HW4 HK4) | ((with_reducible show wpList _ _ _ (Oper.mk _ (Op.build _ _) _ _ _ _ :: _) _ _); refine wpl_build _ _ rfl rfl (by simp [go_sem]) (build_zl _) ?_))
    clear i0
    have HB4 : Hid (Below w.heap.size w w4) := HW4.out.below HB3.out (Nat.le_refl _)
    have HR4 : Hid (Blk w4 (w.heap.size + 1) [.int .i64 0, .int .i64 0, .int .i64 0, .int .i64 0, .int .i64 0, .int .i64 0, .int .i64 0, .int .i64 0, .int .i64 0, .int .i64 0, .int .i64 0, .int .i64 0, .int .i64 0, .int .i64 0, .bool false, .int .i64 0, .int .i64 0, .int .i64 0, .int .i64 0, .int .u32 0, .int .i64 0, .int .i64 0, .slice none 0 0]) := HW4.out.blk (by omega) HR3.out
    clear HW4 HB3 HR3 HK3
    go_wp2_with (first | ((with_reducible show wpList _ _ _ (Oper.mk _ (Op.load _ _) _ _ _ _ :: _) _ _); refine wpl_take 52 _ rfl rfl _ 0 rfl _ HK4.out (({ o with p := 0, n := 0, m := Mp.o, N := 0, lk := Lk.o } : Op9).cs none 0) rfl _ Try.underlying52 rfl (by kernel_rfl) ?_) | ((with_reducible show wpList _ _ _ (Oper.mk _ (Op.store _ _ _) _ _ _ _ :: _) _ _); refine wpl_stow 52 _ _ rfl rfl rfl _ 0 rfl (({ o with p := 0, n := 0, m := Mp.o, N := 0, lk := Lk.o } : Op9).cs none 0) rfl ([.int .i64 0, .int .i64 0, .int .i64 0, .int .i64 0, .int .i64 0, .int .i64 0, .int .i64 0, .int .i64 0, .int .i64 0, .int .i64 0, .int .i64 0, .int .i64 0, .int .i64 0, .int .i64 0, .bool false, .int .i64 0, .int .i64 0, .int .i64 0, .int .i64 0, .int .u32 0, .int .i64 0, .int .i64 0, .slice none 0 0]) HR4.out (({ o with p := 0, n := 0, m := Mp.o, N := 0, lk := Lk.o } : Op9).cs none 0) rfl (Nat.le_of_ble_eq_true rfl) (by kernel_rfl) (Op9.one _ _ _) ?_; intro w9 HW9 HK9))
    exact blk_ret rfl rfl HK9.out Try.underlying52 rfl (by kernel_rfl) (DOpQ.of (A9 := none) (c9 := 0) rfl (fun h => absurd rfl h) (HW9.out.below HB4.out (by omega)))
  · have tl : decide (o.k < 1) = false := decide_eq_false (by omega)
    have tg : decide (8 < o.k) = false := decide_eq_false (by omega)
    have t1 : (o.k != 1) = true := by simp [hk]
    have t3 : (o.k != 3) = true := by simp [hk]
    have t4 : (o.k != 4) = true := by simp [hk]
    have t5 : (o.k != 5) = true := by simp [hk]
    have t6 : (o.k != 6) = false := by simp [hk]
    have t7 : (o.k != 7) = true := by simp [hk]
    have t8 : (o.k != 8) = true := by simp [hk]
    obtain rfl : X = { Op9.o with k := o.k, i := o.i, N := o.N } := by rw [← HPX.out]; unfold plainO; rw [if_neg (by omega), if_neg (by omega), if_neg (by omega), if_neg (by omega), if_pos hk]
    clear hk HPX
    have i0 : w.heap.size < w0.heap.size := HK0.out.inside
    have d2 : w0.cell? ⟨w.heap.size, 2, none⟩ = some (.int .i64 o.p) := HK0.out.cell 2
    have f2 : w0.frozen? ⟨w.heap.size, 2, none⟩ = false := HK0.out.free 2
    have d3 : w0.cell? ⟨w.heap.size, 3, none⟩ = some (.int .i64 o.n) := HK0.out.cell 3
    have f3 : w0.frozen? ⟨w.heap.size, 3, none⟩ = false := HK0.out.free 3
    go_upto_region 6 with (fail)
    have HW1 : Hid (Wrote w.heap.size w0 (((w0).setCell ⟨w.heap.size, 2, none⟩ (.int .i64 0)).setCell ⟨w.heap.size, 3, none⟩ (.int .i64 0))) := ⟨2, [.int .i64 0, .int .i64 0], rfl⟩
    have HK1 : Hid (Blk (((w0).setCell ⟨w.heap.size, 2, none⟩ (.int .i64 0)).setCell ⟨w.heap.size, 3, none⟩ (.int .i64 0)) w.heap.size (({ o with p := 0, n := 0 } : Op9).cs A c)) := ((HK0.out).set 2 (.int .i64 0)).set 3 (.int .i64 0)
    generalize ((w0).setCell ⟨w.heap.size, 2, none⟩ (.int .i64 0)).setCell ⟨w.heap.size, 3, none⟩ (.int .i64 0) = w1 at *
    clear i0 d2 f2 d3 f3
    have HB1 : Hid (Below w.heap.size w w1) := HW1.out.below HB0.out (Nat.le_refl _)
    have HR1 : Hid (Blk w1 (w.heap.size + 1) [.int .i64 0, .int .i64 0, .int .i64 0, .int .i64 0, .int .i64 0, .int .i64 0, .int .i64 0, .int .i64 0, .int .i64 0, .int .i64 0, .int .i64 0, .int .i64 0, .int .i64 0, .int .i64 0, .bool false, .int .i64 0, .int .i64 0, .int .i64 0, .int .i64 0, .int .u32 0, .int .i64 0, .int .i64 0, .slice none 0 0]) := HW1.out.blk (by omega) HR0.out
    clear HW1 HB0 HR0 HK0
    have i0 : w.heap.size < w1.heap.size := HK1.out.inside
    go_upto_region 8 with (first | ((with_reducible show wpList _ _ _ (Oper.mk _ (Op.store _ _ _) _ _ _ _ :: _) _ _); refine wpl_stow 41 _ _ rfl rfl rfl _ 4 rfl (Mp.o.cs) rfl (({ o with p := 0, n := 0 } : Op9).cs A c) HK1.out (({ o with p := 0, n := 0, m := Mp.o } : Op9).cs A c) rfl (Nat.le_of_ble_eq_true rfl) (by kernel_rfl) (Mp.one1 _) ?_; intro w2 HW2 HK2) | ((with_reducible show wpList _ _ _ (Oper.mk _ (Op.build _ _) _ _ _ _ :: _) _ _); refine wpl_build _ _ rfl rfl (by simp [go_sem]) (build_zm _) ?_))
    clear i0
    have HB2 : Hid (Below w.heap.size w w2) := HW2.out.below HB1.out (Nat.le_refl _)
    have HR2 : Hid (Blk w2 (w.heap.size + 1) [.int .i64 0, .int .i64 0, .int .i64 0, .int .i64 0, .int .i64 0, .int .i64 0, .int .i64 0, .int .i64 0, .int .i64 0, .int .i64 0, .int .i64 0, .int .i64 0, .int .i64 0, .int .i64 0, .bool false, .int .i64 0, .int .i64 0, .int .i64 0, .int .i64 0, .int .u32 0, .int .i64 0, .int .i64 0, .slice none 0 0]) := HW2.out.blk (by omega) HR1.out
    clear HW2 HB1 HR1 HK1
    have i0 : w.heap.size < w2.heap.size := HK2.out.inside
    go_upto_region 10 with (first | ((with_reducible show wpList _ _ _ (Oper.mk _ (Op.store _ _ _) _ _ _ _ :: _) _ _); refine wpl_stow 43 _ _ rfl rfl rfl _ 10 rfl (Bx.o.cs4) rfl (({ o with p := 0, n := 0, m := Mp.o } : Op9).cs A c) HK2.out (({ o with p := 0, n := 0, m := Mp.o, r := Bx.o } : Op9).cs A c) rfl (Nat.le_of_ble_eq_true rfl) (by kernel_rfl) rfl ?_; intro w3 HW3 HK3) | ((with_reducible show wpList _ _ _ (Oper.mk _ (Op.build _ _) _ _ _ _ :: _) _ _); refine wpl_build _ _ rfl rfl (by simp [go_sem]) (build_zr _) ?_))
    clear i0
    have HB3 : Hid (Below w.heap.size w w3) := HW3.out.below HB2.out (Nat.le_refl _)
    have HR3 : Hid (Blk w3 (w.heap.size + 1) [.int .i64 0, .int .i64 0, .int .i64 0, .int .i64 0, .int .i64 0, .int .i64 0, .int .i64 0, .int .i64 0, .int .i64 0, .int .i64 0, .int .i64 0, .int .i64 0, .int .i64 0, .int .i64 0, .bool false, .int .i64 0, .int .i64 0, .int .i64 0, .int .i64 0, .int .u32 0, .int .i64 0, .int .i64 0, .slice none 0 0]) := HW3.out.blk (by omega) HR2.out
    clear HW3 HB2 HR2 HK2
    have i0 : w.heap.size < w3.heap.size := HK3.out.inside
    have d14 : w3.cell? ⟨w.heap.size, 14, none⟩ = some (.bool o.on) := HK3.out.cell 14
    have f14 : w3.frozen? ⟨w.heap.size, 14, none⟩ = false := HK3.out.free 14
    go_upto_region 12 with (fail)
    have HW4 : Hid (Wrote w.heap.size w3 ((w3).setCell ⟨w.heap.size, 14, none⟩ (.bool false))) := ⟨14, [.bool false], rfl⟩
    have HK4 : Hid (Blk ((w3).setCell ⟨w.heap.size, 14, none⟩ (.bool false)) w.heap.size (({ o with p := 0, n := 0, m := Mp.o, r := Bx.o, on := false } : Op9).cs A c)) := (HK3.out).set 14 (.bool false)
    generalize (w3).setCell ⟨w.heap.size, 14, none⟩ (.bool false) = w4 at *
    clear i0 d14 f14
    have HB4 : Hid (Below w.heap.size w w4) := HW4.out.below HB3.out (Nat.le_refl _)
    have HR4 : Hid (Blk w4 (w.heap.size + 1) [.int .i64 0, .int .i64 0, .int .i64 0, .int .i64 0, .int .i64 0, .int .i64 0, .int .i64 0, .int .i64 0, .int .i64 0, .int .i64 0, .int .i64 0, .int .i64 0, .int .i64 0, .int .i64 0, .bool false, .int .i64 0, .int .i64 0, .int .i64 0, .int .i64 0, .int .u32 0, .int .i64 0, .int .i64 0, .slice none 0 0]) := HW4.out.blk (by omega) HR3.out
    clear HW4 HB3 HR3 HK3
    have i0 : w.heap.size < w4.heap.size := HK4.out.inside
    go_upto_region 16 with (first | ((with_reducible show wpList _ _ _ (Oper.mk _ (Op.store _ _ _) _ _ _ _ :: _) _ _); refine wpl_stow 50 _ _ rfl rfl rfl _ 16 rfl (Lk.o.cs none 0) rfl (({ o with p := 0, n := 0, m := Mp.o, r := Bx.o, on := false } : Op9).cs A c) HK4.out (({ o with p := 0, n := 0, m := Mp.o, r := Bx.o, on := false, lk := Lk.o } : Op9).cs none 0) rfl (Nat.le_of_ble_eq_true rfl) (by kernel_rfl) (Lk.one _ _ _) ?_; intro w5 HW5 HK5) | ((with_reducible show wpList _ _ _ (Oper.mk _ (Op.build _ _) _ _ _ _ :: _) _ _); refine wpl_build _ _ rfl rfl (by simp [go_sem]) (build_zl _) ?_))
    clear i0
    have HB5 : Hid (Below w.heap.size w w5) := HW5.out.below HB4.out (Nat.le_refl _)
    have HR5 : Hid (Blk w5 (w.heap.size + 1) [.int .i64 0, .int .i64 0, .int .i64 0, .int .i64 0, .int .i64 0, .int .i64 0, .int .i64 0, .int .i64 0, .int .i64 0, .int .i64 0, .int .i64 0, .int .i64 0, .int .i64 0, .int .i64 0, .bool false, .int .i64 0, .int .i64 0, .int .i64 0, .int .i64 0, .int .u32 0, .int .i64 0, .int .i64 0, .slice none 0 0]) := HW5.out.blk (by omega) HR4.out
    clear HW5 HB4 HR4 HK4
    go_wp2_with (first | ((with_reducible show wpList _ _ _ (Oper.mk _ (Op.load _ _) _ _ _ _ :: _) _ _); refine wpl_take 52 _ rfl rfl _ 0 rfl _ HK5.out (({ o with p := 0, n := 0, m := Mp.o, r := Bx.o, on := false, lk := Lk.o } : Op9).cs none 0) rfl _ Try.underlying52 rfl (by kernel_rfl) ?_) | ((with_reducible show wpList _ _ _ (Oper.mk _ (Op.store _ _ _) _ _ _ _ :: _) _ _); refine wpl_stow 52 _ _ rfl rfl rfl _ 0 rfl (({ o with p := 0, n := 0, m := Mp.o, r := Bx.o, on := false, lk := Lk.o } : Op9).cs none 0) rfl ([.int .i64 0, .int .i64 0, .int .i64 0, .int .i64 0, .int .i64 0, .int .i64 0, .int .i64 0, .int .i64 0, .int .i64 0, .int .i64 0, .int .i64 0, .int .i64 0, .int .i64 0, .int .i64 0, .bool false, .int .i64 0, .int .i64 0, .int .i64 0, .int .i64 0, .int .u32 0, .int .i64 0, .int .i64 0, .slice none 0 0]) HR5.out (({ o with p := 0, n := 0, m := Mp.o, r := Bx.o, on := false, lk := Lk.o } : Op9).cs none 0) rfl (Nat.le_of_ble_eq_true rfl) (by kernel_rfl) (Op9.one _ _ _) ?_; intro w9 HW9 HK9))
    exact blk_ret rfl rfl HK9.out Try.underlying52 rfl (by kernel_rfl) (DOpQ.of (A9 := none) (c9 := 0) rfl (fun h => absurd rfl h) (HW9.out.below HB5.out (by omega)))
  · have tl : decide (o.k < 1) = false := decide_eq_false (by omega)
    have tg : decide (8 < o.k) = false := decide_eq_false (by omega)
    have t1 : (o.k != 1) = true := by simp [hk]
    have t3 : (o.k != 3) = true := by simp [hk]
    have t4 : (o.k != 4) = true := by simp [hk]
    have t5 : (o.k != 5) = true := by simp [hk]
    have t6 : (o.k != 6) = true := by simp [hk]
    have t7 : (o.k != 7) = false := by simp [hk]
    have t8 : (o.k != 8) = true := by simp [hk]
    obtain rfl : X = { Op9.o with k := o.k, i := o.i, lk := o.lk } := by rw [← HPX.out]; unfold plainO; rw [if_neg (by omega), if_neg (by omega), if_neg (by omega), if_neg (by omega), if_neg (by omega), if_pos hk]
    clear hk HPX
    have i0 : w.heap.size < w0.heap.size := HK0.out.inside
    have d2 : w0.cell? ⟨w.heap.size, 2, none⟩ = some (.int .i64 o.p) := HK0.out.cell 2
    have f2 : w0.frozen? ⟨w.heap.size, 2, none⟩ = false := HK0.out.free 2
    have d3 : w0.cell? ⟨w.heap.size, 3, none⟩ = some (.int .i64 o.n) := HK0.out.cell 3
    have f3 : w0.frozen? ⟨w.heap.size, 3, none⟩ = false := HK0.out.free 3
    go_upto_region 6 with (fail)
    have HW1 : Hid (Wrote w.heap.size w0 (((w0).setCell ⟨w.heap.size, 2, none⟩ (.int .i64 0)).setCell ⟨w.heap.size, 3, none⟩ (.int .i64 0))) := ⟨2, [.int .i64 0, .int .i64 0], rfl⟩
    have HK1 : Hid (Blk (((w0).setCell ⟨w.heap.size, 2, none⟩ (.int .i64 0)).setCell ⟨w.heap.size, 3, none⟩ (.int .i64 0)) w.heap.size (({ o with p := 0, n := 0 } : Op9).cs A c)) := ((HK0.out).set 2 (.int .i64 0)).set 3 (.int .i64 0)
    generalize ((w0).setCell ⟨w.heap.size, 2, none⟩ (.int .i64 0)).setCell ⟨w.heap.size, 3, none⟩ (.int .i64 0) = w1 at *
    clear i0 d2 f2 d3 f3
    have HB1 : Hid (Below w.heap.size w w1) := HW1.out.below HB0.out (Nat.le_refl _)
    have HR1 : Hid (Blk w1 (w.heap.size + 1) [.int .i64 0, .int .i64 0, .int .i64 0, .int .i64 0, .int .i64 0, .int .i64 0, .int .i64 0, .int .i64 0, .int .i64 0, .int .i64 0, .int .i64 0, .int .i64 0, .int .i64 0, .int .i64 0, .bool false, .int .i64 0, .int .i64 0, .int .i64 0, .int .i64 0, .int .u32 0, .int .i64 0, .int .i64 0, .slice none 0 0]) := HW1.out.blk (by omega) HR0.out
    clear HW1 HB0 HR0 HK0
    have i0 : w.heap.size < w1.heap.size := HK1.out.inside
    go_upto_region 8 with (first | ((with_reducible show wpList _ _ _ (Oper.mk _ (Op.store _ _ _) _ _ _ _ :: _) _ _); refine wpl_stow 41 _ _ rfl rfl rfl _ 4 rfl (Mp.o.cs) rfl (({ o with p := 0, n := 0 } : Op9).cs A c) HK1.out (({ o with p := 0, n := 0, m := Mp.o } : Op9).cs A c) rfl (Nat.le_of_ble_eq_true rfl) (by kernel_rfl) (Mp.one1 _) ?_; intro w2 HW2 HK2) | ((with_reducible show wpList _ _ _ (Oper.mk _ (Op.build _ _) _ _ _ _ :: _) _ _); refine wpl_build _ _ rfl rfl (by simp [go_sem]) (build_zm _) ?_))
    clear i0
    have HB2 : Hid (Below w.heap.size w w2) := HW2.out.below HB1.out (Nat.le_refl _)
    have HR2 : Hid (Blk w2 (w.heap.size + 1) [.int .i64 0, .int .i64 0, .int .i64 0, .int .i64 0, .int .i64 0, .int .i64 0, .int .i64 0, .int .i64 0, .int .i64 0, .int .i64 0, .int .i64 0, .int .i64 0, .int .i64 0, .int .i64 0, .bool false, .int .i64 0, .int .i64 0, .int .i64 0, .int .i64 0, .int .u32 0, .int .i64 0, .int .i64 0, .slice none 0 0]) := HW2.out.blk (by omega) HR1.out
    clear HW2 HB1 HR1 HK1
    have i0 : w.heap.size < w2.heap.size := HK2.out.inside
    go_upto_region 10 with (first | ((with_reducible show wpList _ _ _ (Oper.mk _ (Op.store _ _ _) _ _ _ _ :: _) _ _); refine wpl_stow 43 _ _ rfl rfl rfl _ 10 rfl (Bx.o.cs4) rfl (({ o with p := 0, n := 0, m := Mp.o } : Op9).cs A c) HK2.out (({ o with p := 0, n := 0, m := Mp.o, r := Bx.o } : Op9).cs A c) rfl (Nat.le_of_ble_eq_true rfl) (by kernel_rfl) rfl ?_; intro w3 HW3 HK3) | ((with_reducible show wpList _ _ _ (Oper.mk _ (Op.build _ _) _ _ _ _ :: _) _ _); refine wpl_build _ _ rfl rfl (by simp [go_sem]) (build_zr _) ?_))
    clear i0
    have HB3 : Hid (Below w.heap.size w w3) := HW3.out.below HB2.out (Nat.le_refl _)
    have HR3 : Hid (Blk w3 (w.heap.size + 1) [.int .i64 0, .int .i64 0, .int .i64 0, .int .i64 0, .int .i64 0, .int .i64 0, .int .i64 0, .int .i64 0, .int .i64 0, .int .i64 0, .int .i64 0, .int .i64 0, .int .i64 0, .int .i64 0, .bool false, .int .i64 0, .int .i64 0, .int .i64 0, .int .i64 0, .int .u32 0, .int .i64 0, .int .i64 0, .slice none 0 0]) := HW3.out.blk (by omega) HR2.out
    clear HW3 HB2 HR2 HK2
    have i0 : w.heap.size < w3.heap.size := HK3.out.inside
    have d14 : w3.cell? ⟨w.heap.size, 14, none⟩ = some (.bool o.on) := HK3.out.cell 14
    have f14 : w3.frozen? ⟨w.heap.size, 14, none⟩ = false := HK3.out.free 14
    go_upto_region 12 with (fail)
    have HW4 : Hid (Wrote w.heap.size w3 ((w3).setCell ⟨w.heap.size, 14, none⟩ (.bool false))) := ⟨14, [.bool false], rfl⟩
    have HK4 : Hid (Blk ((w3).setCell ⟨w.heap.size, 14, none⟩ (.bool false)) w.heap.size (({ o with p := 0, n := 0, m := Mp.o, r := Bx.o, on := false } : Op9).cs A c)) := (HK3.out).set 14 (.bool false)
    generalize (w3).setCell ⟨w.heap.size, 14, none⟩ (.bool false) = w4 at *
    clear i0 d14 f14
    have HB4 : Hid (Below w.heap.size w w4) := HW4.out.below HB3.out (Nat.le_refl _)
    have HR4 : Hid (Blk w4 (w.heap.size + 1) [.int .i64 0, .int .i64 0, .int .i64 0, .int .i64 0, .int .i64 0, .int .i64 0, .int .i64 0, .int .i64 0, .int .i64 0, .int .i64 0, .int .i64 0, .int .i64 0, .int .i64 0, .int .i64 0, .bool false, .int .i64 0, .int .i64 0, .int .i64 0, .int .i64 0, .int .u32 0, .int .i64 0, .int .i64 0, .slice none 0 0]) := HW4.out.blk (by omega) HR3.out
    clear HW4 HB3 HR3 HK3
    have i0 : w.heap.size < w4.heap.size := HK4.out.inside
    have d15 : w4.cell? ⟨w.heap.size, 15, none⟩ = some (.int .i64 o.N) := HK4.out.cell 15
    have f15 : w4.frozen? ⟨w.heap.size, 15, none⟩ = false := HK4.out.free 15
    go_upto_region 14 with (fail)
    have HW5 : Hid (Wrote w.heap.size w4 ((w4).setCell ⟨w.heap.size, 15, none⟩ (.int .i64 0))) := ⟨15, [.int .i64 0], rfl⟩
    have HK5 : Hid (Blk ((w4).setCell ⟨w.heap.size, 15, none⟩ (.int .i64 0)) w.heap.size (({ o with p := 0, n := 0, m := Mp.o, r := Bx.o, on := false, N := 0 } : Op9).cs A c)) := (HK4.out).set 15 (.int .i64 0)
    generalize (w4).setCell ⟨w.heap.size, 15, none⟩ (.int .i64 0) = w5 at *
    clear i0 d15 f15
    have HB5 : Hid (Below w.heap.size w w5) := HW5.out.below HB4.out (Nat.le_refl _)
    have HR5 : Hid (Blk w5 (w.heap.size + 1) [.int .i64 0, .int .i64 0, .int .i64 0, .int .i64 0, .int .i64 0, .int .i64 0, .int .i64 0, .int .i64 0, .int .i64 0, .int .i64 0, .int .i64 0, .int .i64 0, .int .i64 0, .int .i64 0, .bool false, .int .i64 0, .int .i64 0, .int .i64 0, .int .i64 0, .int .u32 0, .int .i64 0, .int .i64 0, .slice none 0 0]) := HW5.out.blk (by omega) HR4.out
    clear HW5 HB4 HR4 HK4
    go_wp2_with (first | ((with_reducible show wpList _ _ _ (Oper.mk _ (Op.load _ _) _ _ _ _ :: _) _ _); refine wpl_take 52 _ rfl rfl _ 0 rfl _ HK5.out (({ o with p := 0, n := 0, m := Mp.o, r := Bx.o, on := false, N := 0 } : Op9).cs A c) rfl _ Try.underlying52 rfl (by kernel_rfl) ?_) | ((with_reducible show wpList _ _ _ (Oper.mk _ (Op.store _ _ _) _ _ _ _ :: _) _ _); refine wpl_stow 52 _ _ rfl rfl rfl _ 0 rfl (({ o with p := 0, n := 0, m := Mp.o, r := Bx.o, on := false, N := 0 } : Op9).cs A c) rfl ([.int .i64 0, .int .i64 0, .int .i64 0, .int .i64 0, .int .i64 0, .int .i64 0, .int .i64 0, .int .i64 0, .int .i64 0, .int .i64 0, .int .i64 0, .int .i64 0, .int .i64 0, .int .i64 0, .bool false, .int .i64 0, .int .i64 0, .int .i64 0, .int .i64 0, .int .u32 0, .int .i64 0, .int .i64 0, .slice none 0 0]) HR5.out (({ o with p := 0, n := 0, m := Mp.o, r := Bx.o, on := false, N := 0 } : Op9).cs A c) rfl (Nat.le_of_ble_eq_true rfl) (by kernel_rfl) (Op9.one _ _ _) ?_; intro w9 HW9 HK9))
    exact blk_ret rfl rfl HK9.out Try.underlying52 rfl (by kernel_rfl) (DOpQ.of (A9 := A) (c9 := c) rfl (fun _ => rfl) (HW9.out.below HB5.out (by omega)))
  · have tl : decide (o.k < 1) = false := decide_eq_false (by omega)
    have tg : decide (8 < o.k) = false := decide_eq_false (by omega)
    have t1 : (o.k != 1) = true := by simp [hk]
    have t3 : (o.k != 3) = true := by simp [hk]
    have t4 : (o.k != 4) = true := by simp [hk]
    have t5 : (o.k != 5) = true := by simp [hk]
    have t6 : (o.k != 6) = true := by simp [hk]
    have t7 : (o.k != 7) = true := by simp [hk]
    have t8 : (o.k != 8) = false := by simp [hk]
    obtain rfl : X = { Op9.o with k := o.k, i := o.i, on := o.on } := by rw [← HPX.out]; unfold plainO; rw [if_neg (by omega), if_neg (by omega), if_neg (by omega), if_neg (by omega), if_neg (by omega), if_neg (by omega), if_pos hk]
    clear hk HPX
    have i0 : w.heap.size < w0.heap.size := HK0.out.inside
    have d2 : w0.cell? ⟨w.heap.size, 2, none⟩ = some (.int .i64 o.p) := HK0.out.cell 2
    have f2 : w0.frozen? ⟨w.heap.size, 2, none⟩ = false := HK0.out.free 2
    have d3 : w0.cell? ⟨w.heap.size, 3, none⟩ = some (.int .i64 o.n) := HK0.out.cell 3
    have f3 : w0.frozen? ⟨w.heap.size, 3, none⟩ = false := HK0.out.free 3
    go_upto_region 6 with (fail)
    have HW1 : Hid (Wrote w.heap.size w0 (((w0).setCell ⟨w.heap.size, 2, none⟩ (.int .i64 0)).setCell ⟨w.heap.size, 3, none⟩ (.int .i64 0))) := ⟨2, [.int .i64 0, .int .i64 0], rfl⟩
    have HK1 : Hid (Blk (((w0).setCell ⟨w.heap.size, 2, none⟩ (.int .i64 0)).setCell ⟨w.heap.size, 3, none⟩ (.int .i64 0)) w.heap.size (({ o with p := 0, n := 0 } : Op9).cs A c)) := ((HK0.out).set 2 (.int .i64 0)).set 3 (.int .i64 0)
    generalize ((w0).setCell ⟨w.heap.size, 2, none⟩ (.int .i64 0)).setCell ⟨w.heap.size, 3, none⟩ (.int .i64 0) = w1 at *
    clear i0 d2 f2 d3 f3
    have HB1 : Hid (Below w.heap.size w w1) := HW1.out.below HB0.out (Nat.le_refl _)
    have HR1 : Hid (Blk w1 (w.heap.size + 1) [.int .i64 0, .int .i64 0, .int .i64 0, .int .i64 0, .int .i64 0, .int .i64 0, .int .i64 0, .int .i64 0, .int .i64 0, .int .i64 0, .int .i64 0, .int .i64 0, .int .i64 0, .int .i64 0, .bool false, .int .i64 0, .int .i64 0, .int .i64 0, .int .i64 0, .int .u32 0, .int .i64 0, .int .i64 0, .slice none 0 0]) := HW1.out.blk (by omega) HR0.out
    clear HW1 HB0 HR0 HK0
    have i0 : w.heap.size < w1.heap.size := HK1.out.inside
    go_upto_region 8 with (first | ((with_reducible show wpList _ _ _ (Oper.mk _ (Op.store _ _ _) _ _ _ _ :: _) _ _); refine wpl_stow 41 _ _ rfl rfl rfl _ 4 rfl (Mp.o.cs) rfl (({ o with p := 0, n := 0 } : Op9).cs A c) HK1.out (({ o with p := 0, n := 0, m := Mp.o } : Op9).cs A c) rfl (Nat.le_of_ble_eq_true rfl) (by kernel_rfl) (Mp.one1 _) ?_; intro w2 HW2 HK2) | ((with_reducible show wpList _ _ _ (Oper.mk _ (Op.build _ _) _ _ _ _ :: _) _ _); refine wpl_build _ _ rfl rfl (by simp [go_sem]) (build_zm _) ?_))
    clear i0
    have HB2 : Hid (Below w.heap.size w w2) := HW2.out.below HB1.out (Nat.le_refl _)
    have HR2 : Hid (Blk w2 (w.heap.size + 1) [.int .i64 0, .int .i64 0, .int .i64 0, .int .i64 0, .int .i64 0, .int .i64 0, .int .i64 0, .int .i64 0, .int .i64 0, .int .i64 0, .int .i64 0, .int .i64 0, .int .i64 0, .int .i64 0, .bool false, .int .i64 0, .int .i64 0, .int .i64 0, .int .i64 0, .int .u32 0, .int .i64 0, .int .i64 0, .slice none 0 0]) := HW2.out.blk (by omega) HR1.out
    clear HW2 HB1 HR1 HK1
    have i0 : w.heap.size < w2.heap.size := HK2.out.inside
    go_upto_region 10 with (first | ((with_reducible show wpList _ _ _ (Oper.mk _ (Op.store _ _ _) _ _ _ _ :: _) _ _); refine wpl_stow 43 _ _ rfl rfl rfl _ 10 rfl (Bx.o.cs4) rfl (({ o with p := 0, n := 0, m := Mp.o } : Op9).cs A c) HK2.out (({ o with p := 0, n := 0, m := Mp.o, r := Bx.o } : Op9).cs A c) rfl (Nat.le_of_ble_eq_true rfl) (by kernel_rfl) rfl ?_; intro w3 HW3 HK3) | ((with_reducible show wpList _ _ _ (Oper.mk _ (Op.build _ _) _ _ _ _ :: _) _ _); refine wpl_build _ _ rfl rfl (by simp [go_sem]) (build_zr _) ?_))
    clear i0
    have HB3 : Hid (Below w.heap.size w w3) := HW3.out.below HB2.out (Nat.le_refl _)
    have HR3 : Hid (Blk w3 (w.heap.size + 1) [.int .i64 0, .int .i64 0, .int .i64 0, .int .i64 0, .int .i64 0, .int .i64 0, .int .i64 0, .int .i64 0, .int .i64 0, .int .i64 0, .int .i64 0, .int .i64 0, .int .i64 0, .int .i64 0, .bool false, .int .i64 0, .int .i64 0, .int .i64 0, .int .i64 0, .int .u32 0, .int .i64 0, .int .i64 0, .slice none 0 0]) := HW3.out.blk (by omega) HR2.out
    clear HW3 HB2 HR2 HK2
    have i0 : w.heap.size < w3.heap.size := HK3.out.inside
    have d15 : w3.cell? ⟨w.heap.size, 15, none⟩ = some (.int .i64 o.N) := HK3.out.cell 15
    have f15 : w3.frozen? ⟨w.heap.size, 15, none⟩ = false := HK3.out.free 15
    go_upto_region 14 with (fail)
    have HW4 : Hid (Wrote w.heap.size w3 ((w3).setCell ⟨w.heap.size, 15, none⟩ (.int .i64 0))) := ⟨15, [.int .i64 0], rfl⟩
    have HK4 : Hid (Blk ((w3).setCell ⟨w.heap.size, 15, none⟩ (.int .i64 0)) w.heap.size (({ o with p := 0, n := 0, m := Mp.o, r := Bx.o, N := 0 } : Op9).cs A c)) := (HK3.out).set 15 (.int .i64 0)
    generalize (w3).setCell ⟨w.heap.size, 15, none⟩ (.int .i64 0) = w4 at *
    clear i0 d15 f15
    have HB4 : Hid (Below w.heap.size w w4) := HW4.out.below HB3.out (Nat.le_refl _)
    have HR4 : Hid (Blk w4 (w.heap.size + 1) [.int .i64 0, .int .i64 0, .int .i64 0, .int .i64 0, .int .i64 0, .int .i64 0, .int .i64 0, .int .i64 0, .int .i64 0, .int .i64 0, .int .i64 0, .int .i64 0, .int .i64 0, .int .i64 0, .bool false, .int .i64 0, .int .i64 0, .int .i64 0, .int .i64 0, .int .u32 0, .int .i64 0, .int .i64 0, .slice none 0 0]) := HW4.out.blk (by omega) HR3.out
    clear HW4 HB3 HR3 HK3
    have i0 : w.heap.size < w4.heap.size := HK4.out.inside
    go_upto_region 16 with (first | ((with_reducible show wpList _ _ _ (Oper.mk _ (Op.store _ _ _) _ _ _ _ :: _) _ _); refine wpl_stow 50 _ _ rfl rfl rfl _ 16 rfl (Lk.o.cs none 0) rfl (({ o with p := 0, n := 0, m := Mp.o, r := Bx.o, N := 0 } : Op9).cs A c) HK4.out (({ o with p := 0, n := 0, m := Mp.o, r := Bx.o, N := 0, lk := Lk.o } : Op9).cs none 0) rfl (Nat.le_of_ble_eq_true rfl) (by kernel_rfl) (Lk.one _ _ _) ?_; intro w5 HW5 HK5) | ((with_reducible show wpList _ _ _ (Oper.mk _ (Op.build _ _) _ _ _ _ :: _) _ _); refine wpl_build _ _ rfl rfl (by simp [go_sem]) (build_zl _) ?_))
    clear i0
    have HB5 : Hid (Below w.heap.size w w5) := HW5.out.below HB4.out (Nat.le_refl _)
    have HR5 : Hid (Blk w5 (w.heap.size + 1) [.int .i64 0, .int .i64 0, .int .i64 0, .int .i64 0, .int .i64 0, .int .i64 0, .int .i64 0, .int .i64 0, .int .i64 0, .int .i64 0, .int .i64 0, .int .i64 0, .int .i64 0, .int .i64 0, .bool false, .int .i64 0, .int .i64 0, .int .i64 0, .int .i64 0, .int .u32 0, .int .i64 0, .int .i64 0, .slice none 0 0]) := HW5.out.blk (by omega) HR4.out
    clear HW5 HB4 HR4 HK4
    go_wp2_with (first | ((with_reducible show wpList _ _ _ (Oper.mk _ (Op.load _ _) _ _ _ _ :: _) _ _); refine wpl_take 52 _ rfl rfl _ 0 rfl _ HK5.out (({ o with p := 0, n := 0, m := Mp.o, r := Bx.o, N := 0, lk := Lk.o } : Op9).cs none 0) rfl _ Try.underlying52 rfl (by kernel_rfl) ?_) | ((with_reducible show wpList _ _ _ (Oper.mk _ (Op.store _ _ _) _ _ _ _ :: _) _ _); refine wpl_stow 52 _ _ rfl rfl rfl _ 0 rfl (({ o with p := 0, n := 0, m := Mp.o, r := Bx.o, N := 0, lk := Lk.o } : Op9).cs none 0) rfl ([.int .i64 0, .int .i64 0, .int .i64 0, .int .i64 0, .int .i64 0, .int .i64 0, .int .i64 0, .int .i64 0, .int .i64 0, .int .i64 0, .int .i64 0, .int .i64 0, .int .i64 0, .int .i64 0, .bool false, .int .i64 0, .int .i64 0, .int .i64 0, .int .i64 0, .int .u32 0, .int .i64 0, .int .i64 0, .slice none 0 0]) HR5.out (({ o with p := 0, n := 0, m := Mp.o, r := Bx.o, N := 0, lk := Lk.o } : Op9).cs none 0) rfl (Nat.le_of_ble_eq_true rfl) (by kernel_rfl) (Op9.one _ _ _) ?_; intro w9 HW9 HK9))
    exact blk_ret rfl rfl HK9.out Try.underlying52 rfl (by kernel_rfl) (DOpQ.of (A9 := none) (c9 := 0) rfl (fun h => absurd rfl h) (HW9.out.below HB5.out (by omega)))
end Go.Proofs.Ytgadheamldianaa
