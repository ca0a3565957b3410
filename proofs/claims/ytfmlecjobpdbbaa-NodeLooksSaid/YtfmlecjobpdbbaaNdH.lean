/-
  Layer 11: looks and nodes copied.
-/
import Derived.Test.YtfmlecjobpdbbaaNdF
namespace Go.Proofs.Ytfmlecjobpdbbaa
open Go.RowKit pxm imm

def CopiedQ (k W H : Int) (p : Nat) (iw ih : Int) (l : List Nat) (w : World) (e : Ending) (w' : World) : Prop := ∃ A9 cap, e = .returned (lkV k W H p iw ih A9 l.length cap) ∧ Pxs w' w.heap.size A9 l cap ∧ Below w.heap.size w w'
set_option maxHeartbeats 2000000 in
theorem copied_any (k W H : Int) (p : Nat) (iw ih : Int) (A : Option Addr) (l : List Nat) (c : Nat) (w : World) (hr : Row eW w A l) (hn : l.length ≤ 20000000) : Calls Try.prog 40 #[lkV k W H p iw ih A l.length c] w (CopiedQ k W H p iw ih l w) := by
  have HR := Lib.hid hr
  have HC := Lib.hid (fun w hr => copy_any iw ih A l c w hr hn)
  unfold CopyQ at HC
  unfold CopiedQ
  have hn3 : l.length ≤ 9223372036854775807 := by omega
  clear hr hn
  unfold lkV at *
  unfold imV at HC
  have HB0 : Hid (Below w.heap.size w ((w.alloc (.cells #[.int .i64 k, .int .i64 W, .int .i64 H, .int .u32 (p : Nat), .int .i64 iw, .int .i64 ih, .slice A l.length c] 32)).alloc (.cells #[.int .i64 0, .int .i64 0, .int .i64 0, .int .u32 0, .int .i64 0, .int .i64 0, .slice none 0 0] 32))) := ((Below.refl _ _).alloc (Nat.le_refl _) _).alloc (by simp) _
  have HK0 : Hid (Blk ((w.alloc (.cells #[.int .i64 k, .int .i64 W, .int .i64 H, .int .u32 (p : Nat), .int .i64 iw, .int .i64 ih, .slice A l.length c] 32)).alloc (.cells #[.int .i64 0, .int .i64 0, .int .i64 0, .int .u32 0, .int .i64 0, .int .i64 0, .slice none 0 0] 32)) w.heap.size [.int .i64 k, .int .i64 W, .int .i64 H, .int .u32 (p : Nat), .int .i64 iw, .int .i64 ih, .slice A l.length c]) := (blk_new w [.int .i64 k, .int .i64 W, .int .i64 H, .int .u32 (p : Nat), .int .i64 iw, .int .i64 ih, .slice A l.length c] _).alloc _
  have HKr0 : Hid (Blk ((w.alloc (.cells #[.int .i64 k, .int .i64 W, .int .i64 H, .int .u32 (p : Nat), .int .i64 iw, .int .i64 ih, .slice A l.length c] 32)).alloc (.cells #[.int .i64 0, .int .i64 0, .int .i64 0, .int .u32 0, .int .i64 0, .int .i64 0, .slice none 0 0] 32)) (w.heap.size + 1) [.int .i64 0, .int .i64 0, .int .i64 0, .int .u32 0, .int .i64 0, .int .i64 0, .slice none 0 0]) := blk_at (w.alloc _) _ (by simp) [.int .i64 0, .int .i64 0, .int .i64 0, .int .u32 0, .int .i64 0, .int .i64 0, .slice none 0 0] _
  have HSZ : Hid (w.heap.size + 2 ≤ ((w.alloc (.cells #[.int .i64 k, .int .i64 W, .int .i64 H, .int .u32 (p : Nat), .int .i64 iw, .int .i64 ih, .slice A l.length c] 32)).alloc (.cells #[.int .i64 0, .int .i64 0, .int .i64 0, .int .u32 0, .int .i64 0, .int .i64 0, .slice none 0 0] 32)).heap.size) := by simp [Hid]
  go_enter Try.func40, Try.ntmps40
  go_wp2_with (refine wpl_take 30 _ rfl rfl _ 4 rfl _ HK0.out [.int .i64 iw, .int .i64 ih, .slice A l.length c] rfl _ Try.underlying30 rfl (by kernel_rfl) ?_)
  refine (HC.out _ (HR.out.below HB0.out)).mono ?_
  rintro e w1 ⟨A9, c9, rfl, hx, hb⟩
  have HX := Lib.hid hx
  have HB : Hid (Below w.heap.size w w1) := bel2 HB0.out hb
  have HK := Lib.hid (HK0.out.below' hb)
  have HKr := Lib.hid (HKr0.out.below' hb)
  generalize ((w.alloc (.cells #[.int .i64 k, .int .i64 W, .int .i64 H, .int .u32 (p : Nat), .int .i64 iw, .int .i64 ih, .slice A l.length c] 32)).alloc (.cells #[.int .i64 0, .int .i64 0, .int .i64 0, .int .u32 0, .int .i64 0, .int .i64 0, .slice none 0 0] 32)) = wz at *
  clear hb hx HC HB0 HK0 HKr0
  go_wp2_with (first | (refine wpl_stow 30 _ _ rfl rfl rfl _ 4 rfl [.int .i64 iw, .int .i64 ih, .slice A9 l.length c9] rfl _ HK.out [.int .i64 k, .int .i64 W, .int .i64 H, .int .u32 (p : Nat), .int .i64 iw, .int .i64 ih, .slice A9 l.length c9] rfl (by simp) (by kernel_rfl) rfl ?_; intro w2 HW2 HK2; have HR2 := Lib.hid (HW2.out.blk (by omega) HKr.out)) | (refine wpl_take 32 _ rfl rfl _ 0 rfl _ HK2.out [.int .i64 k, .int .i64 W, .int .i64 H, .int .u32 (p : Nat), .int .i64 iw, .int .i64 ih, .slice A9 l.length c9] rfl _ Try.underlying32 rfl (by kernel_rfl) ?_) | (refine wpl_stow 32 _ _ rfl rfl rfl _ 0 rfl [.int .i64 k, .int .i64 W, .int .i64 H, .int .u32 (p : Nat), .int .i64 iw, .int .i64 ih, .slice A9 l.length c9] rfl _ HR2.out [.int .i64 k, .int .i64 W, .int .i64 H, .int .u32 (p : Nat), .int .i64 iw, .int .i64 ih, .slice A9 l.length c9] rfl (by simp) (by kernel_rfl) rfl ?_; intro w3 HW3 HK3))
  refine blk_ret rfl rfl HK3.out Try.underlying32 rfl (by kernel_rfl) ⟨A9, c9, rfl, ⟨HX.out.1.by_block fun b o e => ?_, fun b o e => ?_, HX.out.2.2⟩, HW3.out.below (HW2.out.below HB.out (Nat.le_refl _)) (by omega)⟩
  · have h1 : b ≠ w.heap.size ∧ b ≠ w.heap.size + 1 := by have := HX.out.2.1 b o e; have := HSZ.out; omega
    exact (HW3.out.far h1.2).trans (HW2.out.far h1.1)
  · have := HX.out.2.1 b o e; have := HSZ.out; omega
def NdCopyQ (m : Mp) (op : Int) (hi cl : Bool) (r : Bx) (k W H : Int) (p : Nat) (iw ih : Int) (l : List Nat) (w : World) (e : Ending) (w' : World) : Prop := ∃ A9 cap, e = .returned (ndV m op hi cl r k W H p iw ih A9 l.length cap) ∧ Pxs w' w.heap.size A9 l cap ∧ Below w.heap.size w w'
set_option maxHeartbeats 2000000 in
theorem ndcopy_any (m : Mp) (op : Int) (hi cl : Bool) (r : Bx) (k W H : Int) (p : Nat) (iw ih : Int) (A : Option Addr) (l : List Nat) (c : Nat) (w : World) (hr : Row eW w A l) (hn : l.length ≤ 20000000) : Calls Try.prog 22 #[ndV m op hi cl r k W H p iw ih A l.length c] w (NdCopyQ m op hi cl r k W H p iw ih l w) := by
  have HR := Lib.hid hr
  have HC := Lib.hid (fun w hr => copied_any k W H p iw ih A l c w hr hn)
  unfold CopiedQ at HC
  unfold NdCopyQ
  have hn3 : l.length ≤ 9223372036854775807 := by omega
  clear hr hn
  unfold ndV at *
  unfold lkV at HC
  obtain ⟨ma, mb, mc, md, me, mf⟩ := m
  obtain ⟨x0, y0, x1, y1⟩ := r
  simp only at HC ⊢
  have HB0 : Hid (Below w.heap.size w ((w.alloc (.cells #[.int .i64 ma, .int .i64 mb, .int .i64 mc, .int .i64 md, .int .i64 me, .int .i64 mf, .int .i64 op, .bool hi, .bool cl, .int .i64 x0, .int .i64 y0, .int .i64 x1, .int .i64 y1, .int .i64 k, .int .i64 W, .int .i64 H, .int .u32 (p : Nat), .int .i64 iw, .int .i64 ih, .slice A l.length c] 34)).alloc (.cells #[.int .i64 0, .int .i64 0, .int .i64 0, .int .i64 0, .int .i64 0, .int .i64 0, .int .i64 0, .bool false, .bool false, .int .i64 0, .int .i64 0, .int .i64 0, .int .i64 0, .int .i64 0, .int .i64 0, .int .i64 0, .int .u32 0, .int .i64 0, .int .i64 0, .slice none 0 0] 34))) := ((Below.refl _ _).alloc (Nat.le_refl _) _).alloc (by simp) _
  have HK0 : Hid (Blk ((w.alloc (.cells #[.int .i64 ma, .int .i64 mb, .int .i64 mc, .int .i64 md, .int .i64 me, .int .i64 mf, .int .i64 op, .bool hi, .bool cl, .int .i64 x0, .int .i64 y0, .int .i64 x1, .int .i64 y1, .int .i64 k, .int .i64 W, .int .i64 H, .int .u32 (p : Nat), .int .i64 iw, .int .i64 ih, .slice A l.length c] 34)).alloc (.cells #[.int .i64 0, .int .i64 0, .int .i64 0, .int .i64 0, .int .i64 0, .int .i64 0, .int .i64 0, .bool false, .bool false, .int .i64 0, .int .i64 0, .int .i64 0, .int .i64 0, .int .i64 0, .int .i64 0, .int .i64 0, .int .u32 0, .int .i64 0, .int .i64 0, .slice none 0 0] 34)) w.heap.size [.int .i64 ma, .int .i64 mb, .int .i64 mc, .int .i64 md, .int .i64 me, .int .i64 mf, .int .i64 op, .bool hi, .bool cl, .int .i64 x0, .int .i64 y0, .int .i64 x1, .int .i64 y1, .int .i64 k, .int .i64 W, .int .i64 H, .int .u32 (p : Nat), .int .i64 iw, .int .i64 ih, .slice A l.length c]) := (blk_new w [.int .i64 ma, .int .i64 mb, .int .i64 mc, .int .i64 md, .int .i64 me, .int .i64 mf, .int .i64 op, .bool hi, .bool cl, .int .i64 x0, .int .i64 y0, .int .i64 x1, .int .i64 y1, .int .i64 k, .int .i64 W, .int .i64 H, .int .u32 (p : Nat), .int .i64 iw, .int .i64 ih, .slice A l.length c] _).alloc _
  have HKr0 : Hid (Blk ((w.alloc (.cells #[.int .i64 ma, .int .i64 mb, .int .i64 mc, .int .i64 md, .int .i64 me, .int .i64 mf, .int .i64 op, .bool hi, .bool cl, .int .i64 x0, .int .i64 y0, .int .i64 x1, .int .i64 y1, .int .i64 k, .int .i64 W, .int .i64 H, .int .u32 (p : Nat), .int .i64 iw, .int .i64 ih, .slice A l.length c] 34)).alloc (.cells #[.int .i64 0, .int .i64 0, .int .i64 0, .int .i64 0, .int .i64 0, .int .i64 0, .int .i64 0, .bool false, .bool false, .int .i64 0, .int .i64 0, .int .i64 0, .int .i64 0, .int .i64 0, .int .i64 0, .int .i64 0, .int .u32 0, .int .i64 0, .int .i64 0, .slice none 0 0] 34)) (w.heap.size + 1) [.int .i64 0, .int .i64 0, .int .i64 0, .int .i64 0, .int .i64 0, .int .i64 0, .int .i64 0, .bool false, .bool false, .int .i64 0, .int .i64 0, .int .i64 0, .int .i64 0, .int .i64 0, .int .i64 0, .int .i64 0, .int .u32 0, .int .i64 0, .int .i64 0, .slice none 0 0]) := blk_at (w.alloc _) _ (by simp) [.int .i64 0, .int .i64 0, .int .i64 0, .int .i64 0, .int .i64 0, .int .i64 0, .int .i64 0, .bool false, .bool false, .int .i64 0, .int .i64 0, .int .i64 0, .int .i64 0, .int .i64 0, .int .i64 0, .int .i64 0, .int .u32 0, .int .i64 0, .int .i64 0, .slice none 0 0] _
  have HSZ : Hid (w.heap.size + 2 ≤ ((w.alloc (.cells #[.int .i64 ma, .int .i64 mb, .int .i64 mc, .int .i64 md, .int .i64 me, .int .i64 mf, .int .i64 op, .bool hi, .bool cl, .int .i64 x0, .int .i64 y0, .int .i64 x1, .int .i64 y1, .int .i64 k, .int .i64 W, .int .i64 H, .int .u32 (p : Nat), .int .i64 iw, .int .i64 ih, .slice A l.length c] 34)).alloc (.cells #[.int .i64 0, .int .i64 0, .int .i64 0, .int .i64 0, .int .i64 0, .int .i64 0, .int .i64 0, .bool false, .bool false, .int .i64 0, .int .i64 0, .int .i64 0, .int .i64 0, .int .i64 0, .int .i64 0, .int .i64 0, .int .u32 0, .int .i64 0, .int .i64 0, .slice none 0 0] 34)).heap.size) := by simp [Hid]
  go_enter Try.func22, Try.ntmps22
  go_wp2_with (refine wpl_take 32 _ rfl rfl _ 13 rfl _ HK0.out [.int .i64 k, .int .i64 W, .int .i64 H, .int .u32 (p : Nat), .int .i64 iw, .int .i64 ih, .slice A l.length c] rfl _ Try.underlying32 rfl (by kernel_rfl) ?_)
  refine (HC.out _ (HR.out.below HB0.out)).mono ?_
  rintro e w1 ⟨A9, c9, rfl, hx, hb⟩
  have HX := Lib.hid hx
  have HB : Hid (Below w.heap.size w w1) := bel2 HB0.out hb
  have HK := Lib.hid (HK0.out.below' hb)
  have HKr := Lib.hid (HKr0.out.below' hb)
  generalize ((w.alloc (.cells #[.int .i64 ma, .int .i64 mb, .int .i64 mc, .int .i64 md, .int .i64 me, .int .i64 mf, .int .i64 op, .bool hi, .bool cl, .int .i64 x0, .int .i64 y0, .int .i64 x1, .int .i64 y1, .int .i64 k, .int .i64 W, .int .i64 H, .int .u32 (p : Nat), .int .i64 iw, .int .i64 ih, .slice A l.length c] 34)).alloc (.cells #[.int .i64 0, .int .i64 0, .int .i64 0, .int .i64 0, .int .i64 0, .int .i64 0, .int .i64 0, .bool false, .bool false, .int .i64 0, .int .i64 0, .int .i64 0, .int .i64 0, .int .i64 0, .int .i64 0, .int .i64 0, .int .u32 0, .int .i64 0, .int .i64 0, .slice none 0 0] 34)) = wz at *
  clear hb hx HC HB0 HK0 HKr0
  go_wp2_with (first | (refine wpl_stow 32 _ _ rfl rfl rfl _ 13 rfl [.int .i64 k, .int .i64 W, .int .i64 H, .int .u32 (p : Nat), .int .i64 iw, .int .i64 ih, .slice A9 l.length c9] rfl _ HK.out [.int .i64 ma, .int .i64 mb, .int .i64 mc, .int .i64 md, .int .i64 me, .int .i64 mf, .int .i64 op, .bool hi, .bool cl, .int .i64 x0, .int .i64 y0, .int .i64 x1, .int .i64 y1, .int .i64 k, .int .i64 W, .int .i64 H, .int .u32 (p : Nat), .int .i64 iw, .int .i64 ih, .slice A9 l.length c9] rfl (by simp) (by kernel_rfl) rfl ?_; intro w2 HW2 HK2; have HR2 := Lib.hid (HW2.out.blk (by omega) HKr.out)) | (refine wpl_take 34 _ rfl rfl _ 0 rfl _ HK2.out [.int .i64 ma, .int .i64 mb, .int .i64 mc, .int .i64 md, .int .i64 me, .int .i64 mf, .int .i64 op, .bool hi, .bool cl, .int .i64 x0, .int .i64 y0, .int .i64 x1, .int .i64 y1, .int .i64 k, .int .i64 W, .int .i64 H, .int .u32 (p : Nat), .int .i64 iw, .int .i64 ih, .slice A9 l.length c9] rfl _ Try.underlying34 rfl (by kernel_rfl) ?_) | (refine wpl_stow 34 _ _ rfl rfl rfl _ 0 rfl [.int .i64 ma, .int .i64 mb, .int .i64 mc, .int .i64 md, .int .i64 me, .int .i64 mf, .int .i64 op, .bool hi, .bool cl, .int .i64 x0, .int .i64 y0, .int .i64 x1, .int .i64 y1, .int .i64 k, .int .i64 W, .int .i64 H, .int .u32 (p : Nat), .int .i64 iw, .int .i64 ih, .slice A9 l.length c9] rfl _ HR2.out [.int .i64 ma, .int .i64 mb, .int .i64 mc, .int .i64 md, .int .i64 me, .int .i64 mf, .int .i64 op, .bool hi, .bool cl, .int .i64 x0, .int .i64 y0, .int .i64 x1, .int .i64 y1, .int .i64 k, .int .i64 W, .int .i64 H, .int .u32 (p : Nat), .int .i64 iw, .int .i64 ih, .slice A9 l.length c9] rfl (by simp) (by kernel_rfl) rfl ?_; intro w3 HW3 HK3))
  refine blk_ret rfl rfl HK3.out Try.underlying34 rfl (by kernel_rfl) ⟨A9, c9, rfl, ⟨HX.out.1.by_block fun b o e => ?_, fun b o e => ?_, HX.out.2.2⟩, HW3.out.below (HW2.out.below HB.out (Nat.le_refl _)) (by omega)⟩
  · have h1 : b ≠ w.heap.size ∧ b ≠ w.heap.size + 1 := by have := HX.out.2.1 b o e; have := HSZ.out; omega
    exact (HW3.out.far h1.2).trans (HW2.out.far h1.1)
  · have := HX.out.2.1 b o e; have := HSZ.out; omega
end Go.Proofs.Ytfmlecjobpdbbaa
