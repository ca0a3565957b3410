/-
  Layer 11: a node's Check.
-/
import Derived.Test.YtfmlecjobpdbbaaNdF
namespace Go.Proofs.Ytfmlecjobpdbbaa
open Go.RowKit pxm imm

set_option maxHeartbeats 2000000 in
theorem ndcheck_any (m : Mp) (op : Int) (hi cl : Bool) (r : Bx) (k W H : Int) (p : Nat) (iw ih : Int) (A : Option Addr) (l : List Nat) (c : Nat) (hp : p < 4294967296) (hl : ∀ z ∈ l, z < 4294967296) (hn : l.length ≤ maxLen) (w : World) (hr : Row eW w A l) :
    Calls Try.prog 7 #[ndV m op hi cl r k W H p iw ih A l.length c] w fun e w' => e = .returned (.int .i64 (ndC m op cl r (lkC k W H p iw ih l))) ∧ Below w.heap.size w w' := by
  have HM := Lib.hid (fun w => mp_right m w)
  have HCL := Lib.hid (fun w => clips_any r w)
  have HL := Lib.hid (fun w hr => lkcheck_any k W H p iw ih A l c hp hl hn w hr)
  have hq := fun w => bx_neq r Bx.o w
  have HC : Hid (ndC m op cl r (lkC k W H p iw ih l) = if (m.right && decide (0 ≤ op ∧ op ≤ 255)) = true then (if cl = true then (if clB r = true then lkC k W H p iw ih l else 11) else (if decide (r = Bx.o) = true then lkC k W H p iw ih l else 10)) else 11) := by show _ = _; unfold ndC; simp only [decide_eq_true_eq]
  have HR := Lib.hid hr
  have hn3 : l.length ≤ 9223372036854775807 := by unfold maxLen at hn; omega
  clear hp hl hn hr
  generalize ndC m op cl r (lkC k W H p iw ih l) = R at *
  generalize lkC k W H p iw ih l = K at *
  generalize clB r = z at *
  generalize decide (r = Bx.o) = u at *
  generalize m.right = y at *
  unfold ndV
  unfold Bx.v Bx.o at hq
  obtain ⟨ma, mb, mc, md, me, mf⟩ := m
  obtain ⟨x0, y0, x1, y1⟩ := r
  unfold Mp.v at HM
  unfold Bx.v at HCL
  unfold lkV at HL
  simp only at HM HCL hq ⊢
  have HB0 : Hid (Below w.heap.size w (w.alloc (.cells #[.int .i64 ma, .int .i64 mb, .int .i64 mc, .int .i64 md, .int .i64 me, .int .i64 mf, .int .i64 op, .bool hi, .bool cl, .int .i64 x0, .int .i64 y0, .int .i64 x1, .int .i64 y1, .int .i64 k, .int .i64 W, .int .i64 H, .int .u32 (p : Nat), .int .i64 iw, .int .i64 ih, .slice A l.length c] 34))) := (Below.refl _ _).alloc (Nat.le_refl _) _
  have HK0 : Hid (Blk (w.alloc (.cells #[.int .i64 ma, .int .i64 mb, .int .i64 mc, .int .i64 md, .int .i64 me, .int .i64 mf, .int .i64 op, .bool hi, .bool cl, .int .i64 x0, .int .i64 y0, .int .i64 x1, .int .i64 y1, .int .i64 k, .int .i64 W, .int .i64 H, .int .u32 (p : Nat), .int .i64 iw, .int .i64 ih, .slice A l.length c] 34)) w.heap.size [.int .i64 ma, .int .i64 mb, .int .i64 mc, .int .i64 md, .int .i64 me, .int .i64 mf, .int .i64 op, .bool hi, .bool cl, .int .i64 x0, .int .i64 y0, .int .i64 x1, .int .i64 y1, .int .i64 k, .int .i64 W, .int .i64 H, .int .u32 (p : Nat), .int .i64 iw, .int .i64 ih, .slice A l.length c]) := blk_new w [.int .i64 ma, .int .i64 mb, .int .i64 mc, .int .i64 md, .int .i64 me, .int .i64 mf, .int .i64 op, .bool hi, .bool cl, .int .i64 x0, .int .i64 y0, .int .i64 x1, .int .i64 y1, .int .i64 k, .int .i64 W, .int .i64 H, .int .u32 (p : Nat), .int .i64 iw, .int .i64 ih, .slice A l.length c] _
  go_enter Try.func7, Try.ntmps7
  go_wp2_with (first | (with_reducible show wpList _ _ _ (Oper.mk _ (Op.load _ _) _ _ _ _ :: _) _ _; first | (refine wpl_take 23 _ rfl rfl _ 0 rfl _ HK0.out [.int .i64 ma, .int .i64 mb, .int .i64 mc, .int .i64 md, .int .i64 me, .int .i64 mf] rfl _ Try.underlying23 rfl (by kernel_rfl) ?_) | (refine wpl_take 25 _ rfl rfl _ 9 rfl _ HK0.out [.int .i64 x0, .int .i64 y0, .int .i64 x1, .int .i64 y1] rfl _ Try.underlying25 rfl (by kernel_rfl) ?_) | (refine wpl_take 32 _ rfl rfl _ 13 rfl _ HK0.out [.int .i64 k, .int .i64 W, .int .i64 H, .int .u32 (p : Nat), .int .i64 iw, .int .i64 ih, .slice A l.length c] rfl _ Try.underlying32 rfl (by kernel_rfl) ?_)))
  refine (HM.out _).mono ?_
  rintro e w1 ⟨rfl, hb⟩
  have HB : Hid (Below w.heap.size w w1) := bel2 HB0.out hb
  have HK := Lib.hid (HK0.out.below' hb)
  clear hb HM HB0 HK0
  have c6 : w1.cell? ⟨w.heap.size, 6, none⟩ = some (.int .i64 op) := HK.out.cell 6
  have c8 : w1.cell? ⟨w.heap.size, 8, none⟩ = some (.bool cl) := HK.out.cell 8
  have hlt := HK.out.inside
  cases y with
  | false =>
    go_wp2_with (fail)
    go_ret
    exact ⟨ret_num HC.out.symm, HB.out⟩
  | true =>
    by_cases o1 : op < 0
    · have t1 : decide (op < 0) = true := by simpa using o1
      have HC2 : Hid (R = 11) := HC.out.trans (if_neg (by rw [decide_eq_false (by omega)]; decide))
      clear o1 HC
      go_wp2_with (fail)
      go_ret
      exact ⟨ret_num HC2.out.symm, HB.out⟩
    · have t1 : decide (op < 0) = false := by simpa using o1
      by_cases o2 : 255 < op
      · have t2 : decide (255 < op) = true := by simpa using o2
        have HC2 : Hid (R = 11) := HC.out.trans (if_neg (by rw [decide_eq_false (by omega)]; decide))
        clear o1 o2 HC
        go_wp2_with (fail)
        go_ret
        exact ⟨ret_num HC2.out.symm, HB.out⟩
      · have t2 : decide (255 < op) = false := by simpa using o2
        have HC2 := Lib.hid (HC.out.trans (if_pos (by rw [decide_eq_true (by omega)]; rfl)))
        clear o1 o2 HC
        cases cl with
        | true =>
          go_wp2_with (first | (with_reducible show wpList _ _ _ (Oper.mk _ (Op.load _ _) _ _ _ _ :: _) _ _; first | (refine wpl_take 23 _ rfl rfl _ 0 rfl _ HK.out [.int .i64 ma, .int .i64 mb, .int .i64 mc, .int .i64 md, .int .i64 me, .int .i64 mf] rfl _ Try.underlying23 rfl (by kernel_rfl) ?_) | (refine wpl_take 25 _ rfl rfl _ 9 rfl _ HK.out [.int .i64 x0, .int .i64 y0, .int .i64 x1, .int .i64 y1] rfl _ Try.underlying25 rfl (by kernel_rfl) ?_) | (refine wpl_take 32 _ rfl rfl _ 13 rfl _ HK.out [.int .i64 k, .int .i64 W, .int .i64 H, .int .u32 (p : Nat), .int .i64 iw, .int .i64 ih, .slice A l.length c] rfl _ Try.underlying32 rfl (by kernel_rfl) ?_)))
          refine (HCL.out _).mono ?_
          rintro e w2 ⟨rfl, hb⟩
          have HB2 : Hid (Below w.heap.size w w2) := bel2 HB.out hb
          have HK2 := Lib.hid (HK.out.below' hb)
          clear hb HCL HB HK c6 c8 hlt
          have hlt := HK2.out.inside
          have c8 : w2.cell? ⟨w.heap.size, 8, none⟩ = some (.bool true) := HK2.out.cell 8
          cases z with
          | false =>
            go_wp2_with (fail)
            go_ret
            exact ⟨ret_num HC2.out.symm, HB2.out⟩
          | true =>
            go_wp2_with (first | (with_reducible show wpList _ _ _ (Oper.mk _ (Op.load _ _) _ _ _ _ :: _) _ _; first | (refine wpl_take 23 _ rfl rfl _ 0 rfl _ HK2.out [.int .i64 ma, .int .i64 mb, .int .i64 mc, .int .i64 md, .int .i64 me, .int .i64 mf] rfl _ Try.underlying23 rfl (by kernel_rfl) ?_) | (refine wpl_take 25 _ rfl rfl _ 9 rfl _ HK2.out [.int .i64 x0, .int .i64 y0, .int .i64 x1, .int .i64 y1] rfl _ Try.underlying25 rfl (by kernel_rfl) ?_) | (refine wpl_take 32 _ rfl rfl _ 13 rfl _ HK2.out [.int .i64 k, .int .i64 W, .int .i64 H, .int .u32 (p : Nat), .int .i64 iw, .int .i64 ih, .slice A l.length c] rfl _ Try.underlying32 rfl (by kernel_rfl) ?_)))
            refine (HL.out _ (HR.out.below HB2.out)).mono ?_
            rintro e w9 ⟨rfl, hb⟩
            have HB9 : Hid (Below w.heap.size w w9) := bel2 HB2.out hb
            clear hb HL
            go_wp2_with (fail)
            go_ret
            exact ⟨ret_num HC2.out.symm, HB9.out⟩
        | false =>
          clear HCL
          cases u with
          | false =>
            go_wp2_with (first | (with_reducible show wpList _ _ _ (Oper.mk _ (Op.load _ _) _ _ _ _ :: _) _ _; first | (refine wpl_take 23 _ rfl rfl _ 0 rfl _ HK.out [.int .i64 ma, .int .i64 mb, .int .i64 mc, .int .i64 md, .int .i64 me, .int .i64 mf] rfl _ Try.underlying23 rfl (by kernel_rfl) ?_) | (refine wpl_take 25 _ rfl rfl _ 9 rfl _ HK.out [.int .i64 x0, .int .i64 y0, .int .i64 x1, .int .i64 y1] rfl _ Try.underlying25 rfl (by kernel_rfl) ?_) | (refine wpl_take 32 _ rfl rfl _ 13 rfl _ HK.out [.int .i64 k, .int .i64 W, .int .i64 H, .int .u32 (p : Nat), .int .i64 iw, .int .i64 ih, .slice A l.length c] rfl _ Try.underlying32 rfl (by kernel_rfl) ?_)))
            go_ret
            exact ⟨ret_num HC2.out.symm, HB.out⟩
          | true =>
            go_wp2_with (first | (with_reducible show wpList _ _ _ (Oper.mk _ (Op.load _ _) _ _ _ _ :: _) _ _; first | (refine wpl_take 23 _ rfl rfl _ 0 rfl _ HK.out [.int .i64 ma, .int .i64 mb, .int .i64 mc, .int .i64 md, .int .i64 me, .int .i64 mf] rfl _ Try.underlying23 rfl (by kernel_rfl) ?_) | (refine wpl_take 25 _ rfl rfl _ 9 rfl _ HK.out [.int .i64 x0, .int .i64 y0, .int .i64 x1, .int .i64 y1] rfl _ Try.underlying25 rfl (by kernel_rfl) ?_) | (refine wpl_take 32 _ rfl rfl _ 13 rfl _ HK.out [.int .i64 k, .int .i64 W, .int .i64 H, .int .u32 (p : Nat), .int .i64 iw, .int .i64 ih, .slice A l.length c] rfl _ Try.underlying32 rfl (by kernel_rfl) ?_)))
            refine (HL.out _ (HR.out.below HB.out)).mono ?_
            rintro e w9 ⟨rfl, hb⟩
            have HB9 : Hid (Below w.heap.size w w9) := bel2 HB.out hb
            clear hb HL
            go_wp2_with (fail)
            go_ret
            exact ⟨ret_num HC2.out.symm, HB9.out⟩
end Go.Proofs.Ytfmlecjobpdbbaa
