/-
  NodeChecks, walked.
-/
import Derived.Test.YtfmlecjobpdbbaaNdO
import Derived.Test.YtfmlecjobpdbbaaNdN
import Derived.Test.YtfmlecjobpdbbaaNdJ
namespace Go.Proofs.Ytfmlecjobpdbbaa
open Go.RowKit pxm imm

/-- old blocks, and the argument's pixels -/
def JPx (olds : List (Nat × List Value)) (A : Option Addr) (l : List Nat) (wx : World) : Prop := JBs olds wx ∧ Row eW wx A l
theorem JPx.below {olds : List (Nat × List Value)} {A : Option Addr} {l : List Nat} {w w9 : World} (h : JPx olds A l w) (hb : Below w.heap.size w w9) : JPx olds A l w9 := ⟨h.1.below hb, h.2.below hb⟩
/-- a document's node: the argument's numbers, its own row of pixels -/
def sayRef (ma mb mc md me mf op : Int) (hi cl : Bool) (x0 y0 x1 y1 k W H : Int) (p : Nat) (iw ih : Int) (l : List Nat) : regs.Say regs.bl := ⟨fun v w => ∃ A9 c9, v = .agg #[.int .i64 ma, .int .i64 mb, .int .i64 mc, .int .i64 md, .int .i64 me, .int .i64 mf, .int .i64 op, .bool hi, .bool cl, .int .i64 x0, .int .i64 y0, .int .i64 x1, .int .i64 y1, .int .i64 k, .int .i64 W, .int .i64 H, .int .u32 (p : Nat), .int .i64 iw, .int .i64 ih, .slice A9 l.length c9] ∧ Row eW w A9 l, fun _ _ _ ⟨A9, c9, h, hr⟩ hb => ⟨A9, c9, h, hr.below hb⟩⟩
set_option maxHeartbeats 4000000 in
set_option maxRecDepth 100000 in
theorem checks_law (m : Mp) (op : Int) (hi cl : Bool) (r : Bx) (k W H : Int) (p : Nat) (iw ih : Int) (A : Option Addr) (l : List Nat) (c : Nat) (w : World) (hp : p < 4294967296) (hr : Row eW w A l) (hc : l.length ≤ c ∧ c ≤ maxLen) (hz : ∀ z ∈ l, z < 4294967296) :
    Calls Try.prog 3 #[ndV m op hi cl r k W H p iw ih A l.length c] w fun e w' => e = .returned (.bool true) ∧ Below w.heap.size w w' := by
  have HA := Lib.hid (fun w => awake_any w)
  have hlen : l.length ≤ maxLen := Nat.le_trans hc.1 hc.2
  have hn3 : l.length ≤ 9223372036854775807 := by unfold maxLen at hlen; omega
  by_cases hbig : 1000 < l.length
  · have t : decide (1000 < (l.length : Int)) = true := by simp; omega
    clear hbig hlen hc hz hp hr
    unfold ndV
    go_enter Try.func3, Try.ntmps3
    go_wp2_with (fail)
    refine (HA.out _).mono ?_
    rintro e w1 ⟨rfl, hb⟩
    have HB := Lib.hid (bel1 hb)
    clear hb HA
    go_wp2_with (fail)
    go_ret
    exact ⟨rfl, HB.out⟩
  · have t : decide (1000 < (l.length : Int)) = false := by simp; omega
    have A7 := Lib.hid (fun w hr => ndcheck_any m op hi cl r k W H p iw ih A l c hp hz hlen w hr)
    have A10 := Lib.hid (fun w hr => lkcheck_any k W H p iw ih A l c hp hz hlen w hr)
    have A9' := Lib.hid (fun w hr => ref_any m op hi cl r k W H p iw ih A l c w hr (by omega))
    have A8 := Lib.hid (fun A9 c9 w hr => dnode_any m op hi cl r k W H p iw ih A9 l c9 hp hz hlen w hr)
    have A11 := Lib.hid (fun A9 c9 w hr => dlook_any m op hi cl r k W H p iw ih A9 l c9 hp hz hlen w hr)
    unfold RefQ at A9'
    have HR := Lib.hid hr
    clear hbig hlen hc hz hp hr
    generalize ndC m op cl r (lkC k W H p iw ih l) = X at *
    generalize lkC k W H p iw ih l = Y at *
    unfold ndV lkV at *
    obtain ⟨ma, mb, mc, md, me, mf⟩ := m
    obtain ⟨x0, y0, x1, y1⟩ := r
    simp only at A7 A8 A9' A11 ⊢
    have HB0 : Hid (Below w.heap.size w (w.alloc (.cells #[.int .i64 ma, .int .i64 mb, .int .i64 mc, .int .i64 md, .int .i64 me, .int .i64 mf, .int .i64 op, .bool hi, .bool cl, .int .i64 x0, .int .i64 y0, .int .i64 x1, .int .i64 y1, .int .i64 k, .int .i64 W, .int .i64 H, .int .u32 (p : Nat), .int .i64 iw, .int .i64 ih, .slice A l.length c] 34))) := (Below.refl _ _).alloc (Nat.le_refl _) _
    have HJ0 : Hid (JPx [(w.heap.size, [.int .i64 ma, .int .i64 mb, .int .i64 mc, .int .i64 md, .int .i64 me, .int .i64 mf, .int .i64 op, .bool hi, .bool cl, .int .i64 x0, .int .i64 y0, .int .i64 x1, .int .i64 y1, .int .i64 k, .int .i64 W, .int .i64 H, .int .u32 (p : Nat), .int .i64 iw, .int .i64 ih, .slice A l.length c])] A l (w.alloc (.cells #[.int .i64 ma, .int .i64 mb, .int .i64 mc, .int .i64 md, .int .i64 me, .int .i64 mf, .int .i64 op, .bool hi, .bool cl, .int .i64 x0, .int .i64 y0, .int .i64 x1, .int .i64 y1, .int .i64 k, .int .i64 W, .int .i64 H, .int .u32 (p : Nat), .int .i64 iw, .int .i64 ih, .slice A l.length c] 34))) := ⟨⟨blk_new w [.int .i64 ma, .int .i64 mb, .int .i64 mc, .int .i64 md, .int .i64 me, .int .i64 mf, .int .i64 op, .bool hi, .bool cl, .int .i64 x0, .int .i64 y0, .int .i64 x1, .int .i64 y1, .int .i64 k, .int .i64 W, .int .i64 H, .int .u32 (p : Nat), .int .i64 iw, .int .i64 ih, .slice A l.length c] _, trivial⟩, HR.out.below HB0.out⟩
    go_enter Try.func3, Try.ntmps3
    go_wp2_with (fail)
    generalize w.alloc (.cells #[.int .i64 ma, .int .i64 mb, .int .i64 mc, .int .i64 md, .int .i64 me, .int .i64 mf, .int .i64 op, .bool hi, .bool cl, .int .i64 x0, .int .i64 y0, .int .i64 x1, .int .i64 y1, .int .i64 k, .int .i64 W, .int .i64 H, .int .u32 (p : Nat), .int .i64 iw, .int .i64 ih, .slice A l.length c] 34) = wz at *
    refine regs.wp_region_put (regs.bl) (fun _ wx => JPx [(w.heap.size, [.int .i64 ma, .int .i64 mb, .int .i64 mc, .int .i64 md, .int .i64 me, .int .i64 mf, .int .i64 op, .bool hi, .bool cl, .int .i64 x0, .int .i64 y0, .int .i64 x1, .int .i64 y1, .int .i64 k, .int .i64 W, .int .i64 H, .int .u32 (p : Nat), .int .i64 iw, .int .i64 ih, .slice A l.length c])] A l wx) [10, 11, 12, 13, 14, 15, 16, 17, 18, 19, 20, 21, 22, 23, 24, 25, 26, 27, 2] (by kernel_rfl) (by kernel_rfl) (fun _ => regs.bl_refl _) (regs.bl_trans) (fun i => (match i with
      | 0 => regs.Say.val _ (.agg #[.int .i64 ma, .int .i64 mb, .int .i64 mc, .int .i64 md, .int .i64 me, .int .i64 mf, .int .i64 op, .bool hi, .bool cl, .int .i64 x0, .int .i64 y0, .int .i64 x1, .int .i64 y1, .int .i64 k, .int .i64 W, .int .i64 H, .int .u32 (p : Nat), .int .i64 iw, .int .i64 ih, .slice A l.length c])
      | 1 => regs.Say.val _ (.int .i64 X)
      | 2 => regs.Say.val _ (.agg #[.int .i64 ma, .int .i64 mb, .int .i64 mc, .int .i64 md, .int .i64 me, .int .i64 mf, .int .i64 op, .bool hi, .bool cl, .int .i64 x0, .int .i64 y0, .int .i64 x1, .int .i64 y1, .int .i64 k, .int .i64 W, .int .i64 H, .int .u32 (p : Nat), .int .i64 iw, .int .i64 ih, .slice A l.length c])
      | 3 => sayRef ma mb mc md me mf op hi cl x0 y0 x1 y1 k W H p iw ih l
      | 4 => regs.Say.val _ (.int .i64 X)
      | 5 => regs.Say.val _ (.bool true)
      | 6 => regs.Say.val _ (.bool true)
      | 7 => regs.Say.val _ (.pointer (some ⟨w.heap.size, 13, none⟩))
      | 8 => regs.Say.val _ (.agg #[.int .i64 k, .int .i64 W, .int .i64 H, .int .u32 (p : Nat), .int .i64 iw, .int .i64 ih, .slice A l.length c])
      | 9 => regs.Say.val _ (.int .i64 Y)
      | 10 => regs.Say.val _ (.agg #[.int .i64 ma, .int .i64 mb, .int .i64 mc, .int .i64 md, .int .i64 me, .int .i64 mf, .int .i64 op, .bool hi, .bool cl, .int .i64 x0, .int .i64 y0, .int .i64 x1, .int .i64 y1, .int .i64 k, .int .i64 W, .int .i64 H, .int .u32 (p : Nat), .int .i64 iw, .int .i64 ih, .slice A l.length c])
      | 11 => sayRef ma mb mc md me mf op hi cl x0 y0 x1 y1 k W H p iw ih l
      | 12 => regs.Say.val _ (.int .i64 Y)
      | 13 => regs.Say.val _ (.bool true)
      | 14 => regs.Say.val _ (.bool true)
      | 15 => regs.Say.val _ (.bool true)
      | 16 => regs.Say.val _ (.bool true)
      | 17 => regs.Say.val _ (.bool true)
      | 18 => regs.Say.val _ (.bool true)
      | _ => regs.Say.any _ : regs.Say (regs.bl)).p) (fun _ => regs.Say.mono _) (by kernel_rfl) ((Below.refl _ _).drew) (HJ0.out) ⟨?_, ?_, ?_, ?_, ?_, ?_, ?_, ?_, ?_, ?_, ?_, ?_, ?_, ?_, ?_, ?_, ?_, ?_, ?_, trivial⟩ ?_
    · refine regs.StepOK.plain rfl fun L a w1 hh => ?_
      have h1 : a.tmps[1]?.getD undef = .pointer (some ⟨w.heap.size, 0, none⟩) := by rw [← Array.getD_eq_getD_getElem?]; exact hh.old 1 rfl
      have hJ := Lib.hid hh.st
      exact wp_take 34 _ rfl w.heap.size 0 (hh.old 1 rfl) _ (show Blk w1 w.heap.size [.int .i64 ma, .int .i64 mb, .int .i64 mc, .int .i64 md, .int .i64 me, .int .i64 mf, .int .i64 op, .bool hi, .bool cl, .int .i64 x0, .int .i64 y0, .int .i64 x1, .int .i64 y1, .int .i64 k, .int .i64 W, .int .i64 H, .int .u32 (p : Nat), .int .i64 iw, .int .i64 ih, .slice A l.length c] from hJ.out.1.1) [.int .i64 ma, .int .i64 mb, .int .i64 mc, .int .i64 md, .int .i64 me, .int .i64 mf, .int .i64 op, .bool hi, .bool cl, .int .i64 x0, .int .i64 y0, .int .i64 x1, .int .i64 y1, .int .i64 k, .int .i64 W, .int .i64 H, .int .u32 (p : Nat), .int .i64 iw, .int .i64 ih, .slice A l.length c] rfl _ Try.underlying34 rfl (by kernel_rfl) ⟨_, rfl, regs.bl_refl _, rfl, hJ.out⟩
    · refine regs.StepOK.plain rfl fun L a w1 hh => ?_
      have h10 : a.tmps[10]?.getD undef = .agg #[.int .i64 ma, .int .i64 mb, .int .i64 mc, .int .i64 md, .int .i64 me, .int .i64 mf, .int .i64 op, .bool hi, .bool cl, .int .i64 x0, .int .i64 y0, .int .i64 x1, .int .i64 y1, .int .i64 k, .int .i64 W, .int .i64 H, .int .u32 (p : Nat), .int .i64 iw, .int .i64 ih, .slice A l.length c] := by rw [← Array.getD_eq_getD_getElem?]; exact hh.dep 0 10 (by kernel_rfl) (by kernel_rfl)
      have := True.intro
      have hJ := Lib.hid hh.st
      clear hh
      go_simp
      refine (A7.out w1 hJ.out.2).mono ?_
      rintro e w9 ⟨rfl, hb9⟩
      exact ⟨_, rfl, hb9, rfl, JPx.below hJ.out hb9⟩
    · refine regs.StepOK.plain rfl fun L a w1 hh => ?_
      have h1 : a.tmps[1]?.getD undef = .pointer (some ⟨w.heap.size, 0, none⟩) := by rw [← Array.getD_eq_getD_getElem?]; exact hh.old 1 rfl
      have hJ := Lib.hid hh.st
      exact wp_take 34 _ rfl w.heap.size 0 (hh.old 1 rfl) _ (show Blk w1 w.heap.size [.int .i64 ma, .int .i64 mb, .int .i64 mc, .int .i64 md, .int .i64 me, .int .i64 mf, .int .i64 op, .bool hi, .bool cl, .int .i64 x0, .int .i64 y0, .int .i64 x1, .int .i64 y1, .int .i64 k, .int .i64 W, .int .i64 H, .int .u32 (p : Nat), .int .i64 iw, .int .i64 ih, .slice A l.length c] from hJ.out.1.1) [.int .i64 ma, .int .i64 mb, .int .i64 mc, .int .i64 md, .int .i64 me, .int .i64 mf, .int .i64 op, .bool hi, .bool cl, .int .i64 x0, .int .i64 y0, .int .i64 x1, .int .i64 y1, .int .i64 k, .int .i64 W, .int .i64 H, .int .u32 (p : Nat), .int .i64 iw, .int .i64 ih, .slice A l.length c] rfl _ Try.underlying34 rfl (by kernel_rfl) ⟨_, rfl, regs.bl_refl _, rfl, hJ.out⟩
    · refine regs.StepOK.plain rfl fun L a w1 hh => ?_
      have h12 : a.tmps[12]?.getD undef = .agg #[.int .i64 ma, .int .i64 mb, .int .i64 mc, .int .i64 md, .int .i64 me, .int .i64 mf, .int .i64 op, .bool hi, .bool cl, .int .i64 x0, .int .i64 y0, .int .i64 x1, .int .i64 y1, .int .i64 k, .int .i64 W, .int .i64 H, .int .u32 (p : Nat), .int .i64 iw, .int .i64 ih, .slice A l.length c] := by rw [← Array.getD_eq_getD_getElem?]; exact hh.dep 2 12 (by kernel_rfl) (by kernel_rfl)
      have hJ := Lib.hid hh.st
      clear hh
      go_simp
      refine (A9'.out w1 hJ.out.2).mono ?_
      rintro e w9 ⟨A9, c9, rfl, hx9, -, -, hb9⟩
      exact ⟨_, rfl, hb9, ⟨A9, c9, rfl, hx9⟩, JPx.below hJ.out hb9⟩
    · refine regs.StepOK.plain rfl fun L a w1 hh => ?_
      obtain ⟨A9, c9, h13, hr9⟩ : ∃ A9 c9, a.tmps[13]?.getD undef = .agg #[.int .i64 ma, .int .i64 mb, .int .i64 mc, .int .i64 md, .int .i64 me, .int .i64 mf, .int .i64 op, .bool hi, .bool cl, .int .i64 x0, .int .i64 y0, .int .i64 x1, .int .i64 y1, .int .i64 k, .int .i64 W, .int .i64 H, .int .u32 (p : Nat), .int .i64 iw, .int .i64 ih, .slice A9 l.length c9] ∧ Row eW w1 A9 l := by rw [← Array.getD_eq_getD_getElem?]; exact hh.dep 3 13 (by kernel_rfl) (by kernel_rfl)
      have hJ := Lib.hid hh.st
      clear hh
      go_simp
      refine (A8.out A9 c9 w1 hr9).mono ?_
      rintro e w9 ⟨rfl, hb9⟩
      exact ⟨_, rfl, hb9, rfl, JPx.below hJ.out hb9⟩
    · refine regs.StepOK.plain rfl fun L a w1 hh => ?_
      have h11 : a.tmps[11]?.getD undef = .int .i64 X := by rw [← Array.getD_eq_getD_getElem?]; exact hh.dep 1 11 (by kernel_rfl) (by kernel_rfl)
      have h14 : a.tmps[14]?.getD undef = .int .i64 X := by rw [← Array.getD_eq_getD_getElem?]; exact hh.dep 4 14 (by kernel_rfl) (by kernel_rfl)
      have q : (X == X) = true := by simp
      have hJ := Lib.hid hh.st
      clear hh
      go_simp
      exact ⟨_, rfl, regs.bl_refl _, rfl, hJ.out⟩
    · refine regs.StepOK.plain rfl fun L a w1 hh => ?_
      have h15 : a.tmps[15]?.getD undef = .bool true := by rw [← Array.getD_eq_getD_getElem?]; exact hh.dep 5 15 (by kernel_rfl) (by kernel_rfl)
      have hJ := Lib.hid hh.st
      clear hh
      go_simp
      exact ⟨_, rfl, regs.bl_refl _, rfl, hJ.out⟩
    · refine regs.StepOK.yes 6 true 16 rfl rfl (fun L a w1 hh => hh.dep 6 16 (by kernel_rfl) (by kernel_rfl)) fun L a w1 hh => ?_
      have h1 : a.tmps[1]?.getD undef = .pointer (some ⟨w.heap.size, 0, none⟩) := by rw [← Array.getD_eq_getD_getElem?]; exact hh.old 1 rfl
      have hJ := Lib.hid hh.st
      clear hh
      go_simp
      exact ⟨_, rfl, regs.bl_refl _, rfl, hJ.out⟩
    · refine regs.StepOK.yes 6 true 16 rfl rfl (fun L a w1 hh => hh.dep 6 16 (by kernel_rfl) (by kernel_rfl)) fun L a w1 hh => ?_
      have h17 : a.tmps[17]?.getD undef = .pointer (some ⟨w.heap.size, 13, none⟩) := by rw [← Array.getD_eq_getD_getElem?]; exact hh.dep 7 17 (by kernel_rfl) (by kernel_rfl)
      obtain ⟨⟨c0, c1, c2, c3, c4, c5, c6, c7, c8, c9, c10, c11, c12, c13, c14, c15, c16, c17, c18, c19⟩, -, ci⟩ := (hh.st.1.1).c20
      have hJ := Lib.hid hh.st
      clear hh
      go_simp
      exact ⟨_, rfl, regs.bl_refl _, rfl, hJ.out⟩
    · refine regs.StepOK.yes 6 true 16 rfl rfl (fun L a w1 hh => hh.dep 6 16 (by kernel_rfl) (by kernel_rfl)) fun L a w1 hh => ?_
      have h18 : a.tmps[18]?.getD undef = .agg #[.int .i64 k, .int .i64 W, .int .i64 H, .int .u32 (p : Nat), .int .i64 iw, .int .i64 ih, .slice A l.length c] := by rw [← Array.getD_eq_getD_getElem?]; exact hh.dep 8 18 (by kernel_rfl) (by kernel_rfl)
      have := True.intro
      have hJ := Lib.hid hh.st
      clear hh
      go_simp
      refine (A10.out w1 hJ.out.2).mono ?_
      rintro e w9 ⟨rfl, hb9⟩
      exact ⟨_, rfl, hb9, rfl, JPx.below hJ.out hb9⟩
    · refine regs.StepOK.yes 6 true 16 rfl rfl (fun L a w1 hh => hh.dep 6 16 (by kernel_rfl) (by kernel_rfl)) fun L a w1 hh => ?_
      have h1 : a.tmps[1]?.getD undef = .pointer (some ⟨w.heap.size, 0, none⟩) := by rw [← Array.getD_eq_getD_getElem?]; exact hh.old 1 rfl
      have hJ := Lib.hid hh.st
      exact wp_take 34 _ rfl w.heap.size 0 (hh.old 1 rfl) _ (show Blk w1 w.heap.size [.int .i64 ma, .int .i64 mb, .int .i64 mc, .int .i64 md, .int .i64 me, .int .i64 mf, .int .i64 op, .bool hi, .bool cl, .int .i64 x0, .int .i64 y0, .int .i64 x1, .int .i64 y1, .int .i64 k, .int .i64 W, .int .i64 H, .int .u32 (p : Nat), .int .i64 iw, .int .i64 ih, .slice A l.length c] from hJ.out.1.1) [.int .i64 ma, .int .i64 mb, .int .i64 mc, .int .i64 md, .int .i64 me, .int .i64 mf, .int .i64 op, .bool hi, .bool cl, .int .i64 x0, .int .i64 y0, .int .i64 x1, .int .i64 y1, .int .i64 k, .int .i64 W, .int .i64 H, .int .u32 (p : Nat), .int .i64 iw, .int .i64 ih, .slice A l.length c] rfl _ Try.underlying34 rfl (by kernel_rfl) ⟨_, rfl, regs.bl_refl _, rfl, hJ.out⟩
    · refine regs.StepOK.yes 6 true 16 rfl rfl (fun L a w1 hh => hh.dep 6 16 (by kernel_rfl) (by kernel_rfl)) fun L a w1 hh => ?_
      have h20 : a.tmps[20]?.getD undef = .agg #[.int .i64 ma, .int .i64 mb, .int .i64 mc, .int .i64 md, .int .i64 me, .int .i64 mf, .int .i64 op, .bool hi, .bool cl, .int .i64 x0, .int .i64 y0, .int .i64 x1, .int .i64 y1, .int .i64 k, .int .i64 W, .int .i64 H, .int .u32 (p : Nat), .int .i64 iw, .int .i64 ih, .slice A l.length c] := by rw [← Array.getD_eq_getD_getElem?]; exact hh.dep 10 20 (by kernel_rfl) (by kernel_rfl)
      have hJ := Lib.hid hh.st
      clear hh
      go_simp
      refine (A9'.out w1 hJ.out.2).mono ?_
      rintro e w9 ⟨A9, c9, rfl, hx9, -, -, hb9⟩
      exact ⟨_, rfl, hb9, ⟨A9, c9, rfl, hx9⟩, JPx.below hJ.out hb9⟩
    · refine regs.StepOK.yes 6 true 16 rfl rfl (fun L a w1 hh => hh.dep 6 16 (by kernel_rfl) (by kernel_rfl)) fun L a w1 hh => ?_
      obtain ⟨A9, c9, h21, hr9⟩ : ∃ A9 c9, a.tmps[21]?.getD undef = .agg #[.int .i64 ma, .int .i64 mb, .int .i64 mc, .int .i64 md, .int .i64 me, .int .i64 mf, .int .i64 op, .bool hi, .bool cl, .int .i64 x0, .int .i64 y0, .int .i64 x1, .int .i64 y1, .int .i64 k, .int .i64 W, .int .i64 H, .int .u32 (p : Nat), .int .i64 iw, .int .i64 ih, .slice A9 l.length c9] ∧ Row eW w1 A9 l := by rw [← Array.getD_eq_getD_getElem?]; exact hh.dep 11 21 (by kernel_rfl) (by kernel_rfl)
      have hJ := Lib.hid hh.st
      clear hh
      go_simp
      refine (A11.out A9 c9 w1 hr9).mono ?_
      rintro e w9 ⟨rfl, hb9⟩
      exact ⟨_, rfl, hb9, rfl, JPx.below hJ.out hb9⟩
    · refine regs.StepOK.yes 6 true 16 rfl rfl (fun L a w1 hh => hh.dep 6 16 (by kernel_rfl) (by kernel_rfl)) fun L a w1 hh => ?_
      have h19 : a.tmps[19]?.getD undef = .int .i64 Y := by rw [← Array.getD_eq_getD_getElem?]; exact hh.dep 9 19 (by kernel_rfl) (by kernel_rfl)
      have h22 : a.tmps[22]?.getD undef = .int .i64 Y := by rw [← Array.getD_eq_getD_getElem?]; exact hh.dep 12 22 (by kernel_rfl) (by kernel_rfl)
      have q : (Y == Y) = true := by simp
      have hJ := Lib.hid hh.st
      clear hh
      go_simp
      exact ⟨_, rfl, regs.bl_refl _, rfl, hJ.out⟩
    · refine regs.StepOK.plain rfl fun L a w1 hh => ?_
      have h16 : a.tmps[16]?.getD undef = .bool true := by rw [← Array.getD_eq_getD_getElem?]; exact hh.dep 6 16 (by kernel_rfl) (by kernel_rfl)
      have h23 : a.tmps[23]?.getD undef = .bool true := by rw [← Array.getD_eq_getD_getElem?]; exact hh.dep 13 23 (by kernel_rfl) (by kernel_rfl)
      have hJ := Lib.hid hh.st
      clear hh
      go_simp
      exact ⟨_, rfl, regs.bl_refl _, rfl, hJ.out⟩
    · refine regs.StepOK.plain rfl fun L a w1 hh => ?_
      have h24 : a.tmps[24]?.getD undef = .bool true := by rw [← Array.getD_eq_getD_getElem?]; exact hh.dep 14 24 (by kernel_rfl) (by kernel_rfl)
      have hJ := Lib.hid hh.st
      clear hh
      go_simp
      exact ⟨_, rfl, regs.bl_refl _, rfl, hJ.out⟩
    · refine regs.StepOK.yes 15 true 25 rfl rfl (fun L a w1 hh => hh.dep 15 25 (by kernel_rfl) (by kernel_rfl)) fun L a w1 hh => ?_
      have := True.intro
      have hJ := Lib.hid hh.st
      clear hh
      go_simp
      refine (HA.out w1).mono ?_
      rintro e w9 ⟨rfl, hb9⟩
      exact ⟨_, rfl, hb9, rfl, JPx.below hJ.out hb9⟩
    · refine regs.StepOK.plain rfl fun L a w1 hh => ?_
      have h25 : a.tmps[25]?.getD undef = .bool true := by rw [← Array.getD_eq_getD_getElem?]; exact hh.dep 15 25 (by kernel_rfl) (by kernel_rfl)
      have h26 : a.tmps[26]?.getD undef = .bool true := by rw [← Array.getD_eq_getD_getElem?]; exact hh.dep 16 26 (by kernel_rfl) (by kernel_rfl)
      have hJ := Lib.hid hh.st
      clear hh
      go_simp
      exact ⟨_, rfl, regs.bl_refl _, rfl, hJ.out⟩
    · refine regs.StepOK.plain rfl fun L a w1 hh => ?_
      have h27 : a.tmps[27]?.getD undef = .bool true := by rw [← Array.getD_eq_getD_getElem?]; exact hh.dep 17 27 (by kernel_rfl) (by kernel_rfl)
      have hJ := Lib.hid hh.st
      clear hh
      go_simp
      exact ⟨_, rfl, regs.bl_refl _, rfl, hJ.out⟩
    intro L w4 val hL hJ hR hv
    have h2 : val 2 = .bool true := hv 18 2 (by kernel_rfl)
    have HK4 := Lib.hid hJ
    have HR4 := Lib.hid hR
    clear hv hL hJ hR
    simp only [regs.putAll, List.map_cons, List.map_nil]
    rw [h2]
    generalize val 10 = v10
    generalize val 11 = v11
    generalize val 12 = v12
    generalize val 13 = v13
    generalize val 14 = v14
    generalize val 15 = v15
    generalize val 16 = v16
    generalize val 17 = v17
    generalize val 18 = v18
    generalize val 19 = v19
    generalize val 20 = v20
    generalize val 21 = v21
    generalize val 22 = v22
    generalize val 23 = v23
    generalize val 24 = v24
    generalize val 25 = v25
    generalize val 26 = v26
    generalize val 27 = v27
    simp only [Act.put, List.setIfInBounds_toArray, List.set_cons_zero, List.set_cons_succ]
    clear h2
    have HB4 : Hid (Below w.heap.size w w4) := HB0.out.trans (HR4.out.mono HB0.out.size)
    go_wp2_with (fail)
    go_ret
    exact ⟨rfl, HB4.out⟩
end Go.Proofs.Ytfmlecjobpdbbaa
