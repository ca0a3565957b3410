/-
  Layer 10: images: where a pixel stands; At, Set, New.
-/
import Derived.Test.YtboelbmpcbeifaaDoorImA
import Derived.Laws.MakeOwn
namespace Go.Proofs.YtboelbmpcbeifaaDoor
open Go.RowKit pxm imm

/-- is there a pixel? -/
def inB (W H x y : Int) : Bool := Bx.has ⟨0, 0, W, H⟩ x y
theorem inB_iff {W H x y : Int} : inB W H x y = true ↔ 0 ≤ x ∧ x < W ∧ 0 ≤ y ∧ y < H := by
  unfold inB Bx.has
  simp only [Bool.and_eq_true, decide_eq_true_eq]
theorem whole_iff {W H : Int} {n : Nat} : wholeB W H n = true ↔ sidesB W H = true ∧ (n : Int) = W * H := by
  unfold wholeB
  rw [Bool.and_eq_true, decide_eq_true_eq]
/-- where it stands -/
theorem place_in {W H x y : Int} {n : Nat} (h : wholeB W H n = true) (hi : inB W H x y = true) : 0 ≤ y * W + x ∧ y * W + x < n ∧ 0 ≤ y * W ∧ y * W ≤ 16777216 := by
  obtain ⟨h1, h2⟩ := whole_iff.1 h
  obtain ⟨s1, s2, s3, s4⟩ := sidesB_iff.1 h1
  obtain ⟨x1, x2, y1, y2⟩ := inB_iff.1 hi
  have e1 : 0 ≤ y * W := Int.mul_nonneg y1 (by omega)
  have e2 : 0 ≤ (H - 1 - y) * W := Int.mul_nonneg (by omega) (by omega)
  have e3 : (H - 1 - y) * W = W * H - W - y * W := by rw [Int.sub_mul, Int.sub_mul, Int.mul_comm H W]; omega
  have := (mul_small h1).2
  omega
def PlaceQ (W H x y : Int) (w : World) (e : Ending) (w' : World) : Prop := ∃ k : Int, e = .returned (.tuple #[.int .i64 k, .bool (inB W H x y)]) ∧ (inB W H x y = true → k = y * W + x) ∧ Below w.heap.size w w'
set_option maxHeartbeats 1000000 in
theorem place_any (W H : Int) (A : Option Addr) (n c : Nat) (x y : Int) (hw : wholeB W H n = true) (hn : n ≤ maxLen) (w : World) :
    Calls Tryd.prog 28 #[imV W H A n c, .int .i64 x, .int .i64 y] w (PlaceQ W H x y w) := by
  have HF := Lib.hid (fun w => frame_any W H A n c w)
  have HH := Lib.hid (fun w => bx_has ⟨0, 0, W, H⟩ x y w)
  have HI : Hid (Bx.has ⟨0, 0, W, H⟩ x y = inB W H x y) := rfl
  have HP := Lib.hid (fun h => place_in (x := x) (y := y) hw h)
  have hn : n ≤ 9223372036854775807 := by unfold maxLen at hn; omega
  clear hw
  unfold PlaceQ
  generalize inB W H x y = y1 at *
  unfold imV Bx.v at *
  simp only at HH HF
  go_enter Tryd.func28, Tryd.ntmps28
  go_wp2_with (fail)
  have HB : Hid (Below w.heap.size w (w.alloc (.cells #[.int .i64 W, .int .i64 H, .slice A n c] 24))) := (Below.refl _ _).alloc (Nat.le_refl _) _
  have HJ0 : Hid (JBs [(w.heap.size, [.int .i64 W, .int .i64 H, .slice A n c])] (w.alloc (.cells #[.int .i64 W, .int .i64 H, .slice A n c] 24))) := ⟨blk_at w _ rfl [.int .i64 W, .int .i64 H, .slice A n c] _, trivial⟩
  generalize w.alloc (.cells #[.int .i64 W, .int .i64 H, .slice A n c] 24) = wz at *
  cases y1 with
  | true =>
    obtain ⟨p1, p2, p3, p4⟩ := HP.out rfl
    have e : wrap64 (wrap64 (y * W) + x) = y * W + x := by rw [IntWalk.wrap64_in (y * W) (by omega)]; exact IntWalk.wrap64_in _ (by omega)
    rw [e]
    have HQ := Lib.hid (And.intro p1 p2)
    clear e p1 p2 p3 p4 HP
    obtain ⟨k, hk⟩ : ∃ k, y * W + x = k := ⟨_, rfl⟩
    rw [hk] at HQ ⊢
    have HK := Lib.hid hk
    clear hk
    have t1 : decide (0 ≤ k) = true := decide_eq_true HQ.out.1
    have t2 : decide (k < (n : Int)) = true := decide_eq_true HQ.out.2
    refine regs.wp_region_put (regs.bl) (fun _ wx => JBs [(w.heap.size, [.int .i64 W, .int .i64 H, .slice A n c])] wx) [15, 16, 17, 18, 19, 20, 21, 22, 23, 24, 25, 26, 27, 28, 29, 30, 31, 6, 7] (by kernel_rfl) (by kernel_rfl) (fun _ => regs.bl_refl _) (regs.bl_trans) (fun i => (match i with
      | 0 => regs.Say.val _ (.int .i64 k)
      | 1 => regs.Say.val _ (.agg #[.int .i64 W, .int .i64 H, .slice A n c])
      | 2 => regs.Say.val _ (.agg #[.int .i64 0, .int .i64 0, .int .i64 W, .int .i64 H])
      | 3 => regs.Say.val _ (.int .i64 x)
      | 4 => regs.Say.val _ (.int .i64 y)
      | 5 => regs.Say.val _ (.bool true)
      | 6 => regs.Say.val _ (.bool true)
      | 7 => regs.Say.val _ (.int .i64 k)
      | 8 => regs.Say.val _ (.bool true)
      | 9 => regs.Say.val _ (.bool true)
      | 10 => regs.Say.val _ (.bool true)
      | 11 => regs.Say.val _ (.int .i64 k)
      | 12 => regs.Say.val _ (.pointer (some ⟨w.heap.size, 2, none⟩))
      | 13 => regs.Say.val _ (.slice A n c)
      | 14 => regs.Say.val _ (.int .i64 n)
      | 15 => regs.Say.val _ (.bool true)
      | 16 => regs.Say.val _ (.bool true)
      | 17 => regs.Say.val _ (.int .i64 k)
      | 18 => regs.Say.val _ (.bool true)
      | _ => regs.Say.any _ : regs.Say (regs.bl)).p) (fun _ => regs.Say.mono _) (by kernel_rfl) ((Below.refl _ _).drew) (HJ0.out) ⟨?_, ?_, ?_, ?_, ?_, ?_, ?_, ?_, ?_, ?_, ?_, ?_, ?_, ?_, ?_, ?_, ?_, ?_, ?_, trivial⟩ ?_
    · refine regs.StepOK.plain rfl fun L a w1 hh => ?_
      have h8 : a.tmps[8]?.getD undef = .int .i64 k := by rw [← Array.getD_eq_getD_getElem?]; exact hh.old 8 rfl
      have hJ := Lib.hid hh.st
      clear hh
      go_simp
      exact ⟨_, rfl, regs.bl_refl _, rfl, hJ.out⟩
    · refine regs.StepOK.plain rfl fun L a w1 hh => ?_
      have h3 : a.tmps[3]?.getD undef = .pointer (some ⟨w.heap.size, 0, none⟩) := by rw [← Array.getD_eq_getD_getElem?]; exact hh.old 3 rfl
      obtain ⟨⟨c0, c1, c2⟩, -, ci⟩ := (hh.st.1).c3
      have hJ := Lib.hid hh.st
      clear hh
      go_simp
      exact ⟨_, rfl, regs.bl_refl _, rfl, hJ.out⟩
    · refine regs.StepOK.plain rfl fun L a w1 hh => ?_
      have h16 : a.tmps[16]?.getD undef = .agg #[.int .i64 W, .int .i64 H, .slice A n c] := by rw [← Array.getD_eq_getD_getElem?]; exact hh.dep 1 16 (by kernel_rfl) (by kernel_rfl)
      have := True.intro
      have hJ := Lib.hid hh.st
      clear hh
      go_simp
      refine (HF.out w1).mono ?_
      rintro e w9 ⟨rfl, hb9⟩
      exact ⟨_, rfl, hb9, rfl, JBs.below hJ.out hb9⟩
    · refine regs.StepOK.plain rfl fun L a w1 hh => ?_
      have h1 : a.tmps[1]?.getD undef = .int .i64 x := by rw [← Array.getD_eq_getD_getElem?]; exact hh.old 1 rfl
      have hJ := Lib.hid hh.st
      clear hh
      go_simp
      exact ⟨_, rfl, regs.bl_refl _, rfl, hJ.out⟩
    · refine regs.StepOK.plain rfl fun L a w1 hh => ?_
      have h2 : a.tmps[2]?.getD undef = .int .i64 y := by rw [← Array.getD_eq_getD_getElem?]; exact hh.old 2 rfl
      have hJ := Lib.hid hh.st
      clear hh
      go_simp
      exact ⟨_, rfl, regs.bl_refl _, rfl, hJ.out⟩
    · refine regs.StepOK.plain rfl fun L a w1 hh => ?_
      have h17 : a.tmps[17]?.getD undef = .agg #[.int .i64 0, .int .i64 0, .int .i64 W, .int .i64 H] := by rw [← Array.getD_eq_getD_getElem?]; exact hh.dep 2 17 (by kernel_rfl) (by kernel_rfl)
      have h18 : a.tmps[18]?.getD undef = .int .i64 x := by rw [← Array.getD_eq_getD_getElem?]; exact hh.dep 3 18 (by kernel_rfl) (by kernel_rfl)
      have h19 : a.tmps[19]?.getD undef = .int .i64 y := by rw [← Array.getD_eq_getD_getElem?]; exact hh.dep 4 19 (by kernel_rfl) (by kernel_rfl)
      have := True.intro
      have hJ := Lib.hid hh.st
      clear hh
      go_simp
      refine (HH.out w1).mono ?_
      rintro e w9 ⟨rfl, hb9⟩
      exact ⟨_, rfl, hb9, congrArg Value.bool HI.out, JBs.below hJ.out hb9⟩
    · refine regs.StepOK.plain rfl fun L a w1 hh => ?_
      have h20 : a.tmps[20]?.getD undef = .bool true := by rw [← Array.getD_eq_getD_getElem?]; exact hh.dep 5 20 (by kernel_rfl) (by kernel_rfl)
      have hJ := Lib.hid hh.st
      clear hh
      go_simp
      exact ⟨_, rfl, regs.bl_refl _, rfl, hJ.out⟩
    · refine regs.StepOK.yes 6 true 21 rfl rfl (fun L a w1 hh => hh.dep 6 21 (by kernel_rfl) (by kernel_rfl)) fun L a w1 hh => ?_
      have h8 : a.tmps[8]?.getD undef = .int .i64 k := by rw [← Array.getD_eq_getD_getElem?]; exact hh.old 8 rfl
      have hJ := Lib.hid hh.st
      clear hh
      go_simp
      exact ⟨_, rfl, regs.bl_refl _, rfl, hJ.out⟩
    · refine regs.StepOK.yes 6 true 21 rfl rfl (fun L a w1 hh => hh.dep 6 21 (by kernel_rfl) (by kernel_rfl)) fun L a w1 hh => ?_
      have h22 : a.tmps[22]?.getD undef = .int .i64 k := by rw [← Array.getD_eq_getD_getElem?]; exact hh.dep 7 22 (by kernel_rfl) (by kernel_rfl)
      have hJ := Lib.hid hh.st
      clear hh
      go_simp
      exact ⟨_, rfl, regs.bl_refl _, rfl, hJ.out⟩
    · refine regs.StepOK.plain rfl fun L a w1 hh => ?_
      have h21 : a.tmps[21]?.getD undef = .bool true := by rw [← Array.getD_eq_getD_getElem?]; exact hh.dep 6 21 (by kernel_rfl) (by kernel_rfl)
      have h23 : a.tmps[23]?.getD undef = .bool true := by rw [← Array.getD_eq_getD_getElem?]; exact hh.dep 8 23 (by kernel_rfl) (by kernel_rfl)
      have hJ := Lib.hid hh.st
      clear hh
      go_simp
      exact ⟨_, rfl, regs.bl_refl _, rfl, hJ.out⟩
    · refine regs.StepOK.plain rfl fun L a w1 hh => ?_
      have h24 : a.tmps[24]?.getD undef = .bool true := by rw [← Array.getD_eq_getD_getElem?]; exact hh.dep 9 24 (by kernel_rfl) (by kernel_rfl)
      have hJ := Lib.hid hh.st
      clear hh
      go_simp
      exact ⟨_, rfl, regs.bl_refl _, rfl, hJ.out⟩
    · refine regs.StepOK.yes 10 true 25 rfl rfl (fun L a w1 hh => hh.dep 10 25 (by kernel_rfl) (by kernel_rfl)) fun L a w1 hh => ?_
      have h8 : a.tmps[8]?.getD undef = .int .i64 k := by rw [← Array.getD_eq_getD_getElem?]; exact hh.old 8 rfl
      have hJ := Lib.hid hh.st
      clear hh
      go_simp
      exact ⟨_, rfl, regs.bl_refl _, rfl, hJ.out⟩
    · refine regs.StepOK.yes 10 true 25 rfl rfl (fun L a w1 hh => hh.dep 10 25 (by kernel_rfl) (by kernel_rfl)) fun L a w1 hh => ?_
      have h3 : a.tmps[3]?.getD undef = .pointer (some ⟨w.heap.size, 0, none⟩) := by rw [← Array.getD_eq_getD_getElem?]; exact hh.old 3 rfl
      have hJ := Lib.hid hh.st
      clear hh
      go_simp
      exact ⟨_, rfl, regs.bl_refl _, rfl, hJ.out⟩
    · refine regs.StepOK.yes 10 true 25 rfl rfl (fun L a w1 hh => hh.dep 10 25 (by kernel_rfl) (by kernel_rfl)) fun L a w1 hh => ?_
      have h27 : a.tmps[27]?.getD undef = .pointer (some ⟨w.heap.size, 2, none⟩) := by rw [← Array.getD_eq_getD_getElem?]; exact hh.dep 12 27 (by kernel_rfl) (by kernel_rfl)
      obtain ⟨⟨c0, c1, c2⟩, -, ci⟩ := (hh.st.1).c3
      have hJ := Lib.hid hh.st
      clear hh
      go_simp
      exact ⟨_, rfl, regs.bl_refl _, rfl, hJ.out⟩
    · refine regs.StepOK.yes 10 true 25 rfl rfl (fun L a w1 hh => hh.dep 10 25 (by kernel_rfl) (by kernel_rfl)) fun L a w1 hh => ?_
      have h28 : a.tmps[28]?.getD undef = .slice A n c := by rw [← Array.getD_eq_getD_getElem?]; exact hh.dep 13 28 (by kernel_rfl) (by kernel_rfl)
      have hJ := Lib.hid hh.st
      clear hh
      go_simp
      exact ⟨_, rfl, regs.bl_refl _, rfl, hJ.out⟩
    · refine regs.StepOK.yes 10 true 25 rfl rfl (fun L a w1 hh => hh.dep 10 25 (by kernel_rfl) (by kernel_rfl)) fun L a w1 hh => ?_
      have h26 : a.tmps[26]?.getD undef = .int .i64 k := by rw [← Array.getD_eq_getD_getElem?]; exact hh.dep 11 26 (by kernel_rfl) (by kernel_rfl)
      have h29 : a.tmps[29]?.getD undef = .int .i64 n := by rw [← Array.getD_eq_getD_getElem?]; exact hh.dep 14 29 (by kernel_rfl) (by kernel_rfl)
      have hJ := Lib.hid hh.st
      clear hh
      go_simp
      exact ⟨_, rfl, regs.bl_refl _, rfl, hJ.out⟩
    · refine regs.StepOK.plain rfl fun L a w1 hh => ?_
      have h25 : a.tmps[25]?.getD undef = .bool true := by rw [← Array.getD_eq_getD_getElem?]; exact hh.dep 10 25 (by kernel_rfl) (by kernel_rfl)
      have h30 : a.tmps[30]?.getD undef = .bool true := by rw [← Array.getD_eq_getD_getElem?]; exact hh.dep 15 30 (by kernel_rfl) (by kernel_rfl)
      have hJ := Lib.hid hh.st
      clear hh
      go_simp
      exact ⟨_, rfl, regs.bl_refl _, rfl, hJ.out⟩
    · refine regs.StepOK.plain rfl fun L a w1 hh => ?_
      have h15 : a.tmps[15]?.getD undef = .int .i64 k := by rw [← Array.getD_eq_getD_getElem?]; exact hh.dep 0 15 (by kernel_rfl) (by kernel_rfl)
      have hJ := Lib.hid hh.st
      clear hh
      go_simp
      exact ⟨_, rfl, regs.bl_refl _, rfl, hJ.out⟩
    · refine regs.StepOK.plain rfl fun L a w1 hh => ?_
      have h31 : a.tmps[31]?.getD undef = .bool true := by rw [← Array.getD_eq_getD_getElem?]; exact hh.dep 16 31 (by kernel_rfl) (by kernel_rfl)
      have hJ := Lib.hid hh.st
      clear hh
      go_simp
      exact ⟨_, rfl, regs.bl_refl _, rfl, hJ.out⟩
    intro L w5 val hL hJ hR hv
    have h6 : val 6 = .int .i64 k := hv 17 6 (by kernel_rfl)
    have h7 : val 7 = .bool true := hv 18 7 (by kernel_rfl)
    have HK5 := Lib.hid hJ
    have HR5 := Lib.hid hR
    clear hv hL hJ hR
    simp only [regs.putAll, List.map_cons, List.map_nil]
    rw [h6, h7]
    generalize val 15 = v15
    generalize val 16 = v16
    generalize val 17 = v17
    generalize val 18 = v18
    generalize val 19 = v19
    generalize val 20 = v20
    generalize val 21 = v21
    generalize val 22 = v22
    generalize val 23 = v23
    generalize val 24 = v24
    generalize val 25 = v25
    generalize val 26 = v26
    generalize val 27 = v27
    generalize val 28 = v28
    generalize val 29 = v29
    generalize val 30 = v30
    generalize val 31 = v31
    simp only [Act.put, List.setIfInBounds_toArray, List.set_cons_zero, List.set_cons_succ]
    clear h6 h7
    go_wp2_with (fail)
    go_ret2
    exact ⟨k, rfl, HK.out.symm, HB.out.trans (HR5.out.mono HB.out.size)⟩
  | false =>
    clear HP
    generalize wrap64 (wrap64 (y * W) + x) = k
    refine regs.wp_region_put (regs.bl) (fun _ wx => JBs [(w.heap.size, [.int .i64 W, .int .i64 H, .slice A n c])] wx) [15, 16, 17, 18, 19, 20, 21, 22, 23, 24, 25, 26, 27, 28, 29, 30, 31, 6, 7] (by kernel_rfl) (by kernel_rfl) (fun _ => regs.bl_refl _) (regs.bl_trans) (fun i => (match i with
      | 0 => regs.Say.val _ (.int .i64 k)
      | 1 => regs.Say.val _ (.agg #[.int .i64 W, .int .i64 H, .slice A n c])
      | 2 => regs.Say.val _ (.agg #[.int .i64 0, .int .i64 0, .int .i64 W, .int .i64 H])
      | 3 => regs.Say.val _ (.int .i64 x)
      | 4 => regs.Say.val _ (.int .i64 y)
      | 5 => regs.Say.val _ (.bool false)
      | 6 => regs.Say.val _ (.bool false)
      | 7 => regs.Say.val _ (undef)
      | 8 => regs.Say.val _ (undef)
      | 9 => regs.Say.val _ (.bool false)
      | 10 => regs.Say.val _ (.bool false)
      | 11 => regs.Say.val _ (undef)
      | 12 => regs.Say.val _ (undef)
      | 13 => regs.Say.val _ (undef)
      | 14 => regs.Say.val _ (undef)
      | 15 => regs.Say.val _ (undef)
      | 16 => regs.Say.val _ (.bool false)
      | 17 => regs.Say.val _ (.int .i64 k)
      | 18 => regs.Say.val _ (.bool false)
      | _ => regs.Say.any _ : regs.Say (regs.bl)).p) (fun _ => regs.Say.mono _) (by kernel_rfl) ((Below.refl _ _).drew) (HJ0.out) ⟨?_, ?_, ?_, ?_, ?_, ?_, ?_, ?_, ?_, ?_, ?_, ?_, ?_, ?_, ?_, ?_, ?_, ?_, ?_, trivial⟩ ?_
    · refine regs.StepOK.plain rfl fun L a w1 hh => ?_
      have h8 : a.tmps[8]?.getD undef = .int .i64 k := by rw [← Array.getD_eq_getD_getElem?]; exact hh.old 8 rfl
      have hJ := Lib.hid hh.st
      clear hh
      go_simp
      exact ⟨_, rfl, regs.bl_refl _, rfl, hJ.out⟩
    · refine regs.StepOK.plain rfl fun L a w1 hh => ?_
      have h3 : a.tmps[3]?.getD undef = .pointer (some ⟨w.heap.size, 0, none⟩) := by rw [← Array.getD_eq_getD_getElem?]; exact hh.old 3 rfl
      obtain ⟨⟨c0, c1, c2⟩, -, ci⟩ := (hh.st.1).c3
      have hJ := Lib.hid hh.st
      clear hh
      go_simp
      exact ⟨_, rfl, regs.bl_refl _, rfl, hJ.out⟩
    · refine regs.StepOK.plain rfl fun L a w1 hh => ?_
      have h16 : a.tmps[16]?.getD undef = .agg #[.int .i64 W, .int .i64 H, .slice A n c] := by rw [← Array.getD_eq_getD_getElem?]; exact hh.dep 1 16 (by kernel_rfl) (by kernel_rfl)
      have := True.intro
      have hJ := Lib.hid hh.st
      clear hh
      go_simp
      refine (HF.out w1).mono ?_
      rintro e w9 ⟨rfl, hb9⟩
      exact ⟨_, rfl, hb9, rfl, JBs.below hJ.out hb9⟩
    · refine regs.StepOK.plain rfl fun L a w1 hh => ?_
      have h1 : a.tmps[1]?.getD undef = .int .i64 x := by rw [← Array.getD_eq_getD_getElem?]; exact hh.old 1 rfl
      have hJ := Lib.hid hh.st
      clear hh
      go_simp
      exact ⟨_, rfl, regs.bl_refl _, rfl, hJ.out⟩
    · refine regs.StepOK.plain rfl fun L a w1 hh => ?_
      have h2 : a.tmps[2]?.getD undef = .int .i64 y := by rw [← Array.getD_eq_getD_getElem?]; exact hh.old 2 rfl
      have hJ := Lib.hid hh.st
      clear hh
      go_simp
      exact ⟨_, rfl, regs.bl_refl _, rfl, hJ.out⟩
    · refine regs.StepOK.plain rfl fun L a w1 hh => ?_
      have h17 : a.tmps[17]?.getD undef = .agg #[.int .i64 0, .int .i64 0, .int .i64 W, .int .i64 H] := by rw [← Array.getD_eq_getD_getElem?]; exact hh.dep 2 17 (by kernel_rfl) (by kernel_rfl)
      have h18 : a.tmps[18]?.getD undef = .int .i64 x := by rw [← Array.getD_eq_getD_getElem?]; exact hh.dep 3 18 (by kernel_rfl) (by kernel_rfl)
      have h19 : a.tmps[19]?.getD undef = .int .i64 y := by rw [← Array.getD_eq_getD_getElem?]; exact hh.dep 4 19 (by kernel_rfl) (by kernel_rfl)
      have := True.intro
      have hJ := Lib.hid hh.st
      clear hh
      go_simp
      refine (HH.out w1).mono ?_
      rintro e w9 ⟨rfl, hb9⟩
      exact ⟨_, rfl, hb9, congrArg Value.bool HI.out, JBs.below hJ.out hb9⟩
    · refine regs.StepOK.plain rfl fun L a w1 hh => ?_
      have h20 : a.tmps[20]?.getD undef = .bool false := by rw [← Array.getD_eq_getD_getElem?]; exact hh.dep 5 20 (by kernel_rfl) (by kernel_rfl)
      have hJ := Lib.hid hh.st
      clear hh
      go_simp
      exact ⟨_, rfl, regs.bl_refl _, rfl, hJ.out⟩
    · refine regs.StepOK.no 6 true 21 rfl rfl (fun L a w1 hh => ?_) fun L a w1 hh => ⟨rfl, hh.st⟩
      exact hh.dep 6 21 (by kernel_rfl) (by kernel_rfl)
    · refine regs.StepOK.no 6 true 21 rfl rfl (fun L a w1 hh => ?_) fun L a w1 hh => ⟨rfl, hh.st⟩
      exact hh.dep 6 21 (by kernel_rfl) (by kernel_rfl)
    · refine regs.StepOK.plain rfl fun L a w1 hh => ?_
      have h21 : a.tmps[21]?.getD undef = .bool false := by rw [← Array.getD_eq_getD_getElem?]; exact hh.dep 6 21 (by kernel_rfl) (by kernel_rfl)
      have hJ := Lib.hid hh.st
      clear hh
      go_simp
      exact ⟨_, rfl, regs.bl_refl _, rfl, hJ.out⟩
    · refine regs.StepOK.plain rfl fun L a w1 hh => ?_
      have h24 : a.tmps[24]?.getD undef = .bool false := by rw [← Array.getD_eq_getD_getElem?]; exact hh.dep 9 24 (by kernel_rfl) (by kernel_rfl)
      have hJ := Lib.hid hh.st
      clear hh
      go_simp
      exact ⟨_, rfl, regs.bl_refl _, rfl, hJ.out⟩
    · refine regs.StepOK.no 10 true 25 rfl rfl (fun L a w1 hh => ?_) fun L a w1 hh => ⟨rfl, hh.st⟩
      exact hh.dep 10 25 (by kernel_rfl) (by kernel_rfl)
    · refine regs.StepOK.no 10 true 25 rfl rfl (fun L a w1 hh => ?_) fun L a w1 hh => ⟨rfl, hh.st⟩
      exact hh.dep 10 25 (by kernel_rfl) (by kernel_rfl)
    · refine regs.StepOK.no 10 true 25 rfl rfl (fun L a w1 hh => ?_) fun L a w1 hh => ⟨rfl, hh.st⟩
      exact hh.dep 10 25 (by kernel_rfl) (by kernel_rfl)
    · refine regs.StepOK.no 10 true 25 rfl rfl (fun L a w1 hh => ?_) fun L a w1 hh => ⟨rfl, hh.st⟩
      exact hh.dep 10 25 (by kernel_rfl) (by kernel_rfl)
    · refine regs.StepOK.no 10 true 25 rfl rfl (fun L a w1 hh => ?_) fun L a w1 hh => ⟨rfl, hh.st⟩
      exact hh.dep 10 25 (by kernel_rfl) (by kernel_rfl)
    · refine regs.StepOK.plain rfl fun L a w1 hh => ?_
      have h25 : a.tmps[25]?.getD undef = .bool false := by rw [← Array.getD_eq_getD_getElem?]; exact hh.dep 10 25 (by kernel_rfl) (by kernel_rfl)
      have hJ := Lib.hid hh.st
      clear hh
      go_simp
      exact ⟨_, rfl, regs.bl_refl _, rfl, hJ.out⟩
    · refine regs.StepOK.plain rfl fun L a w1 hh => ?_
      have h15 : a.tmps[15]?.getD undef = .int .i64 k := by rw [← Array.getD_eq_getD_getElem?]; exact hh.dep 0 15 (by kernel_rfl) (by kernel_rfl)
      have hJ := Lib.hid hh.st
      clear hh
      go_simp
      exact ⟨_, rfl, regs.bl_refl _, rfl, hJ.out⟩
    · refine regs.StepOK.plain rfl fun L a w1 hh => ?_
      have h31 : a.tmps[31]?.getD undef = .bool false := by rw [← Array.getD_eq_getD_getElem?]; exact hh.dep 16 31 (by kernel_rfl) (by kernel_rfl)
      have hJ := Lib.hid hh.st
      clear hh
      go_simp
      exact ⟨_, rfl, regs.bl_refl _, rfl, hJ.out⟩
    intro L w5 val hL hJ hR hv
    have h6 : val 6 = .int .i64 k := hv 17 6 (by kernel_rfl)
    have h7 : val 7 = .bool false := hv 18 7 (by kernel_rfl)
    have HK5 := Lib.hid hJ
    have HR5 := Lib.hid hR
    clear hv hL hJ hR
    simp only [regs.putAll, List.map_cons, List.map_nil]
    rw [h6, h7]
    generalize val 15 = v15
    generalize val 16 = v16
    generalize val 17 = v17
    generalize val 18 = v18
    generalize val 19 = v19
    generalize val 20 = v20
    generalize val 21 = v21
    generalize val 22 = v22
    generalize val 23 = v23
    generalize val 24 = v24
    generalize val 25 = v25
    generalize val 26 = v26
    generalize val 27 = v27
    generalize val 28 = v28
    generalize val 29 = v29
    generalize val 30 = v30
    generalize val 31 = v31
    simp only [Act.put, List.setIfInBounds_toArray, List.set_cons_zero, List.set_cons_succ]
    clear h6 h7
    go_wp2_with (fail)
    go_ret2
    exact ⟨k, rfl, (fun h => nomatch h), HB.out.trans (HR5.out.mono HB.out.size)⟩

/-! ### A step that writes certain blocks alone -/
structure Off (S : List Nat) (w w' : World) : Prop where
  os : w'.os = w.os
  tape : w'.tape = w.tape
  output : w'.output = w.output
  size : w.heap.size ≤ w'.heap.size
  far : ∀ k, k < w.heap.size → k ∉ S → w'.heap[k]? = w.heap[k]?
theorem Off.refl (S : List Nat) (w : World) : Off S w w := ⟨rfl, rfl, rfl, Nat.le_refl _, fun _ _ _ => rfl⟩
theorem Off.trans {S : List Nat} {a b c : World} (h : Off S a b) (k : Off S b c) : Off S a c :=
  ⟨k.os.trans h.os, k.tape.trans h.tape, k.output.trans h.output, Nat.le_trans h.size k.size, fun j hj hn => (k.far j (Nat.lt_of_lt_of_le hj h.size) hn).trans (h.far j hj hn)⟩
theorem Off.of_below {S : List Nat} {w w' : World} (hb : Below w.heap.size w w') : Off S w w' := ⟨hb.os, hb.tape, hb.output, hb.size, fun k hk _ => hb.block k hk⟩
theorem Off.set {S : List Nat} {w : World} {g : Nat} (hg : g ∈ S) (i : Nat) (v : Value) : Off S w (w.setCell ⟨g, i, none⟩ v) :=
  ⟨rfl, rfl, rfl, by simp [World.setCell], fun k _ hn => Below.heap_setCell _ _ _ _ (fun e => hn (by rw [e]; exact hg))⟩
theorem Off.to_below {S : List Nat} {w w' : World} {B : Nat} (h : Off S w w') (hB : B ≤ w.heap.size) (hS : ∀ g ∈ S, B ≤ g) : Below B w w' :=
  ⟨h.os, h.tape, h.output, h.size, fun k hk => h.far k (by omega) (fun hm => by have := hS k hm; omega)⟩
theorem Off.mono {S S' : List Nat} {w w' : World} (h : Off S w w') (hS : ∀ g ∈ S, g ∈ S') : Off S' w w' := ⟨h.os, h.tape, h.output, h.size, fun k hk hn => h.far k hk fun hm => hn (hS k hm)⟩
/-- blocks of the step's own count as nothing -/
theorem Off.less {S S' : List Nat} {w w' : World} (h : Off S w w') (hS : ∀ g ∈ S, g ∈ S' ∨ w.heap.size ≤ g) : Off S' w w' := ⟨h.os, h.tape, h.output, h.size, fun k hk hn => h.far k hk fun hm => by rcases hS k hm with h1 | h1 <;> first | exact hn h1 | omega⟩
theorem Off.blk {S : List Nat} {w w' : World} {g : Nat} {cs : List Value} (h : Off S w w') (hb : Blk w g cs) (hg : g ∉ S) : Blk w' g cs := hb.stays (h.far g hb.inside hg)
/-! ### Pixels in a block that is known -/
def Px (w : World) (g : Nat) (l : List Nat) : Prop := ∃ tail, Blk w g (l.map eW ++ tail)
section
variable {w w' : World} {g : Nat} {l : List Nat}
theorem Px.inside (h : Px w g l) : g < w.heap.size := by obtain ⟨_, h⟩ := h; exact h.inside
theorem Px.cell (h : Px w g l) {j : Nat} (hj : j < l.length) : w.cell? ⟨g, j, none⟩ = some (eW l[j]) := by
  obtain ⟨t, h⟩ := h
  rw [h.cell j, List.getElem?_append_left (by simpa using hj), List.getElem?_map, List.getElem?_eq_getElem hj]
  rfl
theorem Px.free (h : Px w g l) (j : Nat) : w.frozen? ⟨g, j, none⟩ = false := by obtain ⟨_, h⟩ := h; exact h.free j
theorem Px.stays (h : Px w g l) (hb : w'.heap[g]? = w.heap[g]?) : Px w' g l := by obtain ⟨t, h⟩ := h; exact ⟨t, h.stays hb⟩
theorem Px.below (h : Px w g l) (hb : Below w.heap.size w w') : Px w' g l := h.stays (hb.block g h.inside)
theorem Px.off {S : List Nat} (h : Px w g l) (ho : Off S w w') (hg : g ∉ S) : Px w' g l := h.stays (ho.far g h.inside hg)
theorem Px.set (h : Px w g l) {j : Nat} (hj : j < l.length) (v : Nat) : Px (w.setCell ⟨g, j, none⟩ (eW v)) g (l.set j v) := by
  obtain ⟨t, h⟩ := h
  refine ⟨t, ?_⟩
  have := h.set j (eW v)
  rw [List.set_append, if_pos (by simpa using hj)] at this
  rw [List.map_set]
  exact this
theorem Px.row (h : Px w g l) : Row eW w (some ⟨g, 0, none⟩) l := fun _ => ⟨g, 0, rfl, fun j hj => by rw [Nat.zero_add]; exact h.cell hj⟩
end
/-! ### At -/
def pixAt (W H : Int) (l : List Nat) (x y : Int) : Nat := if inB W H x y = true then l.getD (y * W + x).toNat 0 else 0
set_option maxHeartbeats 1000000 in
theorem at_any (W H : Int) (A : Option Addr) (l : List Nat) (c : Nat) (x y : Int) (hw : wholeB W H l.length = true) (hn : l.length ≤ maxLen) (w : World) (hr : Row eW w A l) :
    Calls Tryd.prog 18 #[imV W H A l.length c, .int .i64 x, .int .i64 y] w fun e w' => e = .returned (.int .u32 (pixAt W H l x y : Nat)) ∧ Below w.heap.size w w' := by
  have HP := Lib.hid (fun w => place_any W H A l.length c x y hw hn w)
  have HI := Lib.hid (fun h => place_in (x := x) (y := y) hw h)
  have HA : Hid (pixAt W H l x y = if inB W H x y = true then l.getD (y * W + x).toNat 0 else 0) := rfl
  have HR := Lib.hid hr
  have hn : l.length ≤ 9223372036854775807 := by unfold maxLen at hn; omega
  clear hr hw
  generalize pixAt W H l x y = R at *
  unfold PlaceQ at HP
  generalize inB W H x y = b1 at *
  unfold imV at *
  go_enter Tryd.func18, Tryd.ntmps18
  go_wp2_with (fail)
  refine (HP.out _).mono ?_
  rintro e w1 ⟨k, rfl, hk, hb⟩
  have HB : Hid (Below w.heap.size w w1) := bel1 hb
  have hR : Hid (Blk w1 w.heap.size [.int .i64 W, .int .i64 H, .slice A l.length c]) := (blk_at w _ rfl [.int .i64 W, .int .i64 H, .slice A l.length c] _).below hb (by simp)
  have HK := Lib.hid hk
  clear hb hk HP
  obtain ⟨⟨c0, c1, c2⟩, -, ci⟩ := hR.out.c3
  cases b1 with
  | true =>
    obtain ⟨p1, p2, -, -⟩ := HI.out rfl
    obtain ⟨j, hj⟩ : ∃ j : Nat, y * W + x = (j : Nat) := ⟨(y * W + x).toNat, by omega⟩
    have hjl : j < l.length := by rw [hj] at p2; omega
    have HA2 : Hid (R = l[j]) := by
      have h2 := HA.out
      rw [if_pos rfl, hj, Int.toNat_natCast] at h2
      exact h2.trans (by simp [hjl])
    have hkj : k = (j : Nat) := (HK.out rfl).trans hj
    subst hkj
    obtain ⟨b, off, eA, hc⟩ := (HR.out.below HB.out).at_ hjl
    subst eA
    have t : decide (j < l.length) = true := by simpa using hjl
    clear HK HI HA hj p1 p2 HR
    generalize l[j] = z at *
    unfold eW at hc
    go_wp2_with (fail)
    go_ret
    exact ⟨ret_num (by rw [HA2.out]), HB.out⟩
  | false =>
    clear HK HI HR
    go_wp2_with (fail)
    go_ret
    exact ⟨ret_num (by rw [HA.out]; rfl), HB.out⟩
/-! ### Set -/
def pxSet (W H : Int) (l : List Nat) (x y : Int) (p : Nat) : List Nat := if (inB W H x y && rb p) = true then l.set (y * W + x).toNat p else l
set_option maxHeartbeats 1000000 in
theorem set_any (W H : Int) (g : Nat) (l : List Nat) (c : Nat) (x y : Int) (p : Nat) (hp : p < 4294967296) (hw : wholeB W H l.length = true) (hn : l.length ≤ maxLen) (w : World) (hr : Px w g l) :
    Calls Tryd.prog 15 #[imV W H (some ⟨g, 0, none⟩) l.length c, .int .i64 x, .int .i64 y, .int .u32 (p : Nat)] w fun e w' => e = .returned (.bool (inB W H x y && rb p)) ∧ Px w' g (pxSet W H l x y p) ∧ Off [g] w w' := by
  have HP := Lib.hid (fun w => place_any W H (some ⟨g, 0, none⟩) l.length c x y hw hn w)
  have HI := Lib.hid (fun h => place_in (x := x) (y := y) hw h)
  have HA : Hid (pxSet W H l x y p = if (inB W H x y && rb p) = true then l.set (y * W + x).toNat p else l) := rfl
  have HG := Lib.hid (fun w => rgt_any p hp w)
  have HR := Lib.hid hr
  have hn : l.length ≤ 9223372036854775807 := by unfold maxLen at hn; omega
  clear hr hw
  generalize pxSet W H l x y p = R at *
  unfold PlaceQ at HP
  generalize inB W H x y = b1 at *
  generalize rb p = b2 at *
  unfold imV at *
  go_enter Tryd.func15, Tryd.ntmps15
  go_wp2_with (fail)
  refine (HP.out _).mono ?_
  rintro e w1 ⟨k, rfl, hk, hb⟩
  have HB : Hid (Below w.heap.size w w1) := bel1 hb
  have hR : Hid (Blk w1 w.heap.size [.int .i64 W, .int .i64 H, .slice (some ⟨g, 0, none⟩) l.length c]) := (blk_at w _ rfl [.int .i64 W, .int .i64 H, .slice (some ⟨g, 0, none⟩) l.length c] _).below hb (by simp)
  have HK := Lib.hid hk
  clear hb hk HP
  cases b1 with
  | true =>
    go_wp2_with (fail)
    refine (HG.out _).mono ?_
    rintro e w2 ⟨rfl, hd⟩
    have HB2 : Hid (Below w.heap.size w w2) := HB.out.trans (hd.below _)
    have hR2 : Hid (Blk w2 w.heap.size [.int .i64 W, .int .i64 H, .slice (some ⟨g, 0, none⟩) l.length c]) := hd.blk hR.out
    clear hd HB hR HG
    cases b2 with
    | true =>
      obtain ⟨p1, p2, -, -⟩ := HI.out (by trivial)
      obtain ⟨j, hj⟩ : ∃ j : Nat, y * W + x = (j : Nat) := ⟨(y * W + x).toNat, by omega⟩
      have hjl : j < l.length := by rw [hj] at p2; omega
      have HA2 : Hid (R = l.set j p) := by
        have h2 := HA.out
        rw [if_pos (by rfl), hj, Int.toNat_natCast] at h2
        exact h2
      have hkj : k = (j : Nat) := (HK.out (by trivial)).trans hj
      subst hkj
      have HX : Hid (Px w2 g l) := HR.out.below HB2.out
      have hc := HX.out.cell hjl
      have hf := HX.out.free j
      have hgi := HX.out.inside
      have HS := Lib.hid (And.intro (HX.out.set hjl p) (Off.set (S := [g]) (w := w2) (g := g) (by simp) j (eW p)))
      have t : decide (j < l.length) = true := by simpa using hjl
      obtain ⟨⟨c0, c1, c2⟩, -, ci⟩ := hR2.out.c3
      clear HK HI HA hj p1 p2 HR
      generalize l[j] = z at *
      unfold eW at hc
      go_wp2_with (fail)
      go_ret
      exact ⟨rfl, by rw [HA2.out]; exact HS.out.1, (Off.of_below HB2.out).trans HS.out.2⟩
    | false =>
      clear HK HI
      go_wp2_with (fail)
      go_ret
      exact ⟨rfl, by rw [HA.out]; exact HR.out.below HB2.out, Off.of_below HB2.out⟩
  | false =>
    clear HK HI HG
    go_wp2_with (fail)
    go_ret
    exact ⟨rfl, by rw [HA.out]; exact HR.out.below HB.out, Off.of_below HB.out⟩
end Go.Proofs.YtboelbmpcbeifaaDoor
