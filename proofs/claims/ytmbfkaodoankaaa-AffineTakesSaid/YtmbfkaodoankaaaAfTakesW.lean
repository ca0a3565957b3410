/-
  Layer 8: the walk of AffineTakes.
-/
import Derived.Test.YtmbfkaodoankaaaAfJ
namespace Go.Proofs.Ytmbfkaodoankaaa
open Go.RowKit

set_option maxRecDepth 100000 in
set_option maxHeartbeats 4000000 in
theorem takes_walk (m : Mp) (p : Pt) (w : World) : Calls Try.prog 3 #[m.v, p.v] w fun e w' => e = .returned (.bool true) ∧ Below w.heap.size w w' := by
  have HREF := Lib.hid (fun w => mp_ref m w)
  have HDR := Lib.hid (fun w => mp_dright m w)
  have HRT := Lib.hid (fun w => mp_right m w)
  have HTK := Lib.hid (fun w => mp_take m p w)
  have HDT := Lib.hid (fun w => mp_dtake m p w)
  generalize m.right = y at *
  generalize m.takes p = rb at *
  generalize m.take p = rv at *
  obtain ⟨rx, ry⟩ := rv
  obtain ⟨ka, kb, kc, kd, ke, kf⟩ := m
  obtain ⟨px, py⟩ := p
  have HX := Lib.hid (fun w => dright_any px w)
  have HY := Lib.hid (fun w => dright_any py w)
  generalize rightB px = bx at *
  generalize rightB py = by_ at *
  have HPS := Lib.hid (pt_same rx ry)
  unfold Mp.v Pt.v at *
  simp only at HREF HDR HRT HTK HDT ⊢
  go_enter Try.func3, Try.ntmps3
  go_wp2_with (fail)
  refine (HREF.out _).mono ?_
  rintro e w1 ⟨rfl, hb⟩
  have B1 : Hid (Below w.heap.size w w1) := (((Below.refl _ _).alloc (Nat.le_refl _) _).alloc (by simp) _).trans (hb.mono (by simp; omega))
  have bm1 : Hid (Blk w1 w.heap.size [.int .i64 ka, .int .i64 kb, .int .i64 kc, .int .i64 kd, .int .i64 ke, .int .i64 kf]) := ((blk_new w [.int .i64 ka, .int .i64 kb, .int .i64 kc, .int .i64 kd, .int .i64 ke, .int .i64 kf] _).alloc _).below' hb
  have bp1 : Hid (Blk w1 (w.heap.size + 1) [.int .i64 px, .int .i64 py]) := (blk_at (w.alloc _) _ (by simp) [.int .i64 px, .int .i64 py] _).below' hb
  clear hb
  go_wp2_with (fail)
  refine (HDR.out _).mono ?_
  rintro e w2 ⟨rfl, hb⟩
  have B2 := Lib.hid (B1.out.trans (hb.mono B1.out.size))
  have bm2 := Lib.hid (bm1.out.below' hb)
  have bp2 := Lib.hid (bp1.out.below' hb)
  clear hb B1 bm1 bp1 HDR
  obtain ⟨⟨c0, c1, c2, c3, c4, c5⟩, -, ci⟩ := bm2.out.c6
  go_wp2_with (fail)
  refine (HRT.out _).mono ?_
  rintro e w3 ⟨rfl, hb⟩
  have B3 := Lib.hid (B2.out.trans (hb.mono B2.out.size))
  have bm3 := Lib.hid (bm2.out.below' hb)
  have bp3 := Lib.hid (bp2.out.below' hb)
  clear hb B2 bm2 bp2 HRT c0 c1 c2 c3 c4 c5 ci
  obtain ⟨⟨c0, c1, c2, c3, c4, c5⟩, -, ci⟩ := bm3.out.c6
  obtain ⟨⟨p0, p1⟩, -, pi⟩ := bp3.out.c2
  have ty : (y != y) = false := by simp
  cases y with
  | false =>
    go_wp2_with (fail)
    refine (awake_any _).mono ?_
    rintro e w4 ⟨rfl, hb⟩
    have B4 := Lib.hid (B3.out.trans (hb.mono B3.out.size))
    clear hb
    go_wp2_with (fail)
    go_ret
    exact ⟨rfl, B4.out⟩
  | true =>
    go_wp2_with (fail)
    refine (HX.out _).mono ?_
    rintro e w4 ⟨rfl, rfl⟩
    cases bx with
    | false =>
      go_wp2_with (fail)
      refine (awake_any _).mono ?_
      rintro e w4 ⟨rfl, hb⟩
      have B4 := Lib.hid (B3.out.trans (hb.mono B3.out.size))
      clear hb
      go_wp2_with (fail)
      go_ret
      exact ⟨rfl, B4.out⟩
    | true =>
      go_wp2_with (fail)
      refine (HY.out _).mono ?_
      rintro e w4 ⟨rfl, rfl⟩
      cases by_ with
      | false =>
        go_wp2_with (fail)
        refine (awake_any _).mono ?_
        rintro e w4 ⟨rfl, hb⟩
        have B4 := Lib.hid (B3.out.trans (hb.mono B3.out.size))
        clear hb
        go_wp2_with (fail)
        go_ret
        exact ⟨rfl, B4.out⟩
      | true =>
        go_wp2_with (fail)
        refine (HTK.out _).mono ?_
        rintro e w4 ⟨rfl, hb⟩
        have B4 := Lib.hid (B3.out.trans (hb.mono B3.out.size))
        have bm4 := Lib.hid (bm3.out.below' hb)
        have bp4 := Lib.hid (bp3.out.below' hb)
        clear hb B3 bm3 bp3 c0 c1 c2 c3 c4 c5 ci p0 p1 pi ty HX HY HTK
        go_wp2_with (fail)
        have HJ : Hid (JBs [(w.heap.size, [.int .i64 ka, .int .i64 kb, .int .i64 kc, .int .i64 kd, .int .i64 ke, .int .i64 kf]), (w.heap.size + 1, [.int .i64 px, .int .i64 py]), (w4.heap.size, [.int .i64 rx, .int .i64 ry])] (w4.alloc (.cells #[.int .i64 rx, .int .i64 ry] 25))) := ⟨bm4.out.alloc _, bp4.out.alloc _, blk_new w4 [.int .i64 rx, .int .i64 ry] _, trivial⟩
        have B5 : Hid (Below w.heap.size w (w4.alloc (.cells #[.int .i64 rx, .int .i64 ry] 25))) := B4.out.alloc B4.out.size _
        clear bm4 bp4 B4
        generalize w4.alloc (.cells #[.int .i64 rx, .int .i64 ry] 25) = W5 at *
        generalize w4.heap.size = g1 at *
        refine regs.wp_region_put (regs.bl) (fun _ wx => JBs [(w.heap.size, [.int .i64 ka, .int .i64 kb, .int .i64 kc, .int .i64 kd, .int .i64 ke, .int .i64 kf]), ((w.heap.size + 1), [.int .i64 px, .int .i64 py]), (g1, [.int .i64 rx, .int .i64 ry])] wx) [40, 41, 42, 43, 44, 45, 46, 39, 47, 48, 49, 8, 9, 10] (by kernel_rfl) (by kernel_rfl) (fun _ => regs.bl_refl _) (regs.bl_trans) (fun i => (match i with
          | 0 => regs.Say.val _ (.agg #[.int .i64 ka, .int .i64 kb, .int .i64 kc, .int .i64 kd, .int .i64 ke, .int .i64 kf])
          | 1 => regs.Say.val _ (.agg #[.int .i64 ka, .int .i64 kb, .int .i64 kc, .int .i64 kd, .int .i64 ke, .int .i64 kf])
          | 2 => regs.Say.val _ (.pointer (some ⟨(w.heap.size + 1), 0, none⟩))
          | 3 => regs.Say.val _ (.int .i64 px)
          | 4 => regs.Say.val _ (.pointer (some ⟨(w.heap.size + 1), 1, none⟩))
          | 5 => regs.Say.val _ (.int .i64 py)
          | 6 => regs.Say.val _ (.tuple #[.int .i64 rx, .int .i64 ry, .bool rb])
          | 7 => regs.Say.val _ (.tuple #[.int .i64 rx, .int .i64 ry, .bool rb])
          | 8 => regs.Say.val _ (.int .i64 rx)
          | 9 => regs.Say.val _ (.int .i64 ry)
          | 10 => regs.Say.val _ (.bool rb)
          | 11 => regs.Say.val _ (.int .i64 rx)
          | 12 => regs.Say.val _ (.int .i64 ry)
          | 13 => regs.Say.val _ (.bool rb)
          | _ => regs.Say.any _ : regs.Say (regs.bl)).p) (fun _ => regs.Say.mono _) (by kernel_rfl) ((Below.refl _ _).drew) (HJ.out) ⟨?_, ?_, ?_, ?_, ?_, ?_, ?_, ?_, ?_, ?_, ?_, ?_, ?_, ?_, trivial⟩ ?_
        · refine regs.StepOK.plain rfl fun L a w1 hh => ?_
          have h2 : a.tmps[2]?.getD undef = .pointer (some ⟨w.heap.size, 0, none⟩) := by rw [← Array.getD_eq_getD_getElem?]; exact hh.old 2 rfl
          obtain ⟨⟨c0, c1, c2, c3, c4, c5⟩, -, ci⟩ := (hh.st.1).c6
          have hJ := Lib.hid hh.st
          clear hh
          go_simp
          exact ⟨_, rfl, regs.bl_refl _, rfl, hJ.out⟩
        · refine regs.StepOK.plain rfl fun L a w1 hh => ?_
          have h40 : a.tmps[40]?.getD undef = .agg #[.int .i64 ka, .int .i64 kb, .int .i64 kc, .int .i64 kd, .int .i64 ke, .int .i64 kf] := by rw [← Array.getD_eq_getD_getElem?]; exact hh.dep 0 40 (by kernel_rfl) (by kernel_rfl)
          have := True.intro
          have hJ := Lib.hid hh.st
          clear hh
          go_simp
          refine (HREF.out w1).mono ?_
          rintro e w9 ⟨rfl, hb9⟩
          exact ⟨_, rfl, hb9, rfl, JBs.below hJ.out hb9⟩
        · refine regs.StepOK.plain rfl fun L a w1 hh => ?_
          have h3 : a.tmps[3]?.getD undef = .pointer (some ⟨(w.heap.size + 1), 0, none⟩) := by rw [← Array.getD_eq_getD_getElem?]; exact hh.old 3 rfl
          have hJ := Lib.hid hh.st
          clear hh
          go_simp
          exact ⟨_, rfl, regs.bl_refl _, rfl, hJ.out⟩
        · refine regs.StepOK.plain rfl fun L a w1 hh => ?_
          have h42 : a.tmps[42]?.getD undef = .pointer (some ⟨(w.heap.size + 1), 0, none⟩) := by rw [← Array.getD_eq_getD_getElem?]; exact hh.dep 2 42 (by kernel_rfl) (by kernel_rfl)
          obtain ⟨⟨c0, c1⟩, -, ci⟩ := (hh.st.2.1).c2
          have hJ := Lib.hid hh.st
          clear hh
          go_simp
          exact ⟨_, rfl, regs.bl_refl _, rfl, hJ.out⟩
        · refine regs.StepOK.plain rfl fun L a w1 hh => ?_
          have h3 : a.tmps[3]?.getD undef = .pointer (some ⟨(w.heap.size + 1), 0, none⟩) := by rw [← Array.getD_eq_getD_getElem?]; exact hh.old 3 rfl
          have hJ := Lib.hid hh.st
          clear hh
          go_simp
          exact ⟨_, rfl, regs.bl_refl _, rfl, hJ.out⟩
        · refine regs.StepOK.plain rfl fun L a w1 hh => ?_
          have h44 : a.tmps[44]?.getD undef = .pointer (some ⟨(w.heap.size + 1), 1, none⟩) := by rw [← Array.getD_eq_getD_getElem?]; exact hh.dep 4 44 (by kernel_rfl) (by kernel_rfl)
          obtain ⟨⟨c0, c1⟩, -, ci⟩ := (hh.st.2.1).c2
          have hJ := Lib.hid hh.st
          clear hh
          go_simp
          exact ⟨_, rfl, regs.bl_refl _, rfl, hJ.out⟩
        · refine regs.StepOK.plain rfl fun L a w1 hh => ?_
          have h41 : a.tmps[41]?.getD undef = .agg #[.int .i64 ka, .int .i64 kb, .int .i64 kc, .int .i64 kd, .int .i64 ke, .int .i64 kf] := by rw [← Array.getD_eq_getD_getElem?]; exact hh.dep 1 41 (by kernel_rfl) (by kernel_rfl)
          have h43 : a.tmps[43]?.getD undef = .int .i64 px := by rw [← Array.getD_eq_getD_getElem?]; exact hh.dep 3 43 (by kernel_rfl) (by kernel_rfl)
          have h45 : a.tmps[45]?.getD undef = .int .i64 py := by rw [← Array.getD_eq_getD_getElem?]; exact hh.dep 5 45 (by kernel_rfl) (by kernel_rfl)
          have := True.intro
          have hJ := Lib.hid hh.st
          clear hh
          go_simp
          refine (HDT.out w1).mono ?_
          rintro e w9 ⟨rfl, hb9⟩
          exact ⟨_, rfl, hb9, rfl, JBs.below hJ.out hb9⟩
        · refine regs.StepOK.plain rfl fun L a w1 hh => ?_
          have h46 : a.tmps[46]?.getD undef = .tuple #[.int .i64 rx, .int .i64 ry, .bool rb] := by rw [← Array.getD_eq_getD_getElem?]; exact hh.dep 6 46 (by kernel_rfl) (by kernel_rfl)
          have hJ := Lib.hid hh.st
          clear hh
          go_simp
          exact ⟨_, rfl, regs.bl_refl _, rfl, hJ.out⟩
        · refine regs.StepOK.plain rfl fun L a w1 hh => ?_
          have h39 : a.tmps[39]?.getD undef = .tuple #[.int .i64 rx, .int .i64 ry, .bool rb] := by rw [← Array.getD_eq_getD_getElem?]; exact hh.dep 7 39 (by kernel_rfl) (by kernel_rfl)
          have hJ := Lib.hid hh.st
          clear hh
          go_simp
          exact ⟨_, rfl, regs.bl_refl _, rfl, hJ.out⟩
        · refine regs.StepOK.plain rfl fun L a w1 hh => ?_
          have h39 : a.tmps[39]?.getD undef = .tuple #[.int .i64 rx, .int .i64 ry, .bool rb] := by rw [← Array.getD_eq_getD_getElem?]; exact hh.dep 7 39 (by kernel_rfl) (by kernel_rfl)
          have hJ := Lib.hid hh.st
          clear hh
          go_simp
          exact ⟨_, rfl, regs.bl_refl _, rfl, hJ.out⟩
        · refine regs.StepOK.plain rfl fun L a w1 hh => ?_
          have h39 : a.tmps[39]?.getD undef = .tuple #[.int .i64 rx, .int .i64 ry, .bool rb] := by rw [← Array.getD_eq_getD_getElem?]; exact hh.dep 7 39 (by kernel_rfl) (by kernel_rfl)
          have hJ := Lib.hid hh.st
          clear hh
          go_simp
          exact ⟨_, rfl, regs.bl_refl _, rfl, hJ.out⟩
        · refine regs.StepOK.plain rfl fun L a w1 hh => ?_
          have h47 : a.tmps[47]?.getD undef = .int .i64 rx := by rw [← Array.getD_eq_getD_getElem?]; exact hh.dep 8 47 (by kernel_rfl) (by kernel_rfl)
          have hJ := Lib.hid hh.st
          clear hh
          go_simp
          exact ⟨_, rfl, regs.bl_refl _, rfl, hJ.out⟩
        · refine regs.StepOK.plain rfl fun L a w1 hh => ?_
          have h48 : a.tmps[48]?.getD undef = .int .i64 ry := by rw [← Array.getD_eq_getD_getElem?]; exact hh.dep 9 48 (by kernel_rfl) (by kernel_rfl)
          have hJ := Lib.hid hh.st
          clear hh
          go_simp
          exact ⟨_, rfl, regs.bl_refl _, rfl, hJ.out⟩
        · refine regs.StepOK.plain rfl fun L a w1 hh => ?_
          have h49 : a.tmps[49]?.getD undef = .bool rb := by rw [← Array.getD_eq_getD_getElem?]; exact hh.dep 10 49 (by kernel_rfl) (by kernel_rfl)
          have hJ := Lib.hid hh.st
          clear hh
          go_simp
          exact ⟨_, rfl, regs.bl_refl _, rfl, hJ.out⟩
        intro L w6 val hL hJ hR hv
        have h8 : val 8 = .int .i64 rx := hv 11 8 (by kernel_rfl)
        have h9 : val 9 = .int .i64 ry := hv 12 9 (by kernel_rfl)
        have h10 : val 10 = .bool rb := hv 13 10 (by kernel_rfl)
        have HK6 := Lib.hid hJ
        have HR6 := Lib.hid hR
        clear hv hL hJ hR
        simp only [regs.putAll, List.map_cons, List.map_nil]
        rw [h8, h9, h10]
        generalize val 40 = v40
        generalize val 41 = v41
        generalize val 42 = v42
        generalize val 43 = v43
        generalize val 44 = v44
        generalize val 45 = v45
        generalize val 46 = v46
        generalize val 39 = v39
        generalize val 47 = v47
        generalize val 48 = v48
        generalize val 49 = v49
        simp only [Act.put, List.setIfInBounds_toArray, List.set_cons_zero, List.set_cons_succ]
        clear h8 h9 h10
        have B6 := Lib.hid (B5.out.trans (HR6.out.mono B5.out.size))
        obtain ⟨⟨p0, p1⟩, -, pi⟩ := HK6.out.2.2.1.c2
        have hps := HPS.out
        have trb : (rb == rb) = true := by simp
        clear B5 HR6 HK6 HJ HPS HREF HDT
        go_wp2_with (fail)
        refine (awake_any _).mono ?_
        rintro e w7 ⟨rfl, hb⟩
        have B7 := Lib.hid (B6.out.trans (hb.mono B6.out.size))
        clear hb B6
        go_wp2_with (fail)
        go_ret
        exact ⟨rfl, B7.out⟩
end Go.Proofs.Ytmbfkaodoankaaa
