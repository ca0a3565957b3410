/-
  PixelParts: the law's walk.
-/
import Derived.Test.YtolekbgbcahfgaaPxOpen
import Derived.ChangeKeysEq
namespace Go.Proofs.Ytolekbgbcahfgaa
open Go.RowKit pxm

theorem p4_eq (a b c d : Int) (w : World) : (binOp .eql 27 (.agg #[.int .i64 a, .int .i64 b, .int .i64 c, .int .i64 d]) (.agg #[.int .i64 a, .int .i64 b, .int .i64 c, .int .i64 d])).run Try.prog w = .ok (.bool true) w := by
  obtain ⟨i, hi⟩ : ∃ i, Try.prog.info? 3 = some i := ⟨_, rfl⟩
  have hc : Try.prog.cellsOf 3 = 1 := by kernel_rfl
  have h := run_equalIn_array (P := Try.prog) w 9999 #[.int .i64 a, .int .i64 b, .int .i64 c, .int .i64 d] #[.int .i64 a, .int .i64 b, .int .i64 c, .int .i64 d] Try.underlying27 hi
  rw [hc] at h
  rw [run_eql_struct, h]
  simp [Op.eqItems, List.range, List.range.loop, part, go_sem]
set_option maxRecDepth 100000 in
set_option maxHeartbeats 4000000 in
theorem parts_law (x : A4) (n0 : Int) (w : World) (h1 : 0 ≤ n0) (h2 : n0 ≤ 4294967295) :
    Calls Try.prog 3 #[x.v, .int .u32 n0] w fun e w' => e = .returned (.bool true) ∧ Below w.heap.size w w' := by
  have HAW := Lib.hid (fun w => awake_any w)
  obtain ⟨n, rfl⟩ : ∃ n : Nat, n0 = (n : Nat) := ⟨n0.toNat, by omega⟩
  have hn : n < 4294967296 := by omega
  have HFR := Lib.hid (fun w => dfrom_any n hn w)
  have HPA := Lib.hid (fun w => parts_any (frm n) (frm_bytes hn) w)
  have HRI := Lib.hid (fun w => right_any (frm n) (frm_bytes hn) w)
  have HDRN := Lib.hid (fun w => dright_any (frm n).r (frm n).g (frm n).b (frm n).a w)
  rw [drB_right _ (frm_bytes hn)] at HDRN
  rw [num_frm] at HPA HRI
  generalize (frm n).rightB = R at *
  generalize frm n = y at *
  obtain ⟨yr, yg, yb, ya⟩ := y
  simp only at HFR HPA HDRN
  obtain ⟨xa, xb, xc, xd⟩ := x
  unfold A4.v
  simp only
  have HEQ := Lib.hid (fun w => p4_eq (yr : Nat) (yg : Nat) (yb : Nat) (ya : Nat) w)
  clear h1 h2
  cases hD : drB xa xb xc xd with
  | true =>
    obtain ⟨p, hp, rfl, rfl, rfl, rfl⟩ := drB_yes hD
    have HOF := Lib.hid (fun w => of_yes p hp w)
    have HDO := Lib.hid (fun w => dof_any p hp.bytes w)
    have HDR := Lib.hid (fun w => dright_any p.r p.g p.b p.a w)
    rw [hD] at HDR
    have hpn := hp.bytes.lt
    clear hD hp
    generalize p.num = N at *
    obtain ⟨pr, pg, pb, pa⟩ := p
    simp only at HOF HDO HDR ⊢
    go_enter Try.func3, Try.ntmps3
    have HB0 : Hid (Below w.heap.size w (w.alloc (.cells #[.int .i64 (pr : Nat), .int .i64 (pg : Nat), .int .i64 (pb : Nat), .int .i64 (pa : Nat)] 22))) := (Below.refl _ _).alloc (Nat.le_refl _) _
    have HK0 : Hid (Blk (w.alloc (.cells #[.int .i64 (pr : Nat), .int .i64 (pg : Nat), .int .i64 (pb : Nat), .int .i64 (pa : Nat)] 22)) w.heap.size [.int .i64 (pr : Nat), .int .i64 (pg : Nat), .int .i64 (pb : Nat), .int .i64 (pa : Nat)]) := blk_new w [.int .i64 (pr : Nat), .int .i64 (pg : Nat), .int .i64 (pb : Nat), .int .i64 (pa : Nat)] _
    obtain ⟨⟨c0, c1, c2, c3⟩, -, ci⟩ := HK0.out.c4
    go_wp2_with (fail)
    go_quiet (fail)
    have HB1 : Hid (Below w.heap.size w ((w.alloc (.cells #[.int .i64 (pr : Nat), .int .i64 (pg : Nat), .int .i64 (pb : Nat), .int .i64 (pa : Nat)] 22)).drewN nq)) := Below.drewN' HB0.out _
    generalize (w.alloc (.cells #[.int .i64 (pr : Nat), .int .i64 (pg : Nat), .int .i64 (pb : Nat), .int .i64 (pa : Nat)] 22)).drewN nq = W1 at *
    clear c0 c1 c2 c3 ci HB0 HK0
    go_wp2_with (fail)
    refine (HOF.out _).mono ?_
    rintro e w2 ⟨rfl, hb⟩
    have HB2 := Lib.hid (bel_step HB1.out (Nat.le_refl _) hb)
    clear hb HB1
    go_wp2_with (fail)
    refine (HDR.out _).mono ?_
    rintro e w3 ⟨rfl, hb⟩
    have HK3 : Hid (Blk w3 w2.heap.size [.int .i64 (pr : Nat), .int .i64 (pg : Nat), .int .i64 (pb : Nat), .int .i64 (pa : Nat)]) := (blk_new w2 [.int .i64 (pr : Nat), .int .i64 (pg : Nat), .int .i64 (pb : Nat), .int .i64 (pa : Nat)] _).below' hb
    have HB3 := Lib.hid (bel_new HB2.out hb)
    clear hb HB2
    obtain ⟨⟨c0, c1, c2, c3⟩, -, ci⟩ := HK3.out.c4
    go_wp2_with (fail)
    refine (HDO.out _).mono ?_
    rintro e w4 ⟨rfl, hb⟩
    have HB4 := Lib.hid (bel_step HB3.out (Nat.le_refl _) hb)
    clear hb HB3 HK3 c0 c1 c2 c3 ci
    go_wp2_with (fail)
    refine (HFR.out _).mono ?_
    rintro e w5 ⟨rfl, hb⟩
    have HB5 := Lib.hid (bel_step HB4.out (Nat.le_refl _) hb)
    clear hb HB4
    go_wp2_with (fail)
    refine (HPA.out _).mono ?_
    rintro e w6 ⟨rfl, hd⟩
    have HK6 : Hid (JBs [(w5.heap.size, [.int .i64 (yr : Nat), .int .i64 (yg : Nat), .int .i64 (yb : Nat), .int .i64 (ya : Nat)])] w6.drew) := ⟨((blk_new w5 [.int .i64 (yr : Nat), .int .i64 (yg : Nat), .int .i64 (yb : Nat), .int .i64 (ya : Nat)] _).below' (hd.below _)).drew, trivial⟩
    have HB6 : Hid (Below w.heap.size w w6) := bel_new HB5.out (hd.below _)
    clear hd HB5
    go_wp2_with (fail)
    refine regs.wp_region_put (regs.bl) (fun _ wx => JBs [(w5.heap.size, [.int .i64 (yr : Nat), .int .i64 (yg : Nat), .int .i64 (yb : Nat), .int .i64 (ya : Nat)])] wx) [68, 69, 70, 71, 72, 73, 74, 75, 76, 77, 78, 79, 80, 81, 82, 83, 84, 4] (by kernel_rfl) (by kernel_rfl) (fun _ => regs.bl_refl _) (regs.bl_trans) (fun i => (match i with
      | 0 => regs.Say.val _ (.int .i64 (yr : Nat))
      | 1 => regs.Say.val _ (.int .i64 (yg : Nat))
      | 2 => regs.Say.val _ (.int .i64 (yb : Nat))
      | 3 => regs.Say.val _ (.int .i64 (ya : Nat))
      | 4 => regs.Say.val _ (.agg #[.int .i64 (yr : Nat), .int .i64 (yg : Nat), .int .i64 (yb : Nat), .int .i64 (ya : Nat)])
      | 5 => regs.Say.val _ (.agg #[.int .i64 (yr : Nat), .int .i64 (yg : Nat), .int .i64 (yb : Nat), .int .i64 (ya : Nat)])
      | 6 => regs.Say.val _ (.bool true)
      | 7 => regs.Say.val _ (.bool true)
      | 8 => regs.Say.val _ (.int .u32 (n : Nat))
      | 9 => regs.Say.val _ (.bool R)
      | 10 => regs.Say.val _ (.agg #[.int .i64 (yr : Nat), .int .i64 (yg : Nat), .int .i64 (yb : Nat), .int .i64 (ya : Nat)])
      | 11 => regs.Say.val _ (.bool R)
      | 12 => regs.Say.val _ (.bool true)
      | 13 => regs.Say.val _ (.bool true)
      | 14 => regs.Say.val _ (.bool true)
      | 15 => regs.Say.val _ (.bool true)
      | 16 => regs.Say.val _ (.bool true)
      | 17 => regs.Say.val _ (.bool true)
      | _ => regs.Say.any _ : regs.Say (regs.bl)).p) (fun _ => regs.Say.mono _) (by kernel_rfl) ((Below.refl _ _).drew) (HK6.out) ⟨?_, ?_, ?_, ?_, ?_, ?_, ?_, ?_, ?_, ?_, ?_, ?_, ?_, ?_, ?_, ?_, ?_, ?_, trivial⟩ ?_
    · refine regs.StepOK.plain rfl fun L a w1 hh => ?_
      have h13 : a.tmps[13]?.getD undef = .int .i64 (yr : Nat) := by rw [← Array.getD_eq_getD_getElem?]; exact hh.old 13 rfl
      have hJ := Lib.hid hh.st
      clear hh
      go_simp
      exact ⟨_, rfl, regs.bl_refl _, rfl, hJ.out⟩
    · refine regs.StepOK.plain rfl fun L a w1 hh => ?_
      have h14 : a.tmps[14]?.getD undef = .int .i64 (yg : Nat) := by rw [← Array.getD_eq_getD_getElem?]; exact hh.old 14 rfl
      have hJ := Lib.hid hh.st
      clear hh
      go_simp
      exact ⟨_, rfl, regs.bl_refl _, rfl, hJ.out⟩
    · refine regs.StepOK.plain rfl fun L a w1 hh => ?_
      have h15 : a.tmps[15]?.getD undef = .int .i64 (yb : Nat) := by rw [← Array.getD_eq_getD_getElem?]; exact hh.old 15 rfl
      have hJ := Lib.hid hh.st
      clear hh
      go_simp
      exact ⟨_, rfl, regs.bl_refl _, rfl, hJ.out⟩
    · refine regs.StepOK.plain rfl fun L a w1 hh => ?_
      have h16 : a.tmps[16]?.getD undef = .int .i64 (ya : Nat) := by rw [← Array.getD_eq_getD_getElem?]; exact hh.old 16 rfl
      have hJ := Lib.hid hh.st
      clear hh
      go_simp
      exact ⟨_, rfl, regs.bl_refl _, rfl, hJ.out⟩
    · refine regs.StepOK.plain rfl fun L a w1 hh => ?_
      have h68 : a.tmps[68]?.getD undef = .int .i64 (yr : Nat) := by rw [← Array.getD_eq_getD_getElem?]; exact hh.dep 0 68 (by kernel_rfl) (by kernel_rfl)
      have h69 : a.tmps[69]?.getD undef = .int .i64 (yg : Nat) := by rw [← Array.getD_eq_getD_getElem?]; exact hh.dep 1 69 (by kernel_rfl) (by kernel_rfl)
      have h70 : a.tmps[70]?.getD undef = .int .i64 (yb : Nat) := by rw [← Array.getD_eq_getD_getElem?]; exact hh.dep 2 70 (by kernel_rfl) (by kernel_rfl)
      have h71 : a.tmps[71]?.getD undef = .int .i64 (ya : Nat) := by rw [← Array.getD_eq_getD_getElem?]; exact hh.dep 3 71 (by kernel_rfl) (by kernel_rfl)
      have hJ := Lib.hid hh.st
      clear hh
      go_simp
      exact ⟨_, rfl, regs.bl_refl _, rfl, hJ.out⟩
    · refine regs.StepOK.plain rfl fun L a w1 hh => ?_
      have h12 : a.tmps[12]?.getD undef = .pointer (some ⟨w5.heap.size, 0, none⟩) := by rw [← Array.getD_eq_getD_getElem?]; exact hh.old 12 rfl
      obtain ⟨⟨c0, c1, c2, c3⟩, -, ci⟩ := (hh.st.1).c4
      have hJ := Lib.hid hh.st
      clear hh
      go_simp
      exact ⟨_, rfl, regs.bl_refl _, rfl, hJ.out⟩
    · refine regs.StepOK.plain rfl fun L a w1 hh => ?_
      have h72 : a.tmps[72]?.getD undef = .agg #[.int .i64 (yr : Nat), .int .i64 (yg : Nat), .int .i64 (yb : Nat), .int .i64 (ya : Nat)] := by rw [← Array.getD_eq_getD_getElem?]; exact hh.dep 4 72 (by kernel_rfl) (by kernel_rfl)
      have h73 : a.tmps[73]?.getD undef = .agg #[.int .i64 (yr : Nat), .int .i64 (yg : Nat), .int .i64 (yb : Nat), .int .i64 (ya : Nat)] := by rw [← Array.getD_eq_getD_getElem?]; exact hh.dep 5 73 (by kernel_rfl) (by kernel_rfl)
      have eqs := HEQ.out
      have hJ := Lib.hid hh.st
      clear hh
      go_simp
      exact ⟨_, rfl, regs.bl_refl _, rfl, hJ.out⟩
    · refine regs.StepOK.plain rfl fun L a w1 hh => ?_
      have h74 : a.tmps[74]?.getD undef = .bool true := by rw [← Array.getD_eq_getD_getElem?]; exact hh.dep 6 74 (by kernel_rfl) (by kernel_rfl)
      have hJ := Lib.hid hh.st
      clear hh
      go_simp
      exact ⟨_, rfl, regs.bl_refl _, rfl, hJ.out⟩
    · refine regs.StepOK.yes 7 true 75 rfl rfl (fun L a w1 hh => hh.dep 7 75 (by kernel_rfl) (by kernel_rfl)) fun L a w1 hh => ?_
      have h1 : a.tmps[1]?.getD undef = .int .u32 (n : Nat) := by rw [← Array.getD_eq_getD_getElem?]; exact hh.old 1 rfl
      have hJ := Lib.hid hh.st
      clear hh
      go_simp
      exact ⟨_, rfl, regs.bl_refl _, rfl, hJ.out⟩
    · refine regs.StepOK.yes 7 true 75 rfl rfl (fun L a w1 hh => hh.dep 7 75 (by kernel_rfl) (by kernel_rfl)) fun L a w1 hh => ?_
      have h76 : a.tmps[76]?.getD undef = .int .u32 (n : Nat) := by rw [← Array.getD_eq_getD_getElem?]; exact hh.dep 8 76 (by kernel_rfl) (by kernel_rfl)
      have := True.intro
      have hJ := Lib.hid hh.st
      clear hh
      go_simp
      refine (bel_of_drew (HRI.out w1)).mono ?_
      rintro e w9 ⟨rfl, hb9⟩
      exact ⟨_, rfl, hb9, rfl, JBs.below hJ.out hb9⟩
    · refine regs.StepOK.yes 7 true 75 rfl rfl (fun L a w1 hh => hh.dep 7 75 (by kernel_rfl) (by kernel_rfl)) fun L a w1 hh => ?_
      have h12 : a.tmps[12]?.getD undef = .pointer (some ⟨w5.heap.size, 0, none⟩) := by rw [← Array.getD_eq_getD_getElem?]; exact hh.old 12 rfl
      obtain ⟨⟨c0, c1, c2, c3⟩, -, ci⟩ := (hh.st.1).c4
      have hJ := Lib.hid hh.st
      clear hh
      go_simp
      exact ⟨_, rfl, regs.bl_refl _, rfl, hJ.out⟩
    · refine regs.StepOK.yes 7 true 75 rfl rfl (fun L a w1 hh => hh.dep 7 75 (by kernel_rfl) (by kernel_rfl)) fun L a w1 hh => ?_
      have h78 : a.tmps[78]?.getD undef = .agg #[.int .i64 (yr : Nat), .int .i64 (yg : Nat), .int .i64 (yb : Nat), .int .i64 (ya : Nat)] := by rw [← Array.getD_eq_getD_getElem?]; exact hh.dep 10 78 (by kernel_rfl) (by kernel_rfl)
      have := True.intro
      have hJ := Lib.hid hh.st
      clear hh
      go_simp
      refine (HDRN.out w1).mono ?_
      rintro e w9 ⟨rfl, hb9⟩
      exact ⟨_, rfl, hb9, rfl, JBs.below hJ.out hb9⟩
    · refine regs.StepOK.yes 7 true 75 rfl rfl (fun L a w1 hh => hh.dep 7 75 (by kernel_rfl) (by kernel_rfl)) fun L a w1 hh => ?_
      have h77 : a.tmps[77]?.getD undef = .bool R := by rw [← Array.getD_eq_getD_getElem?]; exact hh.dep 9 77 (by kernel_rfl) (by kernel_rfl)
      have h79 : a.tmps[79]?.getD undef = .bool R := by rw [← Array.getD_eq_getD_getElem?]; exact hh.dep 11 79 (by kernel_rfl) (by kernel_rfl)
      have hJ := Lib.hid hh.st
      clear hh
      go_simp
      exact ⟨_, rfl, regs.bl_refl _, rfl, hJ.out⟩
    · refine regs.StepOK.plain rfl fun L a w1 hh => ?_
      have h75 : a.tmps[75]?.getD undef = .bool true := by rw [← Array.getD_eq_getD_getElem?]; exact hh.dep 7 75 (by kernel_rfl) (by kernel_rfl)
      have h80 : a.tmps[80]?.getD undef = .bool true := by rw [← Array.getD_eq_getD_getElem?]; exact hh.dep 12 80 (by kernel_rfl) (by kernel_rfl)
      have hJ := Lib.hid hh.st
      clear hh
      go_simp
      exact ⟨_, rfl, regs.bl_refl _, rfl, hJ.out⟩
    · refine regs.StepOK.plain rfl fun L a w1 hh => ?_
      have h81 : a.tmps[81]?.getD undef = .bool true := by rw [← Array.getD_eq_getD_getElem?]; exact hh.dep 13 81 (by kernel_rfl) (by kernel_rfl)
      have hJ := Lib.hid hh.st
      clear hh
      go_simp
      exact ⟨_, rfl, regs.bl_refl _, rfl, hJ.out⟩
    · refine regs.StepOK.yes 14 true 82 rfl rfl (fun L a w1 hh => hh.dep 14 82 (by kernel_rfl) (by kernel_rfl)) fun L a w1 hh => ?_
      have := True.intro
      have hJ := Lib.hid hh.st
      clear hh
      go_simp
      refine (HAW.out w1).mono ?_
      rintro e w9 ⟨rfl, hb9⟩
      exact ⟨_, rfl, hb9, rfl, JBs.below hJ.out hb9⟩
    · refine regs.StepOK.plain rfl fun L a w1 hh => ?_
      have h82 : a.tmps[82]?.getD undef = .bool true := by rw [← Array.getD_eq_getD_getElem?]; exact hh.dep 14 82 (by kernel_rfl) (by kernel_rfl)
      have h83 : a.tmps[83]?.getD undef = .bool true := by rw [← Array.getD_eq_getD_getElem?]; exact hh.dep 15 83 (by kernel_rfl) (by kernel_rfl)
      have hJ := Lib.hid hh.st
      clear hh
      go_simp
      exact ⟨_, rfl, regs.bl_refl _, rfl, hJ.out⟩
    · refine regs.StepOK.plain rfl fun L a w1 hh => ?_
      have h84 : a.tmps[84]?.getD undef = .bool true := by rw [← Array.getD_eq_getD_getElem?]; exact hh.dep 16 84 (by kernel_rfl) (by kernel_rfl)
      have hJ := Lib.hid hh.st
      clear hh
      go_simp
      exact ⟨_, rfl, regs.bl_refl _, rfl, hJ.out⟩
    intro L w7 val hL hJ hR hv
    have h4 : val 4 = .bool true := hv 17 4 (by kernel_rfl)
    have HK7 := Lib.hid hJ
    have HR7 := Lib.hid hR
    clear hv hL hJ hR
    simp only [regs.putAll, List.map_cons, List.map_nil]
    rw [h4]
    generalize val 68 = v68
    generalize val 69 = v69
    generalize val 70 = v70
    generalize val 71 = v71
    generalize val 72 = v72
    generalize val 73 = v73
    generalize val 74 = v74
    generalize val 75 = v75
    generalize val 76 = v76
    generalize val 77 = v77
    generalize val 78 = v78
    generalize val 79 = v79
    generalize val 80 = v80
    generalize val 81 = v81
    generalize val 82 = v82
    generalize val 83 = v83
    generalize val 84 = v84
    simp only [Act.put, List.setIfInBounds_toArray, List.set_cons_zero, List.set_cons_succ]
    clear h4
    have HB7 : Hid (Below w.heap.size w w7) := HB6.out.trans ((HR7.out).mono HB6.out.size)
    clear HR7 HK7 HB6 HK6
    go_wp2_with (fail)
    go_ret
    exact ⟨rfl, HB7.out⟩
  | false =>
    have HOF := Lib.hid (fun w => of_no xa xb xc xd (drB_no hD) w)
    have HDR := Lib.hid (fun w => dright_any xa xb xc xd w)
    rw [hD] at HDR
    clear hD
    go_enter Try.func3, Try.ntmps3
    have HB0 : Hid (Below w.heap.size w (w.alloc (.cells #[.int .i64 xa, .int .i64 xb, .int .i64 xc, .int .i64 xd] 22))) := (Below.refl _ _).alloc (Nat.le_refl _) _
    have HK0 : Hid (Blk (w.alloc (.cells #[.int .i64 xa, .int .i64 xb, .int .i64 xc, .int .i64 xd] 22)) w.heap.size [.int .i64 xa, .int .i64 xb, .int .i64 xc, .int .i64 xd]) := blk_new w [.int .i64 xa, .int .i64 xb, .int .i64 xc, .int .i64 xd] _
    obtain ⟨⟨c0, c1, c2, c3⟩, -, ci⟩ := HK0.out.c4
    go_wp2_with (fail)
    go_quiet (fail)
    have HB1 : Hid (Below w.heap.size w ((w.alloc (.cells #[.int .i64 xa, .int .i64 xb, .int .i64 xc, .int .i64 xd] 22)).drewN nq)) := Below.drewN' HB0.out _
    generalize (w.alloc (.cells #[.int .i64 xa, .int .i64 xb, .int .i64 xc, .int .i64 xd] 22)).drewN nq = W1 at *
    clear c0 c1 c2 c3 ci HB0 HK0
    go_wp2_with (fail)
    refine (HOF.out _).mono ?_
    rintro e w2 ⟨rfl, hb⟩
    have HB2 := Lib.hid (bel_step HB1.out (Nat.le_refl _) hb)
    clear hb HB1
    go_wp2_with (fail)
    refine (HDR.out _).mono ?_
    rintro e w3 ⟨rfl, hb⟩
    have HK3 : Hid (Blk w3 w2.heap.size [.int .i64 xa, .int .i64 xb, .int .i64 xc, .int .i64 xd]) := (blk_new w2 [.int .i64 xa, .int .i64 xb, .int .i64 xc, .int .i64 xd] _).below' hb
    have HB3 := Lib.hid (bel_new HB2.out hb)
    clear hb HB2
    go_wp2_with (fail)
    refine (HFR.out _).mono ?_
    rintro e w5 ⟨rfl, hb⟩
    have HB5 := Lib.hid (bel_step HB3.out (Nat.le_refl _) hb)
    clear hb HB3
    go_wp2_with (fail)
    refine (HPA.out _).mono ?_
    rintro e w6 ⟨rfl, hd⟩
    have HK6 : Hid (JBs [(w5.heap.size, [.int .i64 (yr : Nat), .int .i64 (yg : Nat), .int .i64 (yb : Nat), .int .i64 (ya : Nat)])] w6.drew) := ⟨((blk_new w5 [.int .i64 (yr : Nat), .int .i64 (yg : Nat), .int .i64 (yb : Nat), .int .i64 (ya : Nat)] _).below' (hd.below _)).drew, trivial⟩
    have HB6 : Hid (Below w.heap.size w w6) := bel_new HB5.out (hd.below _)
    clear hd HB5
    go_wp2_with (fail)
    refine regs.wp_region_put (regs.bl) (fun _ wx => JBs [(w5.heap.size, [.int .i64 (yr : Nat), .int .i64 (yg : Nat), .int .i64 (yb : Nat), .int .i64 (ya : Nat)])] wx) [68, 69, 70, 71, 72, 73, 74, 75, 76, 77, 78, 79, 80, 81, 82, 83, 84, 4] (by kernel_rfl) (by kernel_rfl) (fun _ => regs.bl_refl _) (regs.bl_trans) (fun i => (match i with
      | 0 => regs.Say.val _ (.int .i64 (yr : Nat))
      | 1 => regs.Say.val _ (.int .i64 (yg : Nat))
      | 2 => regs.Say.val _ (.int .i64 (yb : Nat))
      | 3 => regs.Say.val _ (.int .i64 (ya : Nat))
      | 4 => regs.Say.val _ (.agg #[.int .i64 (yr : Nat), .int .i64 (yg : Nat), .int .i64 (yb : Nat), .int .i64 (ya : Nat)])
      | 5 => regs.Say.val _ (.agg #[.int .i64 (yr : Nat), .int .i64 (yg : Nat), .int .i64 (yb : Nat), .int .i64 (ya : Nat)])
      | 6 => regs.Say.val _ (.bool true)
      | 7 => regs.Say.val _ (.bool true)
      | 8 => regs.Say.val _ (.int .u32 (n : Nat))
      | 9 => regs.Say.val _ (.bool R)
      | 10 => regs.Say.val _ (.agg #[.int .i64 (yr : Nat), .int .i64 (yg : Nat), .int .i64 (yb : Nat), .int .i64 (ya : Nat)])
      | 11 => regs.Say.val _ (.bool R)
      | 12 => regs.Say.val _ (.bool true)
      | 13 => regs.Say.val _ (.bool true)
      | 14 => regs.Say.val _ (.bool true)
      | 15 => regs.Say.val _ (.bool true)
      | 16 => regs.Say.val _ (.bool true)
      | 17 => regs.Say.val _ (.bool true)
      | _ => regs.Say.any _ : regs.Say (regs.bl)).p) (fun _ => regs.Say.mono _) (by kernel_rfl) ((Below.refl _ _).drew) (HK6.out) ⟨?_, ?_, ?_, ?_, ?_, ?_, ?_, ?_, ?_, ?_, ?_, ?_, ?_, ?_, ?_, ?_, ?_, ?_, trivial⟩ ?_
    · refine regs.StepOK.plain rfl fun L a w1 hh => ?_
      have h13 : a.tmps[13]?.getD undef = .int .i64 (yr : Nat) := by rw [← Array.getD_eq_getD_getElem?]; exact hh.old 13 rfl
      have hJ := Lib.hid hh.st
      clear hh
      go_simp
      exact ⟨_, rfl, regs.bl_refl _, rfl, hJ.out⟩
    · refine regs.StepOK.plain rfl fun L a w1 hh => ?_
      have h14 : a.tmps[14]?.getD undef = .int .i64 (yg : Nat) := by rw [← Array.getD_eq_getD_getElem?]; exact hh.old 14 rfl
      have hJ := Lib.hid hh.st
      clear hh
      go_simp
      exact ⟨_, rfl, regs.bl_refl _, rfl, hJ.out⟩
    · refine regs.StepOK.plain rfl fun L a w1 hh => ?_
      have h15 : a.tmps[15]?.getD undef = .int .i64 (yb : Nat) := by rw [← Array.getD_eq_getD_getElem?]; exact hh.old 15 rfl
      have hJ := Lib.hid hh.st
      clear hh
      go_simp
      exact ⟨_, rfl, regs.bl_refl _, rfl, hJ.out⟩
    · refine regs.StepOK.plain rfl fun L a w1 hh => ?_
      have h16 : a.tmps[16]?.getD undef = .int .i64 (ya : Nat) := by rw [← Array.getD_eq_getD_getElem?]; exact hh.old 16 rfl
      have hJ := Lib.hid hh.st
      clear hh
      go_simp
      exact ⟨_, rfl, regs.bl_refl _, rfl, hJ.out⟩
    · refine regs.StepOK.plain rfl fun L a w1 hh => ?_
      have h68 : a.tmps[68]?.getD undef = .int .i64 (yr : Nat) := by rw [← Array.getD_eq_getD_getElem?]; exact hh.dep 0 68 (by kernel_rfl) (by kernel_rfl)
      have h69 : a.tmps[69]?.getD undef = .int .i64 (yg : Nat) := by rw [← Array.getD_eq_getD_getElem?]; exact hh.dep 1 69 (by kernel_rfl) (by kernel_rfl)
      have h70 : a.tmps[70]?.getD undef = .int .i64 (yb : Nat) := by rw [← Array.getD_eq_getD_getElem?]; exact hh.dep 2 70 (by kernel_rfl) (by kernel_rfl)
      have h71 : a.tmps[71]?.getD undef = .int .i64 (ya : Nat) := by rw [← Array.getD_eq_getD_getElem?]; exact hh.dep 3 71 (by kernel_rfl) (by kernel_rfl)
      have hJ := Lib.hid hh.st
      clear hh
      go_simp
      exact ⟨_, rfl, regs.bl_refl _, rfl, hJ.out⟩
    · refine regs.StepOK.plain rfl fun L a w1 hh => ?_
      have h12 : a.tmps[12]?.getD undef = .pointer (some ⟨w5.heap.size, 0, none⟩) := by rw [← Array.getD_eq_getD_getElem?]; exact hh.old 12 rfl
      obtain ⟨⟨c0, c1, c2, c3⟩, -, ci⟩ := (hh.st.1).c4
      have hJ := Lib.hid hh.st
      clear hh
      go_simp
      exact ⟨_, rfl, regs.bl_refl _, rfl, hJ.out⟩
    · refine regs.StepOK.plain rfl fun L a w1 hh => ?_
      have h72 : a.tmps[72]?.getD undef = .agg #[.int .i64 (yr : Nat), .int .i64 (yg : Nat), .int .i64 (yb : Nat), .int .i64 (ya : Nat)] := by rw [← Array.getD_eq_getD_getElem?]; exact hh.dep 4 72 (by kernel_rfl) (by kernel_rfl)
      have h73 : a.tmps[73]?.getD undef = .agg #[.int .i64 (yr : Nat), .int .i64 (yg : Nat), .int .i64 (yb : Nat), .int .i64 (ya : Nat)] := by rw [← Array.getD_eq_getD_getElem?]; exact hh.dep 5 73 (by kernel_rfl) (by kernel_rfl)
      have eqs := HEQ.out
      have hJ := Lib.hid hh.st
      clear hh
      go_simp
      exact ⟨_, rfl, regs.bl_refl _, rfl, hJ.out⟩
    · refine regs.StepOK.plain rfl fun L a w1 hh => ?_
      have h74 : a.tmps[74]?.getD undef = .bool true := by rw [← Array.getD_eq_getD_getElem?]; exact hh.dep 6 74 (by kernel_rfl) (by kernel_rfl)
      have hJ := Lib.hid hh.st
      clear hh
      go_simp
      exact ⟨_, rfl, regs.bl_refl _, rfl, hJ.out⟩
    · refine regs.StepOK.yes 7 true 75 rfl rfl (fun L a w1 hh => hh.dep 7 75 (by kernel_rfl) (by kernel_rfl)) fun L a w1 hh => ?_
      have h1 : a.tmps[1]?.getD undef = .int .u32 (n : Nat) := by rw [← Array.getD_eq_getD_getElem?]; exact hh.old 1 rfl
      have hJ := Lib.hid hh.st
      clear hh
      go_simp
      exact ⟨_, rfl, regs.bl_refl _, rfl, hJ.out⟩
    · refine regs.StepOK.yes 7 true 75 rfl rfl (fun L a w1 hh => hh.dep 7 75 (by kernel_rfl) (by kernel_rfl)) fun L a w1 hh => ?_
      have h76 : a.tmps[76]?.getD undef = .int .u32 (n : Nat) := by rw [← Array.getD_eq_getD_getElem?]; exact hh.dep 8 76 (by kernel_rfl) (by kernel_rfl)
      have := True.intro
      have hJ := Lib.hid hh.st
      clear hh
      go_simp
      refine (bel_of_drew (HRI.out w1)).mono ?_
      rintro e w9 ⟨rfl, hb9⟩
      exact ⟨_, rfl, hb9, rfl, JBs.below hJ.out hb9⟩
    · refine regs.StepOK.yes 7 true 75 rfl rfl (fun L a w1 hh => hh.dep 7 75 (by kernel_rfl) (by kernel_rfl)) fun L a w1 hh => ?_
      have h12 : a.tmps[12]?.getD undef = .pointer (some ⟨w5.heap.size, 0, none⟩) := by rw [← Array.getD_eq_getD_getElem?]; exact hh.old 12 rfl
      obtain ⟨⟨c0, c1, c2, c3⟩, -, ci⟩ := (hh.st.1).c4
      have hJ := Lib.hid hh.st
      clear hh
      go_simp
      exact ⟨_, rfl, regs.bl_refl _, rfl, hJ.out⟩
    · refine regs.StepOK.yes 7 true 75 rfl rfl (fun L a w1 hh => hh.dep 7 75 (by kernel_rfl) (by kernel_rfl)) fun L a w1 hh => ?_
      have h78 : a.tmps[78]?.getD undef = .agg #[.int .i64 (yr : Nat), .int .i64 (yg : Nat), .int .i64 (yb : Nat), .int .i64 (ya : Nat)] := by rw [← Array.getD_eq_getD_getElem?]; exact hh.dep 10 78 (by kernel_rfl) (by kernel_rfl)
      have := True.intro
      have hJ := Lib.hid hh.st
      clear hh
      go_simp
      refine (HDRN.out w1).mono ?_
      rintro e w9 ⟨rfl, hb9⟩
      exact ⟨_, rfl, hb9, rfl, JBs.below hJ.out hb9⟩
    · refine regs.StepOK.yes 7 true 75 rfl rfl (fun L a w1 hh => hh.dep 7 75 (by kernel_rfl) (by kernel_rfl)) fun L a w1 hh => ?_
      have h77 : a.tmps[77]?.getD undef = .bool R := by rw [← Array.getD_eq_getD_getElem?]; exact hh.dep 9 77 (by kernel_rfl) (by kernel_rfl)
      have h79 : a.tmps[79]?.getD undef = .bool R := by rw [← Array.getD_eq_getD_getElem?]; exact hh.dep 11 79 (by kernel_rfl) (by kernel_rfl)
      have hJ := Lib.hid hh.st
      clear hh
      go_simp
      exact ⟨_, rfl, regs.bl_refl _, rfl, hJ.out⟩
    · refine regs.StepOK.plain rfl fun L a w1 hh => ?_
      have h75 : a.tmps[75]?.getD undef = .bool true := by rw [← Array.getD_eq_getD_getElem?]; exact hh.dep 7 75 (by kernel_rfl) (by kernel_rfl)
      have h80 : a.tmps[80]?.getD undef = .bool true := by rw [← Array.getD_eq_getD_getElem?]; exact hh.dep 12 80 (by kernel_rfl) (by kernel_rfl)
      have hJ := Lib.hid hh.st
      clear hh
      go_simp
      exact ⟨_, rfl, regs.bl_refl _, rfl, hJ.out⟩
    · refine regs.StepOK.plain rfl fun L a w1 hh => ?_
      have h81 : a.tmps[81]?.getD undef = .bool true := by rw [← Array.getD_eq_getD_getElem?]; exact hh.dep 13 81 (by kernel_rfl) (by kernel_rfl)
      have hJ := Lib.hid hh.st
      clear hh
      go_simp
      exact ⟨_, rfl, regs.bl_refl _, rfl, hJ.out⟩
    · refine regs.StepOK.yes 14 true 82 rfl rfl (fun L a w1 hh => hh.dep 14 82 (by kernel_rfl) (by kernel_rfl)) fun L a w1 hh => ?_
      have := True.intro
      have hJ := Lib.hid hh.st
      clear hh
      go_simp
      refine (HAW.out w1).mono ?_
      rintro e w9 ⟨rfl, hb9⟩
      exact ⟨_, rfl, hb9, rfl, JBs.below hJ.out hb9⟩
    · refine regs.StepOK.plain rfl fun L a w1 hh => ?_
      have h82 : a.tmps[82]?.getD undef = .bool true := by rw [← Array.getD_eq_getD_getElem?]; exact hh.dep 14 82 (by kernel_rfl) (by kernel_rfl)
      have h83 : a.tmps[83]?.getD undef = .bool true := by rw [← Array.getD_eq_getD_getElem?]; exact hh.dep 15 83 (by kernel_rfl) (by kernel_rfl)
      have hJ := Lib.hid hh.st
      clear hh
      go_simp
      exact ⟨_, rfl, regs.bl_refl _, rfl, hJ.out⟩
    · refine regs.StepOK.plain rfl fun L a w1 hh => ?_
      have h84 : a.tmps[84]?.getD undef = .bool true := by rw [← Array.getD_eq_getD_getElem?]; exact hh.dep 16 84 (by kernel_rfl) (by kernel_rfl)
      have hJ := Lib.hid hh.st
      clear hh
      go_simp
      exact ⟨_, rfl, regs.bl_refl _, rfl, hJ.out⟩
    intro L w7 val hL hJ hR hv
    have h4 : val 4 = .bool true := hv 17 4 (by kernel_rfl)
    have HK7 := Lib.hid hJ
    have HR7 := Lib.hid hR
    clear hv hL hJ hR
    simp only [regs.putAll, List.map_cons, List.map_nil]
    rw [h4]
    generalize val 68 = v68
    generalize val 69 = v69
    generalize val 70 = v70
    generalize val 71 = v71
    generalize val 72 = v72
    generalize val 73 = v73
    generalize val 74 = v74
    generalize val 75 = v75
    generalize val 76 = v76
    generalize val 77 = v77
    generalize val 78 = v78
    generalize val 79 = v79
    generalize val 80 = v80
    generalize val 81 = v81
    generalize val 82 = v82
    generalize val 83 = v83
    generalize val 84 = v84
    simp only [Act.put, List.setIfInBounds_toArray, List.set_cons_zero, List.set_cons_succ]
    clear h4
    have HB7 : Hid (Below w.heap.size w w7) := HB6.out.trans ((HR7.out).mono HB6.out.size)
    clear HR7 HK7 HB6 HK6
    go_wp2_with (fail)
    go_ret
    exact ⟨rfl, HB7.out⟩
end Go.Proofs.Ytolekbgbcahfgaa
