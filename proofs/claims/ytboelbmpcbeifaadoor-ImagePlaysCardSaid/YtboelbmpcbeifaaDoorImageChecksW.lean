/-
  ImageChecks: the walk.
-/
import Derived.Test.YtboelbmpcbeifaaDoorImP
import Derived.Deep.Grids
import Derived.Deep.DeepCutAuto
import Derived.Deep.CutBlock
namespace Go.Proofs.YtboelbmpcbeifaaDoor
open Go.RowKit pxm imm

theorem zone (x : Int) : (x < 1 ∧ decide (70 < x) = false ∧ decide (x < 1) = true) ∨ ((1 ≤ x ∧ x ≤ 70) ∧ decide (70 < x) = false ∧ decide (x < 1) = false ∧ decide (4096 < x) = false) ∨
    ((70 < x ∧ x ≤ 4096) ∧ decide (70 < x) = true ∧ decide (x ≤ 4096) = true) ∨ (4096 < x ∧ decide (70 < x) = true ∧ decide (x ≤ 4096) = false ∧ decide (x < 1) = false ∧ decide (4096 < x) = true) := by
  by_cases h1 : x < 1
  · exact .inl ⟨h1, decide_eq_false (by omega), decide_eq_true h1⟩
  · by_cases h2 : x ≤ 70
    · exact .inr (.inl ⟨⟨by omega, h2⟩, decide_eq_false (by omega), decide_eq_false (by omega), decide_eq_false (by omega)⟩)
    · by_cases h3 : x ≤ 4096
      · exact .inr (.inr (.inl ⟨⟨by omega, h3⟩, decide_eq_true (by omega), decide_eq_true h3⟩))
      · exact .inr (.inr (.inr ⟨by omega, decide_eq_true (by omega), decide_eq_false h3, decide_eq_false (by omega), decide_eq_true (by omega)⟩))
theorem awk {w : World} (ht : crcs.TabAt w) : ∀ w2, Below w.heap.size w w2 → Calls Tryd.prog 7 #[] w2 fun e w' => e = .returned (.bool true) ∧ Below w.heap.size w w' := fun w2 hb =>
  (awake_any w2 (ht.below hb)).mono fun _ _ ⟨he, h⟩ => ⟨he, hb.trans (h.mono hb.size)⟩
set_option maxHeartbeats 8000000 in
set_option maxRecDepth 100000 in
theorem checks_all (W H : Int) (A : Option Addr) (l : List Nat) (c : Nat) (u v : Int) (w : World) (hr : Row eW w A l) (hcm : l.length ≤ c ∧ c ≤ maxLen) (hz : ∀ z ∈ l, z < 4294967296) (_ : -9223372036854775808 ≤ u) (_ : u ≤ 9223372036854775807) (_ : -9223372036854775808 ≤ v) (_ : v ≤ 9223372036854775807) (ht : crcs.TabAt w) :
    Calls Tryd.prog 3 #[imV W H A l.length c, .int .i64 u, .int .i64 v] w fun e w' => e = .returned (.bool true) ∧ Below w.heap.size w w' := by
  have HAW := Lib.hid (awk ht)
  have hlm : l.length ≤ maxLen := by omega
  have HLC := Lib.hid (fun w hr => lcheck_any W H A l c hz hlm w hr)
  have HCK := Lib.hid (fun w hr => check_any W H A l c hz hlm w hr)
  have HSM := Lib.hid (fun w hr => small_any W H A l c hz hlm w hr)
  have HFR := Lib.hid (fun w => frame_any W H A l.length c w)
  have HSB : Hid (smallB W H l = (decide (W ≤ 256 ∧ H ≤ 256) && decide (chk W H l = 0))) := rfl
  have HR := Lib.hid hr
  have hlm2 : l.length ≤ 9223372036854775807 := by unfold maxLen at hlm; omega
  generalize chk W H l = K at *
  generalize smallB W H l = S at *
  clear hr hcm hz ht hlm
  unfold imV Bx.v at *
  simp only at HFR
  have HBX : Hid (Below w.heap.size w (w.alloc (.cells #[.int .i64 W, .int .i64 H, .slice A l.length c] 24))) := (Below.refl _ _).alloc (Nat.le_refl _) _
  by_cases t1 : 5000 < l.length
  · have t : decide ((5000 : Int) < (l.length : Int)) = true := by simp; omega
    clear HLC HCK HSM HFR t1
    go_enter Tryd.func3, Tryd.ntmps3
    go_wp2_with (fail)
    refine (HAW.out _ HBX.out).mono ?_
    rintro e w2 ⟨rfl, hb⟩
    have HB2 := Lib.hid hb
    clear hb
    go_wp2_with (fail)
    go_ret
    exact ⟨rfl, HB2.out⟩
  · have t : decide ((5000 : Int) < (l.length : Int)) = false := by simp; omega
    clear t1
    go_enter Tryd.func3, Tryd.ntmps3
    go_wp2_with (fail)
    refine (HLC.out _ (HR.out.below HBX.out)).mono ?_
    rintro e w2 ⟨rfl, hb⟩
    have KM2 : Hid (Blk w2 w.heap.size [.int .i64 W, .int .i64 H, .slice A l.length c]) := (blk_new w [.int .i64 W, .int .i64 H, .slice A l.length c] _).below' hb
    have HB2 : Hid (Below w.heap.size w w2) := HBX.out.trans (hb.mono HBX.out.size)
    clear hb HBX HLC
    obtain ⟨⟨c0, c1, c2⟩, -, ci⟩ := KM2.out.c3
    go_upto_region 4 with (fail)
    clear c0 c1 c2 ci
    go_cut [39] from 19 (fun x wx => x = .bool false ∧ Hid (Below w.heap.size w wx) ∧ Hid (Blk wx w.heap.size [.int .i64 W, .int .i64 H, .slice A l.length c]))
    case first =>
      obtain ⟨⟨c0, c1, c2⟩, -, ci⟩ := KM2.out.c3
      have q1 : (K != K) = false := by simp
      go_wp2_with (fail)
      refine (HCK.out _ (HR.out.below HB2.out)).mono ?_
      rintro e w3 ⟨rfl, hb⟩
      have HB3 : Hid (Below w.heap.size w w3) := HB2.out.trans (hb.mono HB2.out.size)
      have KM3 := Lib.hid (KM2.out.below' hb)
      clear hb HCK HB2 KM2 c0 c1 c2 ci
      obtain ⟨⟨c0, c1, c2⟩, -, ci⟩ := KM3.out.c3
      go_wp2_with (fail)
      refine (HSM.out _ (HR.out.below HB3.out)).mono ?_
      rintro e w4 ⟨rfl, hb⟩
      have HB4 : Hid (Below w.heap.size w w4) := HB3.out.trans (hb.mono HB3.out.size)
      have KM4 := Lib.hid (KM3.out.below' hb)
      clear hb HSM HB3 KM3 c0 c1 c2 ci q1
      obtain ⟨⟨c0, c1, c2⟩, -, ci⟩ := KM4.out.c3
      by_cases k0 : K = 0
      · have q : (K == 0) = true := by simpa using k0
        by_cases a1 : W ≤ 256
        · have q2 : decide (W ≤ 256) = true := by simpa using a1
          by_cases a2 : H ≤ 256
          · have q3 : decide (H ≤ 256) = true := by simpa using a2
            have hs : S = true := by rw [HSB.out, decide_eq_true ⟨a1, a2⟩, decide_eq_true k0]; rfl
            subst hs
            clear k0 a1 a2
            go_wp2_with (fail)
            go_meet
            case rel => exact ⟨rfl, HB4, KM4⟩
          · have q3 : decide (H ≤ 256) = false := by simpa using a2
            have hs : S = false := by rw [HSB.out, decide_eq_false (fun h => a2 h.2)]; rfl
            subst hs
            clear k0 a1 a2
            go_wp2_with (fail)
            go_meet
            case rel => exact ⟨rfl, HB4, KM4⟩
        · have q2 : decide (W ≤ 256) = false := by simpa using a1
          have hs : S = false := by rw [HSB.out, decide_eq_false (fun h => a1 h.1)]; rfl
          subst hs
          clear k0 a1
          go_wp2_with (fail)
          go_meet
          case rel => exact ⟨rfl, HB4, KM4⟩
      · have q : (K == 0) = false := by simpa using k0
        have hs : S = false := by rw [HSB.out, decide_eq_false k0, Bool.and_false]
        subst hs
        clear k0
        go_wp2_with (fail)
        go_meet
        case rel => exact ⟨rfl, HB4, KM4⟩
    case rest =>
      obtain ⟨rfl, HB5, KM5⟩ := hcut
      clear HCK HSM HB2 KM2 HSB
      have HJ5 : Hid (JBs [(w.heap.size, [.int .i64 W, .int .i64 H, .slice A l.length c])] wc) := ⟨KM5.out, trivial⟩
      go_wp2_with (fail)
      go_cut [51] from 40 (fun x wx => x = .bool false ∧ Hid (Below w.heap.size w wx))
      case first =>
        by_cases k0 : K = 0
        · have q : (K == 0) = true := by simpa using k0
          have HK0 := Lib.hid q
          clear k0 q
          refine regs.wp_region_put (regs.bl) (fun _ wx => JBs [(w.heap.size, [.int .i64 W, .int .i64 H, .slice A l.length c])] wx) [40, 41, 42, 43, 44, 45, 46, 47, 48, 49, 50, 51] (by kernel_rfl) (by kernel_rfl) (fun _ => regs.bl_refl _) (regs.bl_trans) (fun i => (match i with
            | 0 => regs.Say.val _ (.int .i64 K)
            | 1 => regs.Say.val _ (.bool true)
            | 2 => regs.Say.val _ (.bool true)
            | 3 => regs.Say.val _ (.agg #[.int .i64 W, .int .i64 H, .slice A l.length c])
            | 4 => regs.Say.val _ (.agg #[.int .i64 0, .int .i64 0, .int .i64 W, .int .i64 H])
            | 5 => regs.Say.val _ (.pointer (some ⟨w.heap.size, 0, none⟩))
            | 6 => regs.Say.val _ (.int .i64 W)
            | 7 => regs.Say.val _ (.pointer (some ⟨w.heap.size, 1, none⟩))
            | 8 => regs.Say.val _ (.int .i64 H)
            | 9 => regs.Say.val _ (.agg #[.int .i64 0, .int .i64 0, .int .i64 W, .int .i64 H])
            | 10 => regs.Say.val _ (.bool false)
            | 11 => regs.Say.val _ (.bool false)
            | _ => regs.Say.any _ : regs.Say (regs.bl)).p) (fun _ => regs.Say.mono _) (by kernel_rfl) ((Below.refl _ _).drew) (HJ5.out) ⟨?_, ?_, ?_, ?_, ?_, ?_, ?_, ?_, ?_, ?_, ?_, ?_, trivial⟩ ?_
          · refine regs.StepOK.plain rfl fun L a w1 hh => ?_
            have h7 : a.tmps[7]?.getD undef = .int .i64 K := by rw [← Array.getD_eq_getD_getElem?]; exact hh.old 7 rfl
            have hJ := Lib.hid hh.st
            clear hh
            go_simp
            exact ⟨_, rfl, regs.bl_refl _, rfl, hJ.out⟩
          · refine regs.StepOK.plain rfl fun L a w1 hh => ?_
            have h40 : a.tmps[40]?.getD undef = .int .i64 K := by rw [← Array.getD_eq_getD_getElem?]; exact hh.dep 0 40 (by kernel_rfl) (by kernel_rfl)
            have q := HK0.out
            have hJ := Lib.hid hh.st
            clear hh
            go_simp
            exact ⟨_, rfl, regs.bl_refl _, rfl, hJ.out⟩
          · refine regs.StepOK.plain rfl fun L a w1 hh => ?_
            have h41 : a.tmps[41]?.getD undef = .bool true := by rw [← Array.getD_eq_getD_getElem?]; exact hh.dep 1 41 (by kernel_rfl) (by kernel_rfl)
            have hJ := Lib.hid hh.st
            clear hh
            go_simp
            exact ⟨_, rfl, regs.bl_refl _, rfl, hJ.out⟩
          · refine regs.StepOK.yes 2 true 42 rfl rfl (fun L a w1 hh => hh.dep 2 42 (by kernel_rfl) (by kernel_rfl)) fun L a w1 hh => ?_
            have h3 : a.tmps[3]?.getD undef = .pointer (some ⟨w.heap.size, 0, none⟩) := by rw [← Array.getD_eq_getD_getElem?]; exact hh.old 3 rfl
            obtain ⟨⟨c0, c1, c2⟩, -, ci⟩ := (hh.st.1).c3
            have hJ := Lib.hid hh.st
            clear hh
            go_simp
            exact ⟨_, rfl, regs.bl_refl _, rfl, hJ.out⟩
          · refine regs.StepOK.yes 2 true 42 rfl rfl (fun L a w1 hh => hh.dep 2 42 (by kernel_rfl) (by kernel_rfl)) fun L a w1 hh => ?_
            have h43 : a.tmps[43]?.getD undef = .agg #[.int .i64 W, .int .i64 H, .slice A l.length c] := by rw [← Array.getD_eq_getD_getElem?]; exact hh.dep 3 43 (by kernel_rfl) (by kernel_rfl)
            have := True.intro
            have hJ := Lib.hid hh.st
            clear hh
            go_simp
            refine (HFR.out w1).mono ?_
            rintro e w9 ⟨rfl, hb9⟩
            exact ⟨_, rfl, hb9, rfl, JBs.below hJ.out hb9⟩
          · refine regs.StepOK.yes 2 true 42 rfl rfl (fun L a w1 hh => hh.dep 2 42 (by kernel_rfl) (by kernel_rfl)) fun L a w1 hh => ?_
            have h3 : a.tmps[3]?.getD undef = .pointer (some ⟨w.heap.size, 0, none⟩) := by rw [← Array.getD_eq_getD_getElem?]; exact hh.old 3 rfl
            have hJ := Lib.hid hh.st
            clear hh
            go_simp
            exact ⟨_, rfl, regs.bl_refl _, rfl, hJ.out⟩
          · refine regs.StepOK.yes 2 true 42 rfl rfl (fun L a w1 hh => hh.dep 2 42 (by kernel_rfl) (by kernel_rfl)) fun L a w1 hh => ?_
            have h45 : a.tmps[45]?.getD undef = .pointer (some ⟨w.heap.size, 0, none⟩) := by rw [← Array.getD_eq_getD_getElem?]; exact hh.dep 5 45 (by kernel_rfl) (by kernel_rfl)
            obtain ⟨⟨c0, c1, c2⟩, -, ci⟩ := (hh.st.1).c3
            have hJ := Lib.hid hh.st
            clear hh
            go_simp
            exact ⟨_, rfl, regs.bl_refl _, rfl, hJ.out⟩
          · refine regs.StepOK.yes 2 true 42 rfl rfl (fun L a w1 hh => hh.dep 2 42 (by kernel_rfl) (by kernel_rfl)) fun L a w1 hh => ?_
            have h3 : a.tmps[3]?.getD undef = .pointer (some ⟨w.heap.size, 0, none⟩) := by rw [← Array.getD_eq_getD_getElem?]; exact hh.old 3 rfl
            have hJ := Lib.hid hh.st
            clear hh
            go_simp
            exact ⟨_, rfl, regs.bl_refl _, rfl, hJ.out⟩
          · refine regs.StepOK.yes 2 true 42 rfl rfl (fun L a w1 hh => hh.dep 2 42 (by kernel_rfl) (by kernel_rfl)) fun L a w1 hh => ?_
            have h47 : a.tmps[47]?.getD undef = .pointer (some ⟨w.heap.size, 1, none⟩) := by rw [← Array.getD_eq_getD_getElem?]; exact hh.dep 7 47 (by kernel_rfl) (by kernel_rfl)
            obtain ⟨⟨c0, c1, c2⟩, -, ci⟩ := (hh.st.1).c3
            have hJ := Lib.hid hh.st
            clear hh
            go_simp
            exact ⟨_, rfl, regs.bl_refl _, rfl, hJ.out⟩
          · refine regs.StepOK.yes 2 true 42 rfl rfl (fun L a w1 hh => hh.dep 2 42 (by kernel_rfl) (by kernel_rfl)) fun L a w1 hh => ?_
            have h46 : a.tmps[46]?.getD undef = .int .i64 W := by rw [← Array.getD_eq_getD_getElem?]; exact hh.dep 6 46 (by kernel_rfl) (by kernel_rfl)
            have h48 : a.tmps[48]?.getD undef = .int .i64 H := by rw [← Array.getD_eq_getD_getElem?]; exact hh.dep 8 48 (by kernel_rfl) (by kernel_rfl)
            have hJ := Lib.hid hh.st
            clear hh
            go_simp
            exact ⟨_, rfl, regs.bl_refl _, rfl, hJ.out⟩
          · refine regs.StepOK.yes 2 true 42 rfl rfl (fun L a w1 hh => hh.dep 2 42 (by kernel_rfl) (by kernel_rfl)) fun L a w1 hh => ?_
            have h44 : a.tmps[44]?.getD undef = .agg #[.int .i64 0, .int .i64 0, .int .i64 W, .int .i64 H] := by rw [← Array.getD_eq_getD_getElem?]; exact hh.dep 4 44 (by kernel_rfl) (by kernel_rfl)
            have h49 : a.tmps[49]?.getD undef = .agg #[.int .i64 0, .int .i64 0, .int .i64 W, .int .i64 H] := by rw [← Array.getD_eq_getD_getElem?]; exact hh.dep 9 49 (by kernel_rfl) (by kernel_rfl)
            have eqst := fun w => bx_neq ⟨0, 0, W, H⟩ ⟨0, 0, W, H⟩ w
            rw [decide_eq_true rfl] at eqst
            unfold Bx.v at eqst
            simp only at eqst
            have hJ := Lib.hid hh.st
            clear hh
            go_simp
            exact ⟨_, rfl, regs.bl_refl _, rfl, hJ.out⟩
          · refine regs.StepOK.plain rfl fun L a w1 hh => ?_
            have h42 : a.tmps[42]?.getD undef = .bool true := by rw [← Array.getD_eq_getD_getElem?]; exact hh.dep 2 42 (by kernel_rfl) (by kernel_rfl)
            have h50 : a.tmps[50]?.getD undef = .bool false := by rw [← Array.getD_eq_getD_getElem?]; exact hh.dep 10 50 (by kernel_rfl) (by kernel_rfl)
            have hJ := Lib.hid hh.st
            clear hh
            go_simp
            exact ⟨_, rfl, regs.bl_refl _, rfl, hJ.out⟩
          intro L w5 val hL hJ hR hv
          have h51 : val 51 = .bool false := hv 11 51 (by kernel_rfl)
          have HK5 := Lib.hid hJ
          have HR5 := Lib.hid hR
          clear hv hL hJ hR
          simp only [regs.putAll, List.map_cons, List.map_nil]
          rw [h51]
          generalize val 40 = v40
          generalize val 41 = v41
          generalize val 42 = v42
          generalize val 43 = v43
          generalize val 44 = v44
          generalize val 45 = v45
          generalize val 46 = v46
          generalize val 47 = v47
          generalize val 48 = v48
          generalize val 49 = v49
          generalize val 50 = v50
          simp only [Act.put, List.setIfInBounds_toArray, List.set_cons_zero, List.set_cons_succ]
          clear h51
          have HB6 : Hid (Below w.heap.size w w5) := HB5.out.trans (HR5.out.mono HB5.out.size)
          go_wp2_with (fail)
          go_meet
          case rel => exact ⟨rfl, HB6⟩
        · have q : (K == 0) = false := by simpa using k0
          have HK0 := Lib.hid q
          clear k0 q
          refine regs.wp_region_put (regs.bl) (fun _ wx => JBs [(w.heap.size, [.int .i64 W, .int .i64 H, .slice A l.length c])] wx) [40, 41, 42, 43, 44, 45, 46, 47, 48, 49, 50, 51] (by kernel_rfl) (by kernel_rfl) (fun _ => regs.bl_refl _) (regs.bl_trans) (fun i => (match i with
            | 0 => regs.Say.val _ (.int .i64 K)
            | 1 => regs.Say.val _ (.bool false)
            | 2 => regs.Say.val _ (.bool false)
            | 3 => regs.Say.val _ (undef)
            | 4 => regs.Say.val _ (undef)
            | 5 => regs.Say.val _ (undef)
            | 6 => regs.Say.val _ (undef)
            | 7 => regs.Say.val _ (undef)
            | 8 => regs.Say.val _ (undef)
            | 9 => regs.Say.val _ (undef)
            | 10 => regs.Say.val _ (undef)
            | 11 => regs.Say.val _ (.bool false)
            | _ => regs.Say.any _ : regs.Say (regs.bl)).p) (fun _ => regs.Say.mono _) (by kernel_rfl) ((Below.refl _ _).drew) (HJ5.out) ⟨?_, ?_, ?_, ?_, ?_, ?_, ?_, ?_, ?_, ?_, ?_, ?_, trivial⟩ ?_
          · refine regs.StepOK.plain rfl fun L a w1 hh => ?_
            have h7 : a.tmps[7]?.getD undef = .int .i64 K := by rw [← Array.getD_eq_getD_getElem?]; exact hh.old 7 rfl
            have hJ := Lib.hid hh.st
            clear hh
            go_simp
            exact ⟨_, rfl, regs.bl_refl _, rfl, hJ.out⟩
          · refine regs.StepOK.plain rfl fun L a w1 hh => ?_
            have h40 : a.tmps[40]?.getD undef = .int .i64 K := by rw [← Array.getD_eq_getD_getElem?]; exact hh.dep 0 40 (by kernel_rfl) (by kernel_rfl)
            have q := HK0.out
            have hJ := Lib.hid hh.st
            clear hh
            go_simp
            exact ⟨_, rfl, regs.bl_refl _, rfl, hJ.out⟩
          · refine regs.StepOK.plain rfl fun L a w1 hh => ?_
            have h41 : a.tmps[41]?.getD undef = .bool false := by rw [← Array.getD_eq_getD_getElem?]; exact hh.dep 1 41 (by kernel_rfl) (by kernel_rfl)
            have hJ := Lib.hid hh.st
            clear hh
            go_simp
            exact ⟨_, rfl, regs.bl_refl _, rfl, hJ.out⟩
          · refine regs.StepOK.no 2 true 42 rfl rfl (fun L a w1 hh => ?_) fun L a w1 hh => ⟨rfl, hh.st⟩
            exact hh.dep 2 42 (by kernel_rfl) (by kernel_rfl)
          · refine regs.StepOK.no 2 true 42 rfl rfl (fun L a w1 hh => ?_) fun L a w1 hh => ⟨rfl, hh.st⟩
            exact hh.dep 2 42 (by kernel_rfl) (by kernel_rfl)
          · refine regs.StepOK.no 2 true 42 rfl rfl (fun L a w1 hh => ?_) fun L a w1 hh => ⟨rfl, hh.st⟩
            exact hh.dep 2 42 (by kernel_rfl) (by kernel_rfl)
          · refine regs.StepOK.no 2 true 42 rfl rfl (fun L a w1 hh => ?_) fun L a w1 hh => ⟨rfl, hh.st⟩
            exact hh.dep 2 42 (by kernel_rfl) (by kernel_rfl)
          · refine regs.StepOK.no 2 true 42 rfl rfl (fun L a w1 hh => ?_) fun L a w1 hh => ⟨rfl, hh.st⟩
            exact hh.dep 2 42 (by kernel_rfl) (by kernel_rfl)
          · refine regs.StepOK.no 2 true 42 rfl rfl (fun L a w1 hh => ?_) fun L a w1 hh => ⟨rfl, hh.st⟩
            exact hh.dep 2 42 (by kernel_rfl) (by kernel_rfl)
          · refine regs.StepOK.no 2 true 42 rfl rfl (fun L a w1 hh => ?_) fun L a w1 hh => ⟨rfl, hh.st⟩
            exact hh.dep 2 42 (by kernel_rfl) (by kernel_rfl)
          · refine regs.StepOK.no 2 true 42 rfl rfl (fun L a w1 hh => ?_) fun L a w1 hh => ⟨rfl, hh.st⟩
            exact hh.dep 2 42 (by kernel_rfl) (by kernel_rfl)
          · refine regs.StepOK.plain rfl fun L a w1 hh => ?_
            have h42 : a.tmps[42]?.getD undef = .bool false := by rw [← Array.getD_eq_getD_getElem?]; exact hh.dep 2 42 (by kernel_rfl) (by kernel_rfl)
            have hJ := Lib.hid hh.st
            clear hh
            go_simp
            exact ⟨_, rfl, regs.bl_refl _, rfl, hJ.out⟩
          intro L w5 val hL hJ hR hv
          have h51 : val 51 = .bool false := hv 11 51 (by kernel_rfl)
          have HK5 := Lib.hid hJ
          have HR5 := Lib.hid hR
          clear hv hL hJ hR
          simp only [regs.putAll, List.map_cons, List.map_nil]
          rw [h51]
          generalize val 40 = v40
          generalize val 41 = v41
          generalize val 42 = v42
          generalize val 43 = v43
          generalize val 44 = v44
          generalize val 45 = v45
          generalize val 46 = v46
          generalize val 47 = v47
          generalize val 48 = v48
          generalize val 49 = v49
          generalize val 50 = v50
          simp only [Act.put, List.setIfInBounds_toArray, List.set_cons_zero, List.set_cons_succ]
          clear h51
          have HB6 : Hid (Below w.heap.size w w5) := HB5.out.trans (HR5.out.mono HB5.out.size)
          go_wp2_with (fail)
          go_meet
          case rel => exact ⟨rfl, HB6⟩
      case rest =>
        obtain ⟨rfl, HB6⟩ := hcut
        clear HJ5 HB5 KM5 HFR HR
        have hN := Lib.hid (fun w => new_any u v w)
        unfold NewQ at hN
        rcases zone u with ⟨zu, u1, u2⟩ | ⟨zu, u1, u2, u3⟩ | ⟨zu, u1, u2⟩ | ⟨zu, u1, u2, u3, u4⟩
        case inr.inr.inl =>
          clear zu hN
          go_wp2_with (fail)
          refine (HAW.out _ HB6.out).mono ?_
          rintro e w2 ⟨rfl, hb⟩
          have HB2 := Lib.hid hb
          clear hb
          go_wp2_with (fail)
          go_ret
          exact ⟨rfl, HB2.out⟩
        all_goals rcases zone v with ⟨zv, v1, v2⟩ | ⟨zv, v1, v2, v3⟩ | ⟨zv, v1, v2⟩ | ⟨zv, v1, v2, v3, v4⟩
        case inl.inr.inr.inl | inr.inl.inr.inr.inl | inr.inr.inr.inr.inr.inl =>
          clear zu zv hN
          go_wp2_with (fail)
          refine (HAW.out _ HB6.out).mono ?_
          rintro e w2 ⟨rfl, hb⟩
          have HB2 := Lib.hid hb
          clear hb
          go_wp2_with (fail)
          go_ret
          exact ⟨rfl, HB2.out⟩
        case inr.inl.inr.inl =>
          have hs : sidesB u v = true := sidesB_iff.2 (by omega)
          rw [hs] at hN
          have hm := mul_small hs
          have hw : wrap64 (u * v) = u * v := IntWalk.wrap64_in _ (by omega)
          have HMM := Lib.hid hm
          clear zu zv hs hm
          go_wp2_with (fail)
          refine (hN.out _).mono ?_
          rintro e w6 ⟨hb, hq⟩
          rw [if_pos (by trivial)] at hq
          obtain ⟨g, n, rfl, hnn, hg, hx⟩ := hq
          have HB7 : Hid (Below w.heap.size w w6) := HB6.out.trans (hb.mono HB6.out.size)
          have HX := Lib.hid hx
          have q9 : ((n : Int) == u * v) = true := by rw [hnn]; simp
          have hn63 : n ≤ 16777216 := by have := HMM.out; omega
          have HZ : Hid (∀ k (h : k < n), (List.replicate n 0)[k]'(by simpa using h) = 0) := fun k h => by simp
          clear hb hg hx hnn hN HB6
          unfold imV
          have HBN : Hid (Below w.heap.size w (w6.alloc (.cells #[.int .i64 u, .int .i64 v, .slice (some ⟨g, 0, none⟩) n n] 24))) := HB7.out.alloc HB7.out.size _
          have hb8 : Below w6.heap.size w6 (w6.alloc (.cells #[.int .i64 u, .int .i64 v, .slice (some ⟨g, 0, none⟩) n n] 24)) := (Below.refl _ _).alloc (Nat.le_refl _) _
          have HX8 := Lib.hid (HX.out.below hb8)
          have K8 : Hid (Blk (w6.alloc (.cells #[.int .i64 u, .int .i64 v, .slice (some ⟨g, 0, none⟩) n n] 24)) w6.heap.size [.int .i64 u, .int .i64 v, .slice (some ⟨g, 0, none⟩) n n]) := blk_new w6 [.int .i64 u, .int .i64 v, .slice (some ⟨g, 0, none⟩) n n] _
          clear hb8 HX HB7
          go_wp2_with (fail)
          generalize w6.alloc (.cells #[.int .i64 u, .int .i64 v, .slice (some ⟨g, 0, none⟩) n n] 24) = w7 at *
          generalize w6.heap.size = b7 at *
          go_loopw [111] (fun i wr => ∃ k : Nat, k ≤ n ∧ i = .int .i64 k ∧ wr = w7) (fun i _ => n - (intOf i).toNat)
          case atStart => exact ⟨0, Nat.zero_le _, rfl, rfl⟩
          case round =>
            obtain ⟨k, hk, rfl, rfl⟩ := hrel
            by_cases hlt : k < n
            · have t9 : decide (k < n) = true := by simpa using hlt
              have hc := HX8.out.cell (j := k) (by simpa using hlt)
              rw [HZ.out k hlt] at hc
              have hgi := HX8.out.inside
              unfold eW at hc
              go_wp2_with (fail)
              go_roundw
              case rel => exact ⟨k + 1, by omega, by go_num, by trivial⟩
              case measure => simp [intOf]; omega
            · obtain rfl : k = n := by omega
              have t9 : decide (k < k) = false := by simp
              obtain ⟨⟨c0, c1, c2⟩, -, ci⟩ := K8.out.c3
              go_wp2_with (fail)
              refine (HAW.out _ HBN.out).mono ?_
              rintro e w2 ⟨rfl, hb⟩
              have HB2 := Lib.hid hb
              clear hb
              go_wp2_with (fail)
              go_ret
              exact ⟨rfl, HB2.out⟩
        all_goals
          have hs : sidesB u v = false := decide_eq_false (by omega)
          rw [hs] at hN
          clear zu zv hs
          go_wp2_with (fail)
          refine (hN.out _).mono ?_
          rintro e w6 ⟨hb, hq⟩
          rw [if_neg (by simp)] at hq
          subst hq
          have HB7 : Hid (Below w.heap.size w w6) := HB6.out.trans (hb.mono HB6.out.size)
          have HBN : Hid (Below w.heap.size w (w6.alloc (.cells #[.int .i64 0, .int .i64 0, .slice none 0 0] 24))) := HB7.out.alloc HB7.out.size _
          clear hb hN HB6 HB7
          unfold imV
          go_wp2_with (fail)
          refine (HAW.out _ HBN.out).mono ?_
          rintro e w2 ⟨rfl, hb⟩
          have HB2 := Lib.hid hb
          clear hb
          go_wp2_with (fail)
          go_ret
          exact ⟨rfl, HB2.out⟩
end Go.Proofs.YtboelbmpcbeifaaDoor
